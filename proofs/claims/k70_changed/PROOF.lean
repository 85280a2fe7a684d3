import PyProof.Rows.All
import Wide.All
import OpenK.AllK
import Wide.FinOn
import Lean
import PyProof.EqAt
import PyProof.EqKinds
import PyProof.TupleCall
import KE.KDictOf
import KE.KRevIter
import KE.KMinKey
import KE.KTryDeep
import KE.KIsAll
import KE.KSortTup
import OpenK.KTop
import PyProof.StrBlock
import PySem.Challenge.RW_nonebetter_k70_problems_changed
set_option Elab.async false
set_option linter.all false
set_option maxRecDepth 100000
set_option maxHeartbeats 4000000
set_option bootstrap.genMatcherCode false
set_option compiler.extract_closed false
namespace L2
theorem aRfl (h : True := by rfl) : True := h
theorem aDec (h : True := by decide) : True := h
theorem aFst (h : True := by first | exact .inl rfl | exact .inr rfl | assumption) : True := h
theorem aIrf (h : True := by intro _; rfl) : True := h
end L2
namespace L2
open PySem PySem.Spec PyProof.Rows
noncomputable abbrev Key := Sum Int Str
noncomputable def keyIs : Key → Value → Bool
  | .inl k, v => Value.isInt k v
  | .inr x, v => Value.isStrOf x v
noncomputable def keyH (w : World) : Key → Int
  | .inl k => hashInt k
  | .inr x => hashStr w x
theorem keyIs_shape : ∀ {k : Key} {v : Value}, keyIs k v = true → (∃ i t, k = Sum.inl i ∧ v = Value.int i t) ∨ (∃ x t, k = Sum.inr x ∧ v = Value.str x t)
  | .inl i, v, h => by
    obtain ⟨t, e⟩ := Value.isInt_shape (k := i) (v := v) h
    exact .inl ⟨i, t, rfl, e⟩
  | .inr x, v, h => by
    obtain ⟨t, e⟩ := Value.isStrOf_shape (x := x) (v := v) h
    exact .inr ⟨x, t, rfl, e⟩
theorem key_ll (a b : Int) : decide ((Sum.inl a : Key) = Sum.inl b) = (a == b) := by
  by_cases e : a = b
  · subst e; simp
  · have h : ¬ (Sum.inl a : Key) = Sum.inl b := fun q => e (Sum.inl.inj q)
    rw [decide_eq_false h]
    exact (beq_eq_false_iff_ne.mpr e).symm
theorem key_rr (a b : Str) : decide ((Sum.inr a : Key) = Sum.inr b) = decide (a = b) := by
  by_cases e : a = b
  · subst e; simp
  · have h : ¬ (Sum.inr a : Key) = Sum.inr b := fun q => e (Sum.inr.inj q)
    rw [decide_eq_false h, decide_eq_false e]
theorem key_lr (a : Int) (b : Str) : decide ((Sum.inl a : Key) = Sum.inr b) = false := decide_eq_false (fun q => nomatch q)
theorem key_rl (a : Str) (b : Int) : decide ((Sum.inr a : Key) = Sum.inl b) = false := decide_eq_false (fun q => nomatch q)
noncomputable def mixKind (prog : Program) (w : World) : PySem.KeyKind prog w Key where
  is := keyIs
  hash := keyH w
  inj := fun v a b ha hb => by
    rcases keyIs_shape ha with ⟨i, t, rfl, rfl⟩ | ⟨x, t, rfl, rfl⟩
    · rcases keyIs_shape hb with ⟨j, u, rfl, e⟩ | ⟨y, u, rfl, e⟩
      · injection e with e1 _; rw [e1]
      · exact nomatch e
    · rcases keyIs_shape hb with ⟨j, u, rfl, e⟩ | ⟨y, u, rfl, e⟩
      · exact nomatch e
      · injection e with e1 _; rw [e1]
  byValue := fun k v h => by
    rcases keyIs_shape h with ⟨i, t, rfl, rfl⟩ | ⟨x, t, rfl, rfl⟩ <;> rfl
  pyHash := fun hv h => by
    rcases keyIs_shape hv with ⟨i, t, rfl, rfl⟩ | ⟨x, t, rfl, rfl⟩
    · exact wpAny_pyHash_int h
    · exact wpAny_pyHash_str h
  eqBool := fun hu hv h => by
    rcases keyIs_shape hu with ⟨i, t, rfl, rfl⟩ | ⟨x, t, rfl, rfl⟩
    · rcases keyIs_shape hv with ⟨j, u, rfl, rfl⟩ | ⟨y, u, rfl, rfl⟩
      · rw [key_ll] at h; exact wpAny_eqBool_int h
      · rw [key_lr] at h; exact SeqAt.EqAt.int_str i t y u _ _ _ _ h
    · rcases keyIs_shape hv with ⟨j, u, rfl, rfl⟩ | ⟨y, u, rfl, rfl⟩
      · rw [key_rl] at h; exact SeqAt.EqAt.str_int x t j u _ _ _ _ h
      · rw [key_rr] at h; exact wpAny_eqBool_str h
  «strs» := fun k x t v h => by
    rcases keyIs_shape h with ⟨i, u, rfl, e⟩ | ⟨y, u, rfl, e⟩
    · exact nomatch e
    · injection e with e1 _
      subst e1
      cases v <;> rfl
end L2
namespace L2
open PySem PySem.Spec PyProof.Rows
inductive V where
  | non | bl (b : Bool) | int (i : Int) | str (x : Str) | byt (b : Array UInt8) | flt (b : UInt64) | ref (a : Addr) | ty (n : String)
  deriving DecidableEq
noncomputable def RelV : V → Value → Prop
  | .non, u => u = Value.none
  | .bl b, u => u = Value.bool b
  | .int i, u => ∃ t, u = Value.int i t
  | .str x, u => ∃ t, u = Value.str x t
  | .byt b, u => ∃ t, u = Value.bytes b t
  | .flt b, u => ∃ t, u = Value.float b t
  | .ref a, u => u = Value.ref a
  | .ty n, u => u = Value.type n
noncomputable abbrev Vals : List V → List Value → Prop := Paired RelV
theorem Vals.length {xs : List V} {us : List Value} (r : Vals xs us) : xs.length = us.length := Paired.length r
theorem Vals.get : ∀ {xs : List V} {us : List Value} {i : Nat} {x : V}, Vals xs us → xs[i]? = some x → ∃ u, us[i]? = some u ∧ RelV x u
  | _, _, _, _, .nil, e => by simp at e
  | _, _, 0, _, .cons r _, e => by simp at e; subst e; exact ⟨_, rfl, r⟩
  | _, _, i + 1, x, .cons _ t, e => by
    obtain ⟨u, h1, h2⟩ := Vals.get (i := i) (x := x) t (by simpa using e)
    exact ⟨u, by simpa using h1, h2⟩
theorem Vals.set {x : V} {u : Value} (r : RelV x u) : ∀ {xs : List V} {us : List Value} (i : Nat), Vals xs us → Vals (xs.set i x) (us.set i u)
  | _, _, _, .nil => .nil
  | _, _, 0, .cons _ t => .cons r t
  | _, _, i + 1, .cons q t => .cons q (Vals.set r i t)
theorem Vals.append {xs ys : List V} {us ws : List Value} (h : Vals xs us) (g : Vals ys ws) : Vals (xs ++ ys) (us ++ ws) := by
  induction h with
  | nil => exact g
  | cons r t ih => exact .cons r ih
theorem Vals.take : ∀ {xs : List V} {us : List Value} (n : Nat), Vals xs us → Vals (xs.take n) (us.take n)
  | _, _, 0, _ => .nil
  | _, _, _ + 1, .nil => .nil
  | _, _, n + 1, .cons r t => .cons r (Vals.take n t)
theorem Vals.drop : ∀ {xs : List V} {us : List Value} (n : Nat), Vals xs us → Vals (xs.drop n) (us.drop n)
  | _, _, 0, r => r
  | _, _, _ + 1, .nil => .nil
  | _, _, n + 1, .cons _ t => Vals.drop n t
noncomputable def RelO : Option V → Option Value → Prop
  | some v, some u => RelV v u
  | none, none => True
  | _, _ => False
noncomputable def KV {κ : Type} : List (κ × V) → List (κ × Value) → Prop := Paired fun (p : κ × V) (q : κ × Value) => p.1 = q.1 ∧ RelV p.2 q.2
noncomputable def kV : Key → V
  | .inl i => .int i
  | .inr x => .str x
inductive HO where
  /-- a list -/
  | lst (xs : List V)
  /-- a tuple (never changes) -/
  | tup (xs : List V)
  /-- a dict whose keys are ints and texts; one whose keys are tuples of ints and texts (the empty one is both) -/
  | dK (kvs : List (Key × V)) | dT (kvs : List (List Key × V))
  /-- a set of ints: its members, its size -/
  | set (S : Int → Bool) (n : Nat)
  /-- an instance of the class at C, its dict at dx, its attributes -/
  | ins (C dx : Addr) (fs : List (Str × V))
  /-- the dict of the instance at x -/
  | own (x : Addr)
  /-- the dict of an exception -/
  | xd (fs : List (Str × V))
  /-- a bound method, f of x -/
  | met (f x : Addr)
  /-- a range object lo, lo + 1, .. below hi -/
  | rng (lo hi : Int)
  /-- a thing that is known to the object (the script; a dict while a loop walks it): read, never written while it is so -/
  | frz (o : Obj) (u : HO)
  /-- a code object's table -/
  | tbl (ps : Array Value)
  /-- any other thing, by what is true of its one object (a def of one's own: SetO a S n := HO.ext fun h => ..) -/
  | ext (φ : Heap → Prop)
noncomputable abbrev Hp := Addr → Option HO
noncomputable def upd (H : Hp) (a : Addr) (o : HO) : Hp := fun b => if b = a then some o else H b
theorem upd_same {H : Hp} {a : Addr} {o : HO} : upd H a o a = some o := by unfold upd; rw [if_pos rfl]
theorem upd_ne {H : Hp} {a b : Addr} {o : HO} (h : b ≠ a) : upd H a o b = H b := by unfold upd; rw [if_neg h]
theorem ne_of {H : Hp} {a b : Addr} {o u : HO} (h : H a = some o) (h' : H b = some u) (d : o ≠ u) : a ≠ b := by
  intro e; subst e; rw [h] at h'; exact d (Option.some.inj h')
theorem ne_of_none {H : Hp} {a b : Addr} {o : HO} (h : H a = some o) (h' : H b = none) : a ≠ b := by
  intro e; subst e; rw [h] at h'; cases h'
section
variable (P : Program) (w : World)
noncomputable def ObjOk (H : Hp) (h : Heap) (a : Addr) : HO → Prop
  | .lst xs => xs.length ≤ sizeLine ∧ ∃ (its : List Value) (n : Nat), Vals xs its ∧ h.get? a = some { cls := .type "list", data := .seq its.toArray n }
  | .tup xs => xs.length ≤ sizeLine ∧ ∃ its : List Value, Vals xs its ∧ IsTup h a its.toArray
  | .dK kvs => kvs.length ≤ sizeLine ∧ (a == sysModules) = false ∧ ∃ vs, KV kvs vs ∧ h.DictOf (mixKind P w) a vs
  | .dT kvs => kvs.length ≤ sizeLine ∧ (a == sysModules) = false ∧ ∃ xs : List (List Key × Addr × Value),
      Paired (fun (p : List Key × V) (q : List Key × Addr × Value) => p.1 = q.1 ∧ H q.2.1 = some (.tup (p.1.map kV)) ∧ RelV p.2 q.2.2) kvs xs ∧
      ∃ o es ep, h.get? a = some o ∧ o.ExactDict ∧ o.data = .dict es ep ∧ es.toList = xs.map (entryOfKey (tupleKind (mixKind P w))) ∧ (xs.map (·.1)).Nodup
  | .set S n => h.SetOf (intKind P w) a S n
  | .ins C dx fs => H dx = some (.own a) ∧ fs.length ≤ 1000 ∧ dx ≠ a ∧ h.get? a = some (PySem.W.instObj C dx) ∧
      ∃ mA, h.Ns1 dx mA ∧ (∀ f, RelO (fs.lookup f) (mA f)) ∧ PySem.Within mA (fs.map (·.1))
  | .own _ => ∃ o, h.get? a = some o
  | .xd fs => ∃ mA, h.Ns1 a mA ∧ ∀ f, RelO (fs.lookup f) (mA f)
  | .rng lo hi => ∃ t u v, h.get? a = some { cls := .type "range", data := .fields #[.int lo t, .int hi u, .int 1 v] }
  | .frz o u => h.get? a = some o ∧ ObjOk H h a u
  | .tbl ps => h.get? a = some { cls := .none, data := .fields ps }
  | .met f x => h.get? a = some (PySem.W.methodObj (.ref f) (.ref x))
  | .ext φ => φ h ∧ (∃ o, h.get? a = some o) ∧ ∀ h1 h2 : Heap, φ h1 → (∀ o, h1.get? a = some o → h2.get? a = some o) → φ h2
noncomputable def HOk (H : Hp) (h : Heap) : Prop := ∀ a o, H a = some o → ObjOk P w H h a o
end
section
variable {P : Program} {w : World} {H H' : Hp} {h h' : Heap} {a : Addr} {o : HO}
theorem ObjOk.lt (x : ObjOk P w H h a o) : a < h.objs.size := by
  cases o with
  | lst xs => obtain ⟨_, _, _, _, e⟩ := x; exact Heap.lt_size e
  | tup xs => obtain ⟨_, _, _, p⟩ := x; exact p.lt
  | dK kvs => obtain ⟨_, _, _, _, o, _, _, e, _⟩ := x; exact Heap.lt_size e
  | dT kvs => obtain ⟨_, _, _, _, o, _, _, e, _⟩ := x; exact Heap.lt_size e
  | set S n => obtain ⟨o, _, _, _, e, _⟩ := x; exact Heap.lt_size e
  | ins C dx fs => obtain ⟨_, _, _, e, _⟩ := x; exact Heap.lt_size e
  | own y => obtain ⟨_, e⟩ := x; exact Heap.lt_size e
  | xd fs => obtain ⟨_, ⟨_, _, _, e, _⟩, _⟩ := x; exact Heap.lt_size e
  | rng lo hi => obtain ⟨_, _, _, e⟩ := x; exact Heap.lt_size e
  | frz ob u => obtain ⟨e, _⟩ := x; exact Heap.lt_size e
  | tbl ps => exact Heap.lt_size (show h.get? a = some _ from x)
  | met f y => exact Heap.lt_size (show h.get? a = some _ from x)
  | ext φ => obtain ⟨_, ⟨_, e⟩, _⟩ := x; exact Heap.lt_size e
theorem Paired.mapP {α β : Type} {F G : α → β → Prop} {l₁ : List α} {l₂ : List β} (h : Paired F l₁ l₂) (f : ∀ a b, F a b → G a b) : Paired G l₁ l₂ := by
  induction h with
  | nil => exact .nil
  | cons r t ih => exact .cons (f _ _ r) ih
theorem ObjOk.stay (x : ObjOk P w H h a o) (k : ∀ b u, (b = a ∨ H b = some (.own a)) → h.get? b = some u → h'.get? b = some u)
    (ho : ∀ b, H b = some (.own a) → H' b = some (.own a)) (ht : ∀ b xs, H b = some (.tup xs) → H' b = some (.tup xs)) : ObjOk P w H' h' a o := by
  induction o with
  | lst xs => obtain ⟨z, its, n, r, e⟩ := x; exact ⟨z, its, n, r, k _ _ (.inl rfl) e⟩
  | tup xs => obtain ⟨z, its, r, ob, e, c⟩ := x; exact ⟨z, its, r, ob, k _ _ (.inl rfl) e, c⟩
  | dK kvs => obtain ⟨z, y, vs, r, ob, es, ep, e, c⟩ := x; exact ⟨z, y, vs, r, ob, es, ep, k _ _ (.inl rfl) e, c⟩
  | dT kvs =>
    obtain ⟨z, y, xs, r, ob, es, ep, e, c⟩ := x
    exact ⟨z, y, xs, Paired.mapP r fun p q z => ⟨z.1, ht _ _ z.2.1, z.2.2⟩, ob, es, ep, k _ _ (.inl rfl) e, c⟩
  | set S n => obtain ⟨ob, es, ep, t, e, c⟩ := x; exact ⟨ob, es, ep, t, k _ _ (.inl rfl) e, c⟩
  | ins C dx fs =>
    obtain ⟨d, z, ne, e, mA, ⟨od, es, ep, e2, c⟩, r⟩ := x
    exact ⟨ho _ d, z, ne, k _ _ (.inl rfl) e, mA, ⟨od, es, ep, k _ _ (.inr d) e2, c⟩, r⟩
  | own y => obtain ⟨ob, e⟩ := x; exact ⟨ob, k _ _ (.inl rfl) e⟩
  | xd fs => obtain ⟨mA, ⟨od, es, ep, e, c⟩, r⟩ := x; exact ⟨mA, ⟨od, es, ep, k _ _ (.inl rfl) e, c⟩, r⟩
  | rng lo hi => obtain ⟨t, u, v, e⟩ := x; exact ⟨t, u, v, k _ _ (.inl rfl) e⟩
  | frz ob u ih => obtain ⟨e, q⟩ := x; exact ⟨k _ _ (.inl rfl) e, ih q⟩
  | tbl ps =>
    have e : h.get? a = some { cls := .none, data := .fields ps } := x
    show h'.get? a = some { cls := .none, data := .fields ps }
    exact k a _ (.inl rfl) e
  | met f y =>
    have e : h.get? a = some (PySem.W.methodObj (.ref f) (.ref y)) := x
    show h'.get? a = some (PySem.W.methodObj (.ref f) (.ref y))
    exact k a _ (.inl rfl) e
  | ext φ => obtain ⟨p, ⟨o, e⟩, st⟩ := x; exact ⟨st _ _ p fun o q => k _ _ (.inl rfl) q, ⟨o, k _ _ (.inl rfl) e⟩, st⟩
theorem HOk.lt (x : HOk P w H h) (e : H a = some o) : a < h.objs.size := (x a o e).lt
theorem HOk.fresh (x : HOk P w H h) (e : h.objs.size ≤ a) : H a = none := by
  cases q : H a with
  | none => rfl
  | some u => exact absurd (Nat.lt_of_lt_of_le (x.lt q) e) (Nat.lt_irrefl _)
theorem HOk.kept (x : HOk P w H h) (k : ∀ b u, h.get? b = some u → h'.get? b = some u) : HOk P w H h' := fun a o e =>
  (x a o e).stay (fun b u _ q => k b u q) (fun _ q => q) fun _ _ q => q
theorem HOk.laid (x : HOk P w H h) (k : ∀ b u, h.get? b = some u → h'.get? b = some u) (hp : h.objs.size ≤ a) (new : ObjOk P w (upd H a o) h' a o) : HOk P w (upd H a o) h' := fun b u e => by
  have hn := x.fresh hp
  by_cases hb : b = a
  · subst hb; rw [upd_same] at e; cases e; exact new
  · rw [upd_ne hb] at e
    exact (x b u e).stay (fun c v _ q => k c v q) (fun c q => by rw [upd_ne (ne_of_none q hn)]; exact q) fun c xs q => by rw [upd_ne (ne_of_none q hn)]; exact q
end
noncomputable def Rd (H : Hp) (a : Addr) (u : HO) : Prop := H a = some u ∨ ∃ o, H a = some (.frz o u)
theorem Rd.ok {P : Program} {w : World} {H : Hp} {h : Heap} {a : Addr} {u : HO} (r : Rd H a u) (x : HOk P w H h) : ObjOk P w H h a u := by
  rcases r with r | ⟨o, r⟩
  · exact x a u r
  · obtain ⟨_, q⟩ := x a _ r
    exact q
noncomputable def Mut : Option HO → Prop
  | some (.lst _) => True
  | some (.dK _) => True
  | some (.dT _) => True
  | some (.set _ _) => True
  | some (.ins _ _ _) => True
  | some (.ext _) => True
  | _ => False
section
variable {P : Program} {w : World} {H : Hp} {h h' : Heap} {x e : Addr} {o' : HO}
theorem HOk.write (ok : HOk P w H h) (mu : Mut (H x)) (he : e = x ∨ H e = some (.own x)) (k : ∀ b u, b ≠ e → h.get? b = some u → h'.get? b = some u) (heo : ∃ u, h'.get? e = some u)
    (new : ObjOk P w (upd H x o') h' x o') : HOk P w (upd H x o') h' := fun b u q => by
  have nown : ∀ c y, H c = some (.own y) → c ≠ x := fun c y r z => by subst z; rw [r] at mu; exact mu
  have ntup : ∀ c xs, H c = some (.tup xs) → c ≠ x := fun c xs r z => by subst z; rw [r] at mu; exact mu
  by_cases hb : b = x
  · subst hb; rw [upd_same] at q; cases q; exact new
  · rw [upd_ne hb] at q
    by_cases hbe : b = e
    · have q' : H b = some (.own x) := by
        rcases he with z | z
        · exact absurd (hbe.trans z) hb
        · rw [hbe]; exact z
      rw [q] at q'; cases q'
      obtain ⟨v, hv⟩ := heo
      exact ⟨v, by rw [hbe]; exact hv⟩
    · refine (ok b u q).stay (fun c v hc r => k c v ?_ r) (fun c r => by rw [upd_ne (nown c b r)]; exact r) fun c xs r => by rw [upd_ne (ntup c xs r)]; exact r
      rcases hc with rfl | hc
      · exact hbe
      · rintro rfl
        rcases he with z | z
        · exact nown c b hc z
        · rw [hc] at z; cases z; exact hb rfl
end
structure Un (fs ex : List Addr) (H H' : Hp) (h h' : Heap) : Prop where
  keep : ∀ b o, h.get? b = some o → H b = none → b ∉ fs → b ∉ ex → h'.get? b = some o
  slot : ∀ b o, h.get? b = some o → H b = none → b ∈ fs → b ∉ ex → ∃ sl, h'.get? b = some { o with slots := sl }
  free : ∀ b o, h.get? b = some o → H b = none → b ∉ ex → H' b = none
  there : ∀ b o, h.get? b = some o → b ∉ ex → ∃ o', h'.get? b = some o'
  tups : ∀ b xs, H b = some (.tup xs) → H' b = some (.tup xs)
  frzs : ∀ b o u, H b = some (.frz o u) → H' b = some (.frz o u)
  tbls : ∀ b ps, H b = some (.tbl ps) → ∃ more, H' b = some (.tbl (ps ++ more))
section
variable {fs fs' ex ex' : List Addr} {H H1 H2 : Hp} {h h1 h2 h' : Heap} {a x e : Addr} {o : HO}
theorem Un.any (u : Un fs ex H H1 h h1) {b : Addr} {ob : Obj} (q : h.get? b = some ob) (n : H b = none) (hx : b ∉ ex) : ∃ sl, h1.get? b = some { ob with slots := sl } := by
  by_cases hb : b ∈ fs
  · exact u.slot b ob q n hb hx
  · exact ⟨ob.slots, u.keep b ob q n hb hx⟩
theorem Un.kept (k : ∀ b u, h.get? b = some u → h'.get? b = some u) : Un fs ex H H h h' :=
  ⟨fun b ob q _ _ _ => k b ob q, fun b ob q _ _ _ => ⟨ob.slots, k b ob q⟩, fun _ _ _ n _ => n, fun b ob q _ => ⟨ob, k b ob q⟩, fun _ _ q => q, fun _ _ _ q => q, fun _ ps q => ⟨#[], by rw [q]; simp⟩⟩
theorem Un.refl : Un fs ex H H h h := Un.kept fun _ _ q => q
theorem Un.laid (k : ∀ b u, h.get? b = some u → h'.get? b = some u) (hp : h.objs.size ≤ a) (hn : H a = none) : Un fs ex H (upd H a o) h h' where
  keep := fun b u q _ _ _ => k b u q
  slot := fun b u q _ _ _ => ⟨u.slots, k b u q⟩
  free := fun b u q n _ => by rw [upd_ne (Nat.ne_of_lt (Nat.lt_of_lt_of_le (Heap.lt_size q) hp))]; exact n
  there := fun b u q _ => ⟨u, k b u q⟩
  tups := fun b xs q => by rw [upd_ne (ne_of_none q hn)]; exact q
  frzs := fun b u xs q => by rw [upd_ne (ne_of_none q hn)]; exact q
  tbls := fun b ps q => ⟨#[], by rw [upd_ne (ne_of_none q hn), q]; simp⟩
theorem Un.write (mu : Mut (H x)) (he : e = x ∨ H e = some (.own x)) (k : ∀ b u, b ≠ e → h.get? b = some u → h'.get? b = some u) (heo : ∃ u, h'.get? e = some u) : Un fs ex H (upd H x o) h h' := by
  have hx : ∀ b, H b = none → b ≠ x := fun b n z => by subst z; rw [n] at mu; exact mu
  have hb : ∀ b, H b = none → b ≠ e := fun b n z => by
    subst z
    rcases he with r | r
    · exact hx b n r
    · rw [n] at r; cases r
  have hm : ∀ b u, H b = some u → ¬ Mut (some u) → b ≠ x := fun b u q nm z => by subst z; rw [q] at mu; exact nm mu
  refine ⟨fun b u q n _ _ => k b u (hb b n) q, fun b u q n _ _ => ⟨u.slots, k b u (hb b n) q⟩, fun b u q n _ => by rw [upd_ne (hx b n)]; exact n, fun b u q _ => ?_,
    fun b xs q => by rw [upd_ne (hm b _ q fun z => z)]; exact q, fun b u xs q => by rw [upd_ne (hm b _ q fun z => z)]; exact q, fun b ps q => ⟨#[], by rw [upd_ne (hm b _ q fun z => z), q]; simp⟩⟩
  by_cases hbe : b = e
  · subst hbe; exact heo
  · exact ⟨u, k b u hbe q⟩
end
noncomputable def trk (h : Heap) (H : Hp) : List Addr := (List.range h.objs.size).filter fun a => (H a).isSome
noncomputable def hidT (h : Heap) (H : Hp) : Heap := PySem.W.hideAll h (trk h H)
theorem hidT_size (h : Heap) (H : Hp) : (hidT h H).objs.size = h.objs.size := PySem.W.hideAll_size _ _
theorem hidT_get {h : Heap} {H : Hp} {b : Addr} {o : Obj} (e : h.get? b = some o) (n : H b = none) : (hidT h H).get? b = some o :=
  PySem.W.hideAll_get _ e fun hm => by
    have q : (H b).isSome = true := (List.mem_filter.mp hm).2
    rw [n] at q; simp at q
theorem of_hidT {h : Heap} {H : Hp} {b : Addr} {o : Obj} (e : (hidT h H).get? b = some o) : h.get? b = some o ∧ H b = none := by
  have e' : h.get? b = some o := PySem.W.of_hideAll (trk h H) e
  refine ⟨e', ?_⟩
  cases q : H b with
  | none => rfl
  | some x =>
    have hm : b ∈ trk h H := List.mem_filter.mpr ⟨List.mem_range.mpr (Heap.lt_size e'), by simp [q]⟩
    have z : (hidT h H).get? b = none := PySem.W.hideAll_none (trk h H) hm
    rw [z] at e; cases e
end L2
namespace L2
open PySem PySem.Spec PyProof.Rows
structure Mod (K : PySem.W.Frag) (mg : Str → Option Value) (base : Heap) : Prop where
  kin : K.In base
  glob : base.Ns mainGlobals mg
  blt : ∃ mb, base.Ns builtinsNs mb ∧ ∀ x : Str, x ≠ "__name__" → mb x = bootBuiltins x
  nolimit : base.NoLimit
structure Cx where
  prog : Program
  w : World
  K : PySem.W.Frag
  mg : Str → Option Value
  base : Heap
  A : Around
  N : List Str
  s₀ : Shared
  H₀ : Hp
  env : Env
  outer : List Env
  stack : List Env
  ex : List Addr
  fn : Str → Bool
  calm : Bool
  pn : List (Addr × Obj)
  xe : Value → Shared → Prop
noncomputable def frs (l : List Env) : List Addr := l.filterMap (·.frame)
noncomputable abbrev Cx.fs (X : Cx) : List Addr := frs X.outer
noncomputable def Vis (sc : Scope) (x : Str) : Prop := sc.names.lookup x = some .local ∨ sc.names.lookup x = some .cell ∨ sc.names.lookup x = some .free
noncomputable def Loc (sc : Scope) (x : Str) : Prop := sc.names.lookup x = some .local ∨ sc.names.lookup x = some .cell
noncomputable def Look (env : Env) (h : Heap) (m : Str → Option Value) (x : Str) (u : Value) : Prop :=
  (env.kindOf x = some .local ∧ m x = some u) ∨ ((env.kindOf x = some .cell ∨ env.kindOf x = some .free) ∧ ∃ c, env.cells.lookup x = some c ∧ h.IsCell c (some u))
structure Cx.Ok (X : Cx) : Prop where
  mod : Mod X.K X.mg X.base
  kind : X.env.scope.kind = .function
  glob : X.env.globals = mainGlobals
  blt : X.env.builtins = builtinsNs
  above : X.s₀.heap.objs.size ≤ X.env.locals
  inj : ∀ x y c, X.env.cells.lookup x = some c → X.env.cells.lookup y = some c → x = y
  has : ∀ x, (X.env.kindOf x = some .cell ∨ X.env.kindOf x = some .free) → ∃ c, X.env.cells.lookup x = some c
  cab : ∀ x c, X.fn x = true → X.env.cells.lookup x = some c → X.s₀.heap.objs.size ≤ c
  hd : X.calm = true → X.A.handled = none
  frames : X.A.frames = some X.stack
  stk : X.stack = X.outer ∨ (X.stack = X.env :: X.outer ∧ X.env.frame = some X.env.locals)
  exf : ∀ b ∈ X.ex, b ≠ X.env.locals ∧ ∀ x c, X.env.cells.lookup x = some c → c ≠ b
  bs : ∀ b o, X.base.get? b = some o → X.s₀.heap.get? b = some o ∧ X.H₀ b = none
  bsz : X.base.objs.size ≤ X.s₀.heap.objs.size
  noex : ∀ b o, X.base.get? b = some o → b ∉ X.ex
  exfs : ∀ b ∈ X.ex, b ∉ X.fs
  funs : X.s₀.heap.FunFrames X.base X.outer
  frf : ∀ b ∈ X.fs, X.H₀ b = none
structure Inv (X : Cx) (pins : List (Addr × Obj)) (σ : List (Option V)) (H : Hp) (s : Shared) : Prop where
  ok : X.Ok
  os : s.os = X.s₀.os
  bare : AllBare s.gens
  base : Un X.fs X.ex X.H₀ H X.s₀.heap s.heap
  loc : ∃ m, s.heap.Ns X.env.locals m ∧ ∀ (i : Nat) (x : Str) (v : V), X.N[i]? = some x → σ[i]? = some (some v) → Vis X.env.scope x → ∃ u, RelV v u ∧ Look X.env s.heap m x u
  cell : ∀ x c, X.env.cells.lookup x = some c → ∃ v, s.heap.IsCell c v
  free : H X.env.locals = none
  freeC : ∀ x c, X.env.cells.lookup x = some c → H c = none
  pin : ∀ p ∈ X.pn ++ pins, s.heap.get? p.1 = some p.2 ∧ H p.1 = none ∧ p.1 ≠ X.env.locals ∧ p.1 ∉ X.fs ∧ ∀ v, p.2.data ≠ .cell v
  hok : HOk X.prog X.w H s.heap
  len : σ.length = X.N.length
section
variable {X : Cx} {pins : List (Addr × Obj)} {σ : List (Option V)} {H H' : Hp} {s : Shared} {h' : Heap}
theorem Cx.Ok.nofr (ok : X.Ok) {b : Addr} {o : Obj} (e : X.base.get? b = some o) : b ∉ X.fs := fun hb => by
  have := (ok.funs.mem hb).1
  rw [e] at this; cases this
theorem Inv.bs (I : Inv X pins σ H s) : ∀ b o, X.base.get? b = some o → s.heap.get? b = some o ∧ H b = none := fun b o e =>
  ⟨I.base.keep b o (I.ok.bs b o e).1 (I.ok.bs b o e).2 (I.ok.nofr e) (I.ok.noex b o e), I.base.free b o (I.ok.bs b o e).1 (I.ok.bs b o e).2 (I.ok.noex b o e)⟩
theorem Inv.bk (I : Inv X pins σ H s) : ∀ b o, X.base.get? b = some o → s.heap.get? b = some o := fun b o e => (I.bs b o e).1
theorem Inv.mod (I : Inv X pins σ H s) : Mod X.K X.mg X.base := I.ok.mod
theorem Inv.kIn (I : Inv X pins σ H s) : X.K.In s.heap := I.ok.mod.kin.keeps I.bk
theorem Inv.lt (I : Inv X pins σ H s) : X.env.locals < s.heap.objs.size := let ⟨_, hn, _⟩ := I.loc; hn.lt
theorem Inv.sz (I : Inv X pins σ H s) : X.s₀.heap.objs.size ≤ s.heap.objs.size := Nat.le_trans I.ok.above (Nat.le_of_lt I.lt)
theorem Inv.nofs (I : Inv X pins σ H s) {a : Addr} (h : s.heap.objs.size ≤ a) : a ∉ X.fs := fun hb => by
  obtain ⟨_, o, ho, _⟩ := I.ok.funs.mem hb
  exact absurd (Nat.lt_of_lt_of_le (Heap.lt_size ho) (Nat.le_trans I.sz h)) (Nat.lt_irrefl _)
theorem Inv.cne (I : Inv X pins σ H s) : ∀ x c, X.env.cells.lookup x = some c → c ≠ X.env.locals := fun x c e z => by
  obtain ⟨v, o, ho, hd⟩ := I.cell x c e
  obtain ⟨m, ⟨o', es, ep, ho', hd', _⟩, _⟩ := I.loc
  rw [z, ho'] at ho; cases ho; rw [hd'] at hd; cases hd
theorem Inv.funs (I : Inv X pins σ H s) : s.heap.FunFrames X.base X.outer := by
  have all : ∀ (l : List Env), (∀ b ∈ frs l, b ∈ X.fs) → X.s₀.heap.FunFrames X.base l → s.heap.FunFrames X.base l := by
    intro l
    induction l with
    | nil => intro _ _; trivial
    | cons env r ih =>
      intro hs hl
      obtain ⟨hk, ⟨L, o, hf, hn, ho, hd⟩, hr⟩ := hl
      have hL : L ∈ X.fs := hs L (by unfold frs; rw [List.filterMap_cons, hf]; exact List.mem_cons_self)
      obtain ⟨sl, e⟩ := I.base.slot L o ho (I.ok.frf L hL) hL fun z => I.ok.exfs L z hL
      exact ⟨hk, ⟨L, _, hf, hn, e, hd⟩, ih (fun b hb => hs b (by unfold frs; rw [List.filterMap_cons, hf]; exact List.mem_cons_of_mem _ hb)) hr⟩
  exact all X.outer (fun _ hb => hb) I.ok.funs
theorem Inv.stack (I : Inv X pins σ H s) : s.heap.FunFrames X.base X.stack := by
  rcases I.ok.stk with e | ⟨e, hf⟩
  · rw [e]; exact I.funs
  · rw [e]
    obtain ⟨m, hn, _⟩ := I.loc
    refine .cons (by rw [I.ok.kind]; decide) hf hn ?_ I.funs
    exact Heap.get?_none_of_le (Nat.le_trans I.ok.bsz I.ok.above)
theorem Inv.stkSub (I : Inv X pins σ H s) : ∀ b ∈ frs X.stack, b ∈ X.env.locals :: X.fs := fun b hb => by
  rcases I.ok.stk with e | ⟨e, hf⟩
  · rw [e] at hb; exact List.mem_cons_of_mem _ hb
  · rw [e] at hb
    unfold frs at hb
    rw [List.filterMap_cons, hf] at hb
    exact hb
theorem Inv.stkFree (I : Inv X pins σ H s) : ∀ b ∈ frs X.stack, H b = none := fun b hb => by
  rcases List.mem_cons.mp (I.stkSub b hb) with e | hb
  · rw [e]; exact I.free
  · obtain ⟨_, o, ho, _⟩ := I.ok.funs.mem hb
    exact I.base.free b o ho (I.ok.frf b hb) fun z => I.ok.exfs b z hb
theorem Inv.step {g' : Array GenState} {t' : Nat} {d' : Drawn} {ch : List Addr} (I : Inv X pins σ H s)
    (hch : ∀ b ∈ ch, (b ∈ X.ex ∨ X.s₀.heap.objs.size ≤ b) ∧ b ≠ X.env.locals ∧ (∀ x c, X.env.cells.lookup x = some c → c ≠ b) ∧ ∀ p ∈ X.pn ++ pins, p.1 ≠ b)
    (keep : ∀ b o, b ≠ X.env.locals → b ∉ X.fs → b ∉ ch → s.heap.get? b = some o → H b = none → h'.get? b = some o)
    (slot : ∀ b o, b ≠ X.env.locals → b ∈ X.fs → b ∉ ch → s.heap.get? b = some o → H b = none → ∃ sl, h'.get? b = some { o with slots := sl }) (free : ∀ b o, b ∉ ch → s.heap.get? b = some o → H b = none → H' b = none)
    (there : ∀ b o, b ∉ ch → s.heap.get? b = some o → ∃ o', h'.get? b = some o')
    (tups : ∀ b xs, H b = some (.tup xs) → H' b = some (.tup xs)) (frzs : ∀ b o u, H b = some (.frz o u) → H' b = some (.frz o u)) (tbls : ∀ b ps, H b = some (.tbl ps) → ∃ more, H' b = some (.tbl (ps ++ more)))
    (ns : ∀ m, s.heap.Ns X.env.locals m → h'.Ns X.env.locals m) (hok : HOk X.prog X.w H' h') (hg : AllBare g') :
    Inv X pins σ H' { s with heap := h', gens := g', drawn := d', toks := t' } := by
  have neL : ∀ b o, X.s₀.heap.get? b = some o → b ≠ X.env.locals := fun b o e => Nat.ne_of_lt (Nat.lt_of_lt_of_le (Heap.lt_size e) I.ok.above)
  have neC : ∀ b o, X.s₀.heap.get? b = some o → b ∉ X.ex → b ∉ ch := fun b o e hx hb => by
    rcases (hch b hb).1 with z | z
    · exact hx z
    · exact absurd (Nat.lt_of_lt_of_le (Heap.lt_size e) z) (Nat.lt_irrefl _)
  have cellK : ∀ x c, X.env.cells.lookup x = some c → ∀ v, s.heap.IsCell c v → h'.IsCell c v := fun x c e v ⟨o, ho, hd⟩ => by
    have nch : c ∉ ch := fun z => (hch c z).2.2.1 x c e rfl
    by_cases hc : c ∈ X.fs
    · obtain ⟨sl, q⟩ := slot c o (I.cne x c e) hc nch ho (I.freeC x c e)
      exact ⟨_, q, hd⟩
    · exact ⟨o, keep c o (I.cne x c e) hc nch ho (I.freeC x c e), hd⟩
  refine ⟨I.ok, I.os, hg, ⟨fun b o e n hb hx => ?_, fun b o e n hb hx => ?_, fun b o e n hx => ?_, fun b o e hx => ?_, fun b xs e => tups b xs (I.base.tups b xs e), fun b o xs e => frzs b o xs (I.base.frzs b o xs e), fun b ps e => ?_⟩, ?_, fun x c e => ?_, ?_, fun x c e => ?_, fun p hp => ?_, hok, I.len⟩
  · exact keep b o (neL b o e) hb (neC b o e hx) (I.base.keep b o e n hb hx) (I.base.free b o e n hx)
  · obtain ⟨sl, e1⟩ := I.base.slot b o e n hb hx
    obtain ⟨sl', e2⟩ := slot b _ (neL b o e) hb (neC b o e hx) e1 (I.base.free b o e n hx)
    exact ⟨sl', e2⟩
  · obtain ⟨o', e1⟩ := I.base.there b o e hx
    exact free b o' (neC b o e hx) e1 (I.base.free b o e n hx)
  · obtain ⟨o', e1⟩ := I.base.there b o e hx
    exact there b o' (neC b o e hx) e1
  · obtain ⟨m1, e1⟩ := I.base.tbls b ps e
    obtain ⟨m2, e2⟩ := tbls b _ e1
    exact ⟨m1 ++ m2, by rw [e2, Array.append_assoc]⟩
  · obtain ⟨m, hn, hl⟩ := I.loc
    refine ⟨m, ns m hn, fun i x v e1 e2 e3 => ?_⟩
    obtain ⟨u, r, l⟩ := hl i x v e1 e2 e3
    refine ⟨u, r, ?_⟩
    rcases l with l | ⟨k, c, e, z⟩
    · exact .inl l
    · exact .inr ⟨k, c, e, cellK x c e _ z⟩
  · obtain ⟨v, z⟩ := I.cell x c e
    exact ⟨v, cellK x c e v z⟩
  · obtain ⟨m, ⟨o, _, _, ho, _⟩, _⟩ := I.loc
    exact free _ o (fun z => (hch _ z).2.1 rfl) ho I.free
  · obtain ⟨v, o, ho, hd⟩ := I.cell x c e
    exact free c o (fun z => (hch c z).2.2.1 x c e rfl) ho (I.freeC x c e)
  · obtain ⟨e, n, ne, nf, d⟩ := I.pin p hp
    have nch : p.1 ∉ ch := fun z => (hch p.1 z).2.2.2 p hp rfl
    exact ⟨keep p.1 p.2 ne nf nch e n, free p.1 p.2 nch e n, ne, nf, d⟩
theorem Inv.un {t' : Nat} (I : Inv X pins σ H s) (u : Un X.fs [] H H' s.heap h') (hok : HOk X.prog X.w H' h') : Inv X pins σ H' { s with heap := h', toks := t' } := by
  obtain ⟨m, ⟨o, es, ep, ho, r⟩, _⟩ := id I.loc
  obtain ⟨sl, hL⟩ := u.any ho I.free (by simp)
  exact I.step (g' := s.gens) (d' := s.drawn) (ch := []) (fun _ z => nomatch z) (fun b o _ hb _ e n => u.keep b o e n hb (by simp)) (fun b o _ hb _ e n => u.slot b o e n hb (by simp)) (fun b o _ e n => u.free b o e n (by simp)) (fun b o _ e => u.there b o e (by simp)) u.tups u.frzs u.tbls (fun m' hm => by
    obtain ⟨o', es', ep', ho', r'⟩ := hm
    rw [ho] at ho'; cases ho'
    exact ⟨_, es', ep', hL, r'⟩) hok I.bare
theorem Inv.call {g' : Array GenState} {t' : Nat} {d' : Drawn} {ch : List Addr} (I : Inv X pins σ H s) (u : Un (frs X.stack) ch H H' s.heap h') (hok : HOk X.prog X.w H' h') (hg : AllBare g')
    (hch : ∀ b ∈ ch, (b ∈ X.ex ∨ X.s₀.heap.objs.size ≤ b) ∧ b ≠ X.env.locals ∧ (∀ x c, X.env.cells.lookup x = some c → c ≠ b) ∧ ∀ p ∈ X.pn ++ pins, p.1 ≠ b) :
    Inv X pins σ H' { s with heap := h', gens := g', drawn := d', toks := t' } := by
  obtain ⟨m, ⟨o, es, ep, ho, r⟩, _⟩ := id I.loc
  obtain ⟨sl, hL⟩ := u.any ho I.free fun z => (hch _ z).2.1 rfl
  exact I.step (ch := ch) hch (fun b o hL hb hc e n => u.keep b o e n (fun z => (List.mem_cons.mp (I.stkSub b z)).elim hL hb) hc) (fun b o _ _ hc e n => u.any e n hc) (fun b o hc e n => u.free b o e n hc) (fun b o hc e => u.there b o e hc) u.tups u.frzs u.tbls (fun m' hm => by
    obtain ⟨o', es', ep', ho', r'⟩ := hm
    rw [ho] at ho'; cases ho'
    exact ⟨_, es', ep', hL, r'⟩) hok hg
theorem Inv.turned {t' : Nat} {it : Addr} (I : Inv X pins σ H s) (k : ∀ b o, b ≠ it → s.heap.get? b = some o → h'.get? b = some o) (hn : H it = none) (hL : it ≠ X.env.locals)
    (h1 : it ∈ X.ex ∨ X.s₀.heap.objs.size ≤ it) (h2 : ∀ x c, X.env.cells.lookup x = some c → c ≠ it) (h3 : ∀ p ∈ X.pn ++ pins, p.1 ≠ it) : Inv X pins σ H { s with heap := h', toks := t' } := by
  have nit : ∀ b u, H b = some u → b ≠ it := fun b u e z => by rw [z, hn] at e; cases e
  refine I.step (g' := s.gens) (d' := s.drawn) (ch := [it]) (fun b hb => ?_) (fun b o _ _ hc e _ => k b o (fun z => hc (by simp [z])) e) (fun b o _ _ hc e _ => ⟨o.slots, k b o (fun z => hc (by simp [z])) e⟩) (fun _ _ _ _ n => n)
    (fun b o hc e => ⟨o, k b o (fun z => hc (by simp [z])) e⟩) (fun _ _ e => e) (fun _ _ _ e => e) (fun b ps e => ⟨#[], by rw [e]; simp⟩) (fun m hm => ?_) (fun b u e => ?_) I.bare
  · have e : b = it := by simpa using hb
    subst e
    exact ⟨h1, hL, h2, h3⟩
  · obtain ⟨o, es, ep, ho, r⟩ := hm
    exact ⟨o, es, ep, k _ o (Ne.symm hL) ho, r⟩
  · refine (I.hok b u e).stay (fun c v hc q => k c v ?_ q) (fun _ q => q) fun _ _ q => q
    rcases hc with z | z
    · rw [z]; exact nit b u e
    · exact nit c _ z
theorem Inv.tok (I : Inv X pins σ H s) (t : Nat) : Inv X pins σ H { s with toks := t } := I.un (h' := s.heap) (t' := t) Un.refl I.hok
theorem Inv.kept {t' : Nat} (I : Inv X pins σ H s) (k : ∀ b u, s.heap.get? b = some u → h'.get? b = some u) : Inv X pins σ H { s with heap := h', toks := t' } := I.un (Un.kept k) (I.hok.kept k)
theorem Inv.laid {a : Addr} {o : HO} {t' : Nat} (I : Inv X pins σ H s) (k : ∀ b u, s.heap.get? b = some u → h'.get? b = some u) (hp : s.heap.objs.size ≤ a) (new : ObjOk X.prog X.w (upd H a o) h' a o) :
    Inv X pins σ (upd H a o) { s with heap := h', toks := t' } := I.un (Un.laid k hp (I.hok.fresh hp)) (I.hok.laid k hp new)
theorem Inv.write {x e : Addr} {o : HO} {t' : Nat} (I : Inv X pins σ H s) (mu : Mut (H x)) (he : e = x ∨ H e = some (.own x)) (k : ∀ b u, b ≠ e → s.heap.get? b = some u → h'.get? b = some u) (heo : ∃ u, h'.get? e = some u)
    (new : ObjOk X.prog X.w (upd H x o) h' x o) : Inv X pins σ (upd H x o) { s with heap := h', toks := t' } := I.un (Un.write mu he k heo) (I.hok.write mu he k heo new)
theorem Inv.pins_of {pins' : List (Addr × Obj)} (I : Inv X pins σ H s) (h : ∀ p ∈ pins', s.heap.get? p.1 = some p.2 ∧ H p.1 = none ∧ p.1 ≠ X.env.locals ∧ p.1 ∉ X.fs ∧ ∀ v, p.2.data ≠ .cell v) : Inv X pins' σ H s :=
  ⟨I.ok, I.os, I.bare, I.base, I.loc, I.cell, I.free, I.freeC, fun p hp => (List.mem_append.mp hp).elim (fun z => I.pin p (List.mem_append_left _ z)) (h p), I.hok, I.len⟩
theorem nodup_ix {N : List Str} (hN : N.Nodup) {i j : Nat} {x : Str} (a : N[i]? = some x) (b : N[j]? = some x) : i = j := by
  obtain ⟨h1, e1⟩ := List.getElem?_eq_some_iff.mp a
  obtain ⟨h2, e2⟩ := List.getElem?_eq_some_iff.mp b
  exact (List.getElem_inj hN).mp (e1.trans e2.symm)
theorem store_ok2 {M : Model} {A : Around} {E : Value → Shared → Prop} {i : Nat} {x : Str} {v : V} {u : Value} {Q : Unit → Shared → Prop} (I : Inv X pins σ H s) (hN : X.N.Nodup) (hi : X.N[i]? = some x) (hx : Loc X.env.scope x) (r : RelV v u)
    (h : ∀ s', Inv X pins (σ.set i (some v)) H s' → (∃ a, Heap.SameBut a s.heap s'.heap ∧ (a = X.env.locals ∨ X.env.cells.lookup x = some a)) → Q () s') (hf : autoParam (X.fn x = true ∨ X.env.scope.names.lookup x = some .local) L2.aFst._auto_1) : wpAny M A (storeName X.env x u) Q E s := by
  obtain ⟨m, hn, hl⟩ := id I.loc
  have hcls : (X.env.scope.kind == .class || (X.env.scope.kind == .module && X.env.locals != X.env.globals)) = false := by rw [I.ok.kind]; rfl
  have hiσ : i < σ.length := by rw [I.len]; exact (List.getElem?_eq_some_iff.mp hi).1
  have cne := I.cne
  have tracked : ∀ {a : Addr} {h' : Heap}, (∃ o, s.heap.get? a = some o ∧ H a = none) → Heap.SameBut a s.heap h' → HOk X.prog X.w H h' := fun {a h'} ha hs b ob e => by
    obtain ⟨_, _, hfree⟩ := ha
    refine (I.hok b ob e).stay (fun c w' hc q => (hs.2 c ?_).trans q) (fun _ q => q) fun _ _ q => q
    rintro rfl
    rcases hc with rfl | hc
    · rw [hfree] at e; cases e
    · rw [hfree] at hc; cases hc
  rcases hx with hk | hk
  · refine wpAny_storeName_local hk hn (fun h' hn' hs => ?_) hcls
    obtain ⟨oL, _, _, hoL, _⟩ := id hn
    refine h _ ⟨I.ok, I.os, I.bare, ⟨fun b o e n hb hx => ?_, fun b o e n hb hx => ?_, I.base.free, fun b o e hx => ?_, I.base.tups, I.base.frzs, I.base.tbls⟩, ⟨_, hn', fun j y v' e1 e2 e3 => ?_⟩, fun y c e => ?_, I.free, I.freeC, fun p hp => ?_, tracked ⟨oL, hoL, I.free⟩ hs, by simpa using I.len⟩ ⟨_, hs, .inl rfl⟩
    · exact (hs.2 b (Nat.ne_of_lt (Nat.lt_of_lt_of_le (Heap.lt_size e) I.ok.above))).trans (I.base.keep b o e n hb hx)
    · obtain ⟨sl, e1⟩ := I.base.slot b o e n hb hx
      exact ⟨sl, (hs.2 b (Nat.ne_of_lt (Nat.lt_of_lt_of_le (Heap.lt_size e) I.ok.above))).trans e1⟩
    · obtain ⟨o', e1⟩ := I.base.there b o e hx
      exact ⟨o', (hs.2 b (Nat.ne_of_lt (Nat.lt_of_lt_of_le (Heap.lt_size e) I.ok.above))).trans e1⟩
    · by_cases hj : j = i
      · subst hj
        rw [hi] at e1; cases e1
        rw [List.getElem?_set_self hiσ] at e2
        cases e2
        exact ⟨u, r, .inl ⟨hk, by simp⟩⟩
      · rw [List.getElem?_set_ne (Ne.symm hj)] at e2
        obtain ⟨u', r', q⟩ := hl j y v' e1 e2 e3
        refine ⟨u', r', ?_⟩
        rcases q with ⟨k, e⟩ | ⟨k, c, e, z⟩
        · refine .inl ⟨k, ?_⟩
          have : y ≠ x := fun e => hj (nodup_ix hN e1 (e ▸ hi))
          simp [this, e]
        · exact .inr ⟨k, c, e, z.sameBut hs (cne y c e)⟩
    · obtain ⟨w', z⟩ := I.cell y c e
      exact ⟨w', z.sameBut hs (cne y c e)⟩
    · obtain ⟨e, n, ne, nf, d⟩ := I.pin p hp
      exact ⟨(hs.2 p.1 ne).trans e, n, ne, nf, d⟩
  · have hfn : X.fn x = true := by
      rcases hf with z | z
      · exact z
      · rw [z] at hk; cases hk
    obtain ⟨c, hc⟩ := I.ok.has x (.inl hk)
    obtain ⟨w', z⟩ := I.cell x c hc
    refine wpAny_storeName_cell I.ok.kind hk hc z (fun h' hc' hs => ?_)
    obtain ⟨oc, hoc, hocd⟩ := id z
    refine h { s with heap := h' } ⟨I.ok, I.os, I.bare, ⟨fun b o e n hb hx => ?_, fun b o e n hb hx => ?_, I.base.free, fun b o e hx => ?_, I.base.tups, I.base.frzs, I.base.tbls⟩, ⟨m, hn.sameBut hs (Ne.symm (cne x c hc)), fun j y v' e1 e2 e3 => ?_⟩, fun y c' e => ?_, I.free, I.freeC, fun p hp => ?_, tracked ⟨oc, hoc, I.freeC x c hc⟩ hs, by simpa using I.len⟩ ⟨c, hs, .inr hc⟩
    · exact (hs.2 b (Nat.ne_of_lt (Nat.lt_of_lt_of_le (Heap.lt_size e) (I.ok.cab x c hfn hc)))).trans (I.base.keep b o e n hb hx)
    · obtain ⟨sl, e1⟩ := I.base.slot b o e n hb hx
      exact ⟨sl, (hs.2 b (Nat.ne_of_lt (Nat.lt_of_lt_of_le (Heap.lt_size e) (I.ok.cab x c hfn hc)))).trans e1⟩
    · obtain ⟨o', e1⟩ := I.base.there b o e hx
      exact ⟨o', (hs.2 b (Nat.ne_of_lt (Nat.lt_of_lt_of_le (Heap.lt_size e) (I.ok.cab x c hfn hc)))).trans e1⟩
    · by_cases hj : j = i
      · subst hj
        rw [hi] at e1; cases e1
        rw [List.getElem?_set_self hiσ] at e2
        cases e2
        exact ⟨u, r, .inr ⟨.inl hk, c, hc, hc'⟩⟩
      · rw [List.getElem?_set_ne (Ne.symm hj)] at e2
        obtain ⟨u', r', q⟩ := hl j y v' e1 e2 e3
        refine ⟨u', r', ?_⟩
        rcases q with q | ⟨k, c', e, z'⟩
        · exact .inl q
        · refine .inr ⟨k, c', e, z'.sameBut hs ?_⟩
          rintro rfl
          exact hj (nodup_ix hN e1 (I.ok.inj _ _ _ e hc ▸ hi))
    · by_cases hcc : c' = c
      · subst hcc; exact ⟨_, hc'⟩
      · obtain ⟨w2, z2⟩ := I.cell y c' e
        exact ⟨w2, z2.sameBut hs hcc⟩
    · obtain ⟨e, n, ne, nf, d⟩ := I.pin p hp
      refine ⟨(hs.2 p.1 ?_).trans e, n, ne, nf, d⟩
      intro q
      rw [q, hoc] at e
      have q' : oc = p.2 := Option.some.inj e
      exact d w' (by rw [← q']; exact hocd)
theorem store_ok {M : Model} {A : Around} {E : Value → Shared → Prop} {i : Nat} {x : Str} {v : V} {u : Value} {Q : Unit → Shared → Prop} (I : Inv X pins σ H s) (hN : X.N.Nodup) (hi : X.N[i]? = some x) (hx : Loc X.env.scope x) (r : RelV v u)
    (h : ∀ s', Inv X pins (σ.set i (some v)) H s' → Q () s') (hf : autoParam (X.fn x = true ∨ X.env.scope.names.lookup x = some .local) L2.aFst._auto_1) : wpAny M A (storeName X.env x u) Q E s :=
  store_ok2 I hN hi hx r (fun s' I' _ => h s' I') hf
theorem Inv.call' {s' : Shared} {ch : List Addr} (I : Inv X pins σ H s) (ho : s'.os = s.os) (u : Un (frs X.stack) ch H H' s.heap s'.heap) (hok : HOk X.prog X.w H' s'.heap) (hg : AllBare s'.gens)
    (hch : ∀ b ∈ ch, (b ∈ X.ex ∨ X.s₀.heap.objs.size ≤ b) ∧ b ≠ X.env.locals ∧ (∀ x c, X.env.cells.lookup x = some c → c ≠ b) ∧ ∀ p ∈ X.pn ++ pins, p.1 ≠ b) : Inv X pins σ H' s' := by
  obtain ⟨h', g', d', t', o'⟩ := s'
  have e : o' = s.os := ho
  subst e
  exact I.call (g' := g') (t' := t') (d' := d') u hok hg hch
end
noncomputable abbrev XK := Value → Option Addr → Hp → Prop
noncomputable abbrev St := List (Option V)
noncomputable abbrev VK := V → Hp → Prop
noncomputable abbrev TE := St → Hp → VK → Prop
noncomputable abbrev TT := St → Hp → (Bool → Hp → Prop) → Prop
noncomputable abbrev TA := St → Hp → (List V → Hp → Prop) → Prop
structure Ends where
  nx : St → Hp → Prop
  rt : VK
  bk : St → Hp → Prop := fun _ _ => False
  ct : St → Hp → Prop := fun _ _ => False
noncomputable abbrev TS := Ends → St → Hp → Prop
noncomputable def EP (X : Cx) (pins : List (Addr × Obj)) (σ : St) (Q : VK) (u : Value) (s' : Shared) : Prop := ∃ v H', Inv X pins σ H' s' ∧ RelV v u ∧ Q v H'
noncomputable def TP (X : Cx) (pins : List (Addr × Obj)) (σ : St) (Q : Bool → Hp → Prop) (b : Bool) (s' : Shared) : Prop := ∃ H', Inv X pins σ H' s' ∧ Q b H'
noncomputable def AP (X : Cx) (pins : List (Addr × Obj)) (σ : St) (Q : List V → Hp → Prop) (us : List Value) (s' : Shared) : Prop := ∃ vs H', Inv X pins σ H' s' ∧ Vals vs us ∧ Q vs H'
noncomputable def SP (X : Cx) (pins : List (Addr × Obj)) (D : Ends) (f : Flow) (s' : Shared) : Prop :=
  match f with
  | .next => ∃ σ' H', Inv X pins σ' H' s' ∧ D.nx σ' H'
  | .brk => ∃ σ' H', Inv X pins σ' H' s' ∧ D.bk σ' H'
  | .cont => ∃ σ' H', Inv X pins σ' H' s' ∧ D.ct σ' H'
  | .ret u => ∃ v σ' H', Inv X pins σ' H' s' ∧ RelV v u ∧ D.rt v H'
noncomputable def PE (X : Cx) (e : Expr) (t : TE) : Prop :=
  ∀ (pins : List (Addr × Obj)) (s : Shared) (σ : St) (H : Hp) (Q : VK), Inv X pins σ H s → t σ H Q → wpAny (model X.prog X.w) X.A (eval e X.env) (EP X pins σ Q) X.xe s
noncomputable def PT (X : Cx) (e : Expr) (t : TT) : Prop :=
  ∀ (pins : List (Addr × Obj)) (s : Shared) (σ : St) (H : Hp) (Q : Bool → Hp → Prop), Inv X pins σ H s → t σ H Q → wpAny (model X.prog X.w) X.A (isTrue e X.env (eval e X.env)) (TP X pins σ Q) X.xe s
noncomputable def PW (X : Cx) (e : Expr) (t : TT) : Prop :=
  ∀ (whole : Sem Value) (pins : List (Addr × Obj)) (s : Shared) (σ : St) (H : Hp) (Q : Bool → Hp → Prop), Inv X pins σ H s → t σ H Q → wpAny (model X.prog X.w) X.A (isTrue e X.env whole) (TP X pins σ Q) X.xe s
theorem PW.pt {X : Cx} {e : Expr} {t : TT} (h : PW X e t) : PT X e t := h _
noncomputable def PA (X : Cx) (es : List Expr) (t : TA) : Prop :=
  ∀ (pos : Pos) (pins : List (Addr × Obj)) (s : Shared) (σ : St) (H : Hp) (Q : List V → Hp → Prop), Inv X pins σ H s → t σ H Q → wpAny (model X.prog X.w) X.A (spliced (backTo pos (starEach es X.env))) (AP X pins σ Q) X.xe s
noncomputable def PS (X : Cx) (st : Stmt) (t : TS) : Prop :=
  ∀ (pins : List (Addr × Obj)) (s : Shared) (σ : St) (H : Hp) (D : Ends), Inv X pins σ H s → t D σ H → wpAny (model X.prog X.w) X.A (exec st X.env) (SP X pins D) X.xe s
noncomputable def PSs (X : Cx) (st : List Stmt) (t : TS) : Prop :=
  ∀ (pins : List (Addr × Obj)) (s : Shared) (σ : St) (H : Hp) (D : Ends), Inv X pins σ H s → t D σ H → wpAny (model X.prog X.w) X.A (execs st X.env) (SP X pins D) X.xe s
theorem thn {α : Type} {t : Sem α} {Q Q' : α → Shared → Prop} {M : Model} {A : Around} {E : Value → Shared → Prop} {s : Shared} (h : wpAny M A t Q E s) (hQ : ∀ a s, Q a s → Q' a s) : wpAny M A t Q' E s := wpAny_mono h hQ fun _ _ x => x
end L2
namespace L2
open PySem PySem.Spec PyProof.Rows
section
variable {X : Cx}
noncomputable def tVar (i : Nat) : TE := fun σ H Q => ∃ v, σ[i]? = some (some v) ∧ Q v H
noncomputable def tC (v : V) : TE := fun _ H Q => Q v H
theorem pe_var {i : Nat} {x : Str} {pos : Pos} (hN : X.N[i]? = some x) (hv : Vis X.env.scope x) (hd : autoParam ((x == ("__debug__" : Str)) = false) L2.aDec._auto_1) (hcd : autoParam ((x == ("__classdict__" : Str)) = false) L2.aDec._auto_1) : PE X (.Name x pos) (tVar i) := by
  intro pins s σ H Q I h
  obtain ⟨v, e, h⟩ := h
  obtain ⟨m, hn, hl⟩ := I.loc
  obtain ⟨u, r, l⟩ := hl i x v hN e hv
  have fin : EP X pins σ Q u s := ⟨v, H, I, r, h⟩
  rcases l with ⟨hk, hm⟩ | ⟨hk, c, hc, hcell⟩
  · exact wpAny_Name (wpAny_loadName_local I.ok.kind hk hn hm fin) hd
  · rcases hk with hk | hk
    · exact wpAny_Name (wpAny_loadName_cell I.ok.kind hk hc hcell fin) hd
    · exact wpAny_Name (wpAny_loadName_free I.ok.kind hk hc hcell fin hcd) hd
theorem pe_int {i j pos} : PE X (.Constant (.int i) j pos) (tC (.int i)) := fun _ _ _ H _ I h => wpAny_Constant_int ⟨.int i, H, I.tok _, ⟨_, rfl⟩, h⟩
theorem pe_bl {b j pos} : PE X (.Constant (.bool b) j pos) (tC (.bl b)) := fun _ _ _ H _ I h => Constant_bool ⟨.bl b, H, I, rfl, h⟩
theorem pe_non {j pos} : PE X (.Constant .none j pos) (tC .non) := fun _ _ _ H _ I h => Constant_none ⟨.non, H, I, rfl, h⟩
theorem pe_str {x j pos} : PE X (.Constant (.str x) j pos) (tC (.str x)) := fun _ _ _ H _ I h => Calls.Constant_str ⟨.str x, H, I.tok _, ⟨_, rfl⟩, h⟩
noncomputable def Gl (X : Cx) (x : Str) : Prop := X.env.kindOf x = some .globalImplicit
theorem ld_glob {E : Value → Shared → Prop} {pins : List (Addr × Obj)} {s : Shared} {σ : St} {H : Hp} {x : Str} {u : Value} {pos : Pos} {Q : Value → Shared → Prop} (I : Inv X pins σ H s) (hg : Gl X x) (hm : X.mg x = some u) (h : Q u s)
    (hd : autoParam ((x == ("__debug__" : Str)) = false) L2.aDec._auto_1) : wpAny (model X.prog X.w) X.A (eval (.Name x pos) X.env) Q E s :=
  Calls.Name_function_global I.ok.kind hg (Calls.loadGlobal_global (by rw [I.ok.glob]; exact I.mod.glob.keeps I.bk) hm h) hd
theorem ld_blt {E : Value → Shared → Prop} {pins : List (Addr × Obj)} {s : Shared} {σ : St} {H : Hp} {x : Str} {u : Value} {pos : Pos} {Q : Value → Shared → Prop} (I : Inv X pins σ H s) (hg : Gl X x) (hm : X.mg x = none) (hv : bootBuiltins x = some u) (h : Q u s)
    (hn : autoParam (x ≠ "__name__") L2.aDec._auto_1) (hd : autoParam ((x == ("__debug__" : Str)) = false) L2.aDec._auto_1) : wpAny (model X.prog X.w) X.A (eval (.Name x pos) X.env) Q E s := by
  obtain ⟨mb, h1, h2⟩ := I.mod.blt
  exact Calls.Name_function_global I.ok.kind hg (Calls.loadGlobal_builtin (by rw [I.ok.glob]; exact I.mod.glob.keeps I.bk) hm (by rw [I.ok.blt]; exact h1.keeps I.bk) ((h2 x hn).trans hv) h) hd
theorem pe_glob {x : Str} {v : V} {u : Value} {pos : Pos} (hg : Gl X x) (hm : X.mg x = some u) (r : RelV v u) (hd : autoParam ((x == ("__debug__" : Str)) = false) L2.aDec._auto_1) : PE X (.Name x pos) (tC v) :=
  fun _ _ _ H _ I h => ld_glob I hg hm ⟨v, H, I, r, h⟩ hd
theorem pe_bltn {x : Str} {v : V} {u : Value} {pos : Pos} (hg : Gl X x) (hm : X.mg x = none) (hv : bootBuiltins x = some u) (r : RelV v u) (hn : autoParam (x ≠ "__name__") L2.aDec._auto_1) (hd : autoParam ((x == ("__debug__" : Str)) = false) L2.aDec._auto_1) : PE X (.Name x pos) (tC v) :=
  fun _ _ _ H _ I h => ld_blt I hg hm hv ⟨v, H, I, r, h⟩ hn hd
variable {a b : Expr} {ta tb : TE} {pos : Pos}
noncomputable def PC (X : Cx) (op : CmpOp) (a b : Expr) (t : TE) : Prop :=
  ∀ (pins : List (Addr × Obj)) (s : Shared) (σ : St) (H : Hp) (Q : VK), Inv X pins σ H s → t σ H Q →
    wpAny (model X.prog X.w) X.A (eval a X.env) (fun v s₁ => wpAny (model X.prog X.w) X.A (eval b X.env) (fun u s₂ => wpAny (model X.prog X.w) X.A (compareOp op v u) (EP X pins σ Q) X.xe s₂) X.xe s₁) X.xe s
noncomputable def tB (t : TE) : TT := fun σ H Q => t σ H fun x H1 => ∃ c, x = .bl c ∧ Q c H1
theorem pt_cmp {op : CmpOp} {t : TE} (h : PC X op a b t) (h1 : behindInMarks op b = false := by first | exact nobehind _ (by decide) (by decide) | rfl) : PT X (.Compare a [op] [b] pos) (tB t) := by
  intro pins s σ H Q I hw
  refine wpAny_isTrue_Compare1 (thn (h pins s σ H _ I hw) fun v s1 h1 => thn h1 fun u s2 h2 => thn h2 fun c s3 ⟨x, H1, I1, r1, q1⟩ => ?_) h1
  obtain ⟨d, rfl, q⟩ := q1
  cases r1
  exact wpAny_truthy_bool ⟨H1, I1, q⟩
theorem pt_val {e : Expr} {t : TE} (h : PE X e t) (he : autoParam (∀ whole, isTrue e X.env whole = (do let v ← whole; standAt e.pos; holding [v] (truthy v))) L2.aIrf._auto_1) : PT X e (tB t) := by
  intro pins s σ H Q I hw
  refine isTrue_plain (thn (h pins s σ H _ I hw) fun v s1 ⟨x, H1, I1, r1, q1⟩ => ?_) (he _)
  obtain ⟨d, rfl, q⟩ := q1
  cases r1
  exact wpAny_truthy_bool ⟨H1, I1, q⟩
variable {tA tB' : TT} {rest : List Expr}
noncomputable def tAnd (t u : TT) : TT := fun σ H Q => t σ H fun c H1 => if c = true then u σ H1 Q else Q false H1
noncomputable def tOr (t u : TT) : TT := fun σ H Q => t σ H fun c H1 => if c = true then Q true H1 else u σ H1 Q
noncomputable def tNot (t : TT) : TT := fun σ H Q => t σ H fun c H1 => Q (!c) H1
theorem pw_and1 (ha : PT X a tA) : PW X (.BoolOp .And [a] pos) tA := by
  intro wh pins s σ H Q I h
  refine isTrue_and (thn (ha pins s σ H Q I h) fun c s1 e => ?_)
  cases c with
  | true => exact isTrue_and_nil e
  | false => exact e
theorem pw_or1 (ha : PT X a tA) : PW X (.BoolOp .Or [a] pos) tA := by
  intro wh pins s σ H Q I h
  refine isTrue_or (thn (ha pins s σ H Q I h) fun c s1 e => ?_)
  cases c with
  | false => exact isTrue_or_nil e
  | true => exact e
theorem pw_and (ha : PT X a tA) (hb : PW X (.BoolOp .And (b :: rest) pos) tB') : PW X (.BoolOp .And (a :: b :: rest) pos) (tAnd tA tB') := by
  intro wh pins s σ H Q I h
  refine isTrue_and (thn (ha pins s σ H _ I h) fun c s1 ⟨H1, I1, q1⟩ => ?_)
  cases c with
  | true => exact hb wh pins s1 σ H1 Q I1 q1
  | false => exact ⟨H1, I1, q1⟩
theorem pw_or (ha : PT X a tA) (hb : PW X (.BoolOp .Or (b :: rest) pos) tB') : PW X (.BoolOp .Or (a :: b :: rest) pos) (tOr tA tB') := by
  intro wh pins s σ H Q I h
  refine isTrue_or (thn (ha pins s σ H _ I h) fun c s1 ⟨H1, I1, q1⟩ => ?_)
  cases c with
  | true => exact ⟨H1, I1, q1⟩
  | false => exact hb wh pins s1 σ H1 Q I1 q1
theorem pt_not (ha : PT X a tA) : PT X (.UnaryOp .Not a pos) (tNot tA) := by
  intro pins s σ H Q I h
  exact isTrue_not (ha pins s σ H (fun c H1 => Q (!c) H1) I h)
noncomputable def tAndV (ta tb : TE) : TE := fun σ H Q => ta σ H fun x H1 => ∃ c, x = .bl c ∧ if c = true then tb σ H1 Q else Q (.bl false) H1
noncomputable def tNotV (ta : TE) : TE := fun σ H Q => ta σ H fun x H1 => ∃ c, x = .bl c ∧ Q (.bl (!c)) H1
theorem pe_one {op} {t : TE} (h : PE X a t) : PE X (.BoolOp op [a] pos) t := fun pins s σ H Q I hw => BoolOp_one (h pins s σ H Q I hw)
theorem pe_and (ha : PE X a ta) (hb : PE X (.BoolOp .And (b :: rest) pos) tb) : PE X (.BoolOp .And (a :: b :: rest) pos) (tAndV ta tb) := by
  intro pins s σ H Q I h
  refine BoolOp_and (thn (ha pins s σ H _ I h) fun v s1 ⟨x, H1, I1, r1, q1⟩ => ?_)
  obtain ⟨c, rfl, q1⟩ := q1
  cases r1
  refine wpAny_truthy_bool ?_
  cases c with
  | true => exact hb pins s1 σ H1 Q I1 q1
  | false => exact ⟨.bl false, H1, I1, rfl, q1⟩
theorem pe_not (ha : PE X a ta) : PE X (.UnaryOp .Not a pos) (tNotV ta) := by
  intro pins s σ H Q I h
  refine UnaryOp_ (thn (ha pins s σ H _ I h) fun v s1 ⟨x, H1, I1, r1, q1⟩ => ?_)
  obtain ⟨c, rfl, q1⟩ := q1
  cases r1
  exact not_of (wpAny_truthy_bool ⟨.bl (!c), H1, I1, rfl, q1⟩)
end
end L2
namespace L2
open PySem PySem.Spec PyProof.Rows
noncomputable def SqL (K : PySem.W.Frag) (H : Hp) (a : Addr) (xs : List V) : Prop :=
  Rd H a (.lst xs) ∨
    ∃ (o : Obj) (its : Array Value) (n : Nat), K.lookup a = some o ∧ o.cls = .type "list" ∧ o.dict = none ∧ o.data = .seq its n ∧ its.size ≤ sizeLine ∧ Vals xs its.toList
noncomputable def SqT (K : PySem.W.Frag) (H : Hp) (a : Addr) (xs : List V) : Prop :=
  Rd H a (.tup xs) ∨
    ∃ (o : Obj) (its : Array Value) (n : Nat), K.lookup a = some o ∧ o.cls = .type "tuple" ∧ o.data = .seq its n ∧ its.size ≤ sizeLine ∧ Vals xs its.toList
noncomputable def absV : Value → Option V
  | .none => some .non
  | .bool b => some (.bl b)
  | .int i _ => some (.int i)
  | .str x _ => some (.str x)
  | .bytes b _ => some (.byt b)
  | .float b _ => some (.flt b)
  | .ref a => some (.ref a)
  | .type n => some (.ty n)
  | _ => none
theorem RelV.abs {x : V} {u : Value} (r : RelV x u) : absV u = some x := by
  cases x with
  | non => cases r; rfl
  | bl _ => cases r; rfl
  | int _ => obtain ⟨t, rfl⟩ := r; rfl
  | str _ => obtain ⟨t, rfl⟩ := r; rfl
  | byt _ => obtain ⟨t, rfl⟩ := r; rfl
  | flt _ => obtain ⟨t, rfl⟩ := r; rfl
  | ref _ => cases r; rfl
  | ty _ => cases r; rfl
theorem RelV.inj {x y : V} {u : Value} (r : RelV x u) (q : RelV y u) : x = y := Option.some.inj (r.abs.symm.trans q.abs)
theorem Vals.inj {xs ys : List V} {us : List Value} (h : Vals xs us) (g : Vals ys us) : xs = ys := by
  induction h generalizing ys with
  | nil => cases g; rfl
  | cons r t ih =>
    cases g with
    | cons r' t' => rw [r.inj r', ih t']
section
variable {X : Cx} {pins : List (Addr × Obj)} {σ : St} {H : Hp} {s : Shared} {a : Addr} {xs ys : List V}
theorem Inv.list (I : Inv X pins σ H s) (h : SqL X.K H a xs) : ∃ its : List Value, Vals xs its ∧ PlainL s.heap a its.toArray ∧ xs.length ≤ sizeLine := by
  rcases h with h | ⟨o, its, n, hk, hc, hd, hs, hz, r⟩
  · obtain ⟨z, its, n, r, e⟩ := h.ok I.hok
    exact ⟨its, r, ⟨_, n, e, rfl, rfl, rfl⟩, z⟩
  · refine ⟨its.toList, r, ⟨o, n, I.kIn a o hk, hc, hd, by simpa using hs⟩, ?_⟩
    have e := r.length
    simp only [Array.length_toList] at e
    (exact Nat.le_trans (Nat.le_of_eq (by with_reducible assumption)) (by with_reducible assumption))
theorem Inv.tuple (I : Inv X pins σ H s) (h : SqT X.K H a xs) : ∃ its : List Value, Vals xs its ∧ IsTup s.heap a its.toArray ∧ xs.length ≤ sizeLine := by
  rcases h with h | ⟨o, its, n, hk, hc, hs, hz, r⟩
  · obtain ⟨z, its, r, p⟩ := h.ok I.hok
    exact ⟨its, r, p, z⟩
  · refine ⟨its.toList, r, ⟨o, I.kIn a o hk, hc, n, by simpa using hs⟩, ?_⟩
    have e := r.length
    simp only [Array.length_toList] at e
    (exact Nat.le_trans (Nat.le_of_eq (by with_reducible assumption)) (by with_reducible assumption))
theorem Inv.list_inj (I : Inv X pins σ H s) (h : SqL X.K H a xs) (h' : SqL X.K H a ys) : xs = ys := by
  obtain ⟨its, r, ⟨o, n, e, _, _, d⟩, _⟩ := I.list h
  obtain ⟨its', r', ⟨o', n', e', _, _, d'⟩, _⟩ := I.list h'
  rw [e] at e'; cases e'
  rw [d] at d'
  injection d' with d1 _
  have : its = its' := by simpa using congrArg Array.toList d1
  subst this
  exact r.inj r'
theorem Inv.tuple_inj (I : Inv X pins σ H s) (h : SqT X.K H a xs) (h' : SqT X.K H a ys) : xs = ys := by
  obtain ⟨its, r, ⟨o, e, _, n, d⟩, _⟩ := I.tuple h
  obtain ⟨its', r', ⟨o', e', _, n', d'⟩, _⟩ := I.tuple h'
  rw [e] at e'; cases e'
  rw [d] at d'
  injection d' with d1 _
  have : its = its' := by simpa using congrArg Array.toList d1
  subst this
  exact r.inj r'
end
noncomputable abbrev Cx.wish (X : Cx) (E : Value → Shared → Prop) : Cx := { X with xe := E }
noncomputable abbrev Cx.nox (X : Cx) : Cx := X.wish fun _ _ => False
theorem Cx.Ok.wish {X : Cx} (ok : X.Ok) (E : Value → Shared → Prop) : (X.wish E).Ok :=
  ⟨ok.mod, ok.kind, ok.glob, ok.blt, ok.above, ok.inj, ok.has, ok.cab, ok.hd, ok.frames, ok.stk, ok.exf, ok.bs, ok.bsz, ok.noex, ok.exfs, ok.funs, ok.frf⟩
theorem Cx.Ok.unwish {X : Cx} {E : Value → Shared → Prop} (ok : (X.wish E).Ok) : X.Ok :=
  ⟨ok.mod, ok.kind, ok.glob, ok.blt, ok.above, ok.inj, ok.has, ok.cab, ok.hd, ok.frames, ok.stk, ok.exf, ok.bs, ok.bsz, ok.noex, ok.exfs, ok.funs, ok.frf⟩
section
variable {X : Cx} {pins : List (Addr × Obj)} {σ : St} {H : Hp} {s : Shared} {E : Value → Shared → Prop}
theorem Inv.wish (I : Inv X pins σ H s) (E : Value → Shared → Prop) : Inv (X.wish E) pins σ H s := ⟨I.ok.wish E, I.os, I.bare, I.base, I.loc, I.cell, I.free, I.freeC, I.pin, I.hok, I.len⟩
theorem Inv.unwish (I : Inv (X.wish E) pins σ H s) : Inv X pins σ H s := ⟨I.ok.unwish, I.os, I.bare, I.base, I.loc, I.cell, I.free, I.freeC, I.pin, I.hok, I.len⟩
theorem SP.unwish {D : Ends} {f : Flow} {s' : Shared} (h : SP (X.wish E) pins D f s') : SP X pins D f s' := by
  cases f with
  | next => obtain ⟨σ', H', I, q⟩ := h; exact ⟨σ', H', I.unwish, q⟩
  | brk => obtain ⟨σ', H', I, q⟩ := h; exact ⟨σ', H', I.unwish, q⟩
  | cont => obtain ⟨σ', H', I, q⟩ := h; exact ⟨σ', H', I.unwish, q⟩
  | ret u => obtain ⟨v, σ', H', I, r, q⟩ := h; exact ⟨v, σ', H', I.unwish, r, q⟩
theorem PSs.nox {st : List Stmt} {t : TS} (h : PSs X.nox st t) : PSs X st t := fun pins s σ H D I hw =>
  wpAny_mono (h pins s σ H D (I.wish _) hw) (fun _ _ q => q.unwish) fun _ _ z => False.elim z
end
section
variable {X : Cx} {st : Stmt} {rest : List Stmt} {t u : TS} {e : Expr} {te : TE} {pos : Pos}
noncomputable def tNext : TS := fun D σ H => D.nx σ H
noncomputable def tSeq (t u : TS) : TS := fun D σ H => t { D with nx := u D } σ H
theorem pss_nil : PSs X [] tNext := fun _ _ σ H _ I h => wpAny_execs_nil ⟨σ, H, I, h⟩
theorem pss_cons (h1 : PS X st t) (h2 : PSs X rest u) : PSs X (st :: rest) (tSeq t u) := by
  intro pins s σ H D I h
  refine wpAny_execs_cons (thn (h1 pins s σ H { D with nx := u D } I h) fun f s1 q => ?_)
  cases f with
  | next =>
    obtain ⟨σ', H', I', q⟩ := q
    exact h2 pins s1 σ' H' D I' q
  | ret v => exact q
  | brk => exact q
  | cont => exact q
theorem pss_one (h1 : PS X st t) : PSs X [st] t := by
  intro pins s σ H D I h
  refine wpAny_execs_cons (thn (h1 pins s σ H D I h) fun f s1 q => ?_)
  cases f with
  | next => exact wpAny_execs_nil q
  | ret v => exact q
  | brk => exact q
  | cont => exact q
theorem Inv.quiet {pins : List (Addr × Obj)} {σ : St} {H : Hp} {s : Shared} (I : Inv X pins σ H s) : interactive X.env = false := by simp [interactive, I.ok.kind]
noncomputable def tDrop (te : TE) : TS := fun D σ H => te σ H fun _ H1 => D.nx σ H1
theorem ps_expr (he : PE X e te) (hs : autoParam (swapsWith e none pos.line X.env = pure false) L2.aRfl._auto_1) : PS X (.Expr e pos) (tDrop te) := by
  intro pins s σ H D I h
  exact wpAny_Expr_any (thn (he pins s σ H _ I h) fun v s1 ⟨x, H1, I1, r1, q1⟩ => ⟨σ, H1, I1, q1⟩) I.quiet hs
noncomputable def tRet (te : TE) : TS := fun D σ H => te σ H D.rt
theorem ps_ret (he : PE X e te) : PS X (.Return (some e) pos) (tRet te) := by
  intro pins s σ H D I h
  exact wpAny_Return_some (thn (he pins s σ H _ I h) fun v s1 ⟨x, H1, I1, r1, q1⟩ => ⟨x, σ, H1, I1, r1, q1⟩)
noncomputable def tIfS (c : TT) (t u : TS) : TS := fun D σ H => c σ H fun b H1 => if b = true then t D σ H1 else u D σ H1
theorem ps_if {c : Expr} {a b : List Stmt} {tc : TT} (hc : PT X c tc) (ha : PSs X a t) (hb : PSs X b u) : PS X (.If c a b pos) (tIfS tc t u) := by
  intro pins s σ H D I h
  refine wpAny_If (thn (hc pins s σ H _ I h) fun d s1 ⟨H1, I1, q1⟩ => ?_)
  cases d with
  | true => exact ha pins s1 σ H1 D I1 q1
  | false => exact hb pins s1 σ H1 D I1 q1
end
noncomputable abbrev TG := V → St → Hp → (St → Hp → Prop) → Prop
noncomputable abbrev TGs := List V → St → Hp → (St → Hp → Prop) → Prop
noncomputable def PG (X : Cx) (target : Expr) (t : TG) : Prop :=
  ∀ (pins : List (Addr × Obj)) (s : Shared) (σ : St) (H : Hp) (v : V) (u : Value) (Q : St → Hp → Prop), Inv X pins σ H s → RelV v u → t v σ H Q →
    wpAny (model X.prog X.w) X.A (assign target X.env u) (fun _ s' => ∃ σ' H', Inv X pins σ' H' s' ∧ Q σ' H') X.xe s
noncomputable def PGs (X : Cx) (ts : List Expr) (t : TGs) : Prop :=
  ∀ (pins : List (Addr × Obj)) (s : Shared) (σ : St) (H : Hp) (vs : List V) (us : List Value) (Q : St → Hp → Prop), Inv X pins σ H s → Vals vs us → t vs σ H Q →
    wpAny (model X.prog X.w) X.A (assignInOrder ((assignEach ts X.env).map (·.2)) us) (fun _ s' => ∃ σ' H', Inv X pins σ' H' s' ∧ Q σ' H') X.xe s
noncomputable abbrev TSet := V → V → V → Hp → (Hp → Prop) → Prop
noncomputable def PSet (X : Cx) (t : TSet) : Prop :=
  ∀ (pins : List (Addr × Obj)) (s : Shared) (σ : St) (H : Hp) (o i v : V) (ov iv u : Value) (Q : Hp → Prop), Inv X pins σ H s → RelV o ov → RelV i iv → RelV v u → t o i v H Q →
    wpAny (model X.prog X.w) X.A (setItem ov iv u) (fun _ s' => ∃ H', Inv X pins σ H' s' ∧ Q H') X.xe s
section
variable {X : Cx} {pos : Pos}
noncomputable def gName (i : Nat) : TG := fun v σ H Q => Q (σ.set i (some v)) H
theorem pg_name {i : Nat} {x : Str} (hN : X.N.Nodup) (hi : X.N[i]? = some x) (hx : Loc X.env.scope x) (hf : autoParam (X.fn x = true ∨ X.env.scope.names.lookup x = some .local) L2.aFst._auto_1) : PG X (.Name x pos) (gName i) := by
  intro pins s σ H v u Q I r h
  exact wpAny_assign_Name (store_ok I hN hi hx r (fun s' I' => ⟨_, H, I', h⟩) hf)
noncomputable def gNil : TGs := fun vs σ H Q => vs = [] ∧ Q σ H
noncomputable def gCons (t : TG) (u : TGs) : TGs := fun vs σ H Q => ∃ v r, vs = v :: r ∧ t v σ H fun σ' H' => u r σ' H' Q
theorem pgs_nil : PGs X [] gNil := by
  intro pins s σ H vs us Q I r h
  obtain ⟨e, h⟩ := h
  subst e
  cases r
  exact assignInOrder_nil ⟨σ, H, I, h⟩
theorem pgs_cons {e : Expr} {es : List Expr} {t : TG} {u : TGs} (h1 : PG X e t) (h2 : PGs X es u)
    (hs : autoParam ((assignEach (e :: es) X.env).map (·.2) = assign e X.env :: (assignEach es X.env).map (·.2)) L2.aRfl._auto_1) : PGs X (e :: es) (gCons t u) := by
  intro pins s σ H vs us Q I r h
  obtain ⟨v, vr, e1, h⟩ := h
  subst e1
  cases r with
  | cons r rr =>
    rw [hs]
    refine assignInOrder_cons (thn (h1 pins s σ H _ _ _ I r h) fun _ s1 ⟨σ1, H1, I1, q1⟩ => ?_)
    exact h2 pins s1 σ1 H1 _ _ Q I1 rr q1
noncomputable def gTup (K : PySem.W.Frag) (n : Nat) (t : TGs) : TG := fun v σ H Q => ∃ a xs, v = .ref a ∧ SqT K H a xs ∧ xs.length = n ∧ t xs σ H Q
theorem pg_tup {es : List Expr} {k : Nat} {t : TGs} {n : Nat} (hc : X.calm = true) (h : PGs X es t)
    (hn : autoParam ((assignEach es X.env).length = n) L2.aRfl._auto_1) (hst : autoParam ((assignEach es X.env).findIdx? (·.1) = none) L2.aRfl._auto_1) : PG X (.Tuple es k pos) (gTup X.K n t) := by
  intro pins s σ H v u Q I r hw
  obtain ⟨a, xs, e1, hq, hl, hw⟩ := hw
  subst e1
  cases r
  obtain ⟨its, rv, ht, hz⟩ := I.tuple hq
  refine assign_Tuple_tuple (I.ok.hd hc) ht (by simp [hn, ← hl, rv.length]) hst fun h' hx => ?_
  have I1 : Inv X pins σ H { s with heap := h' } := I.kept (t' := s.toks) fun b o e => hx b o (Nat.ne_of_lt (Heap.lt_size e)) e
  exact h pins _ σ H xs _ Q I1 (by simpa using rv) hw
noncomputable def gSub (to ti : TE) (t : TSet) : TG := fun v σ H Q => to σ H fun o H1 => ti σ H1 fun i H2 => t o i v H2 fun H3 => Q σ H3
theorem pg_sub {o i : Expr} {to ti : TE} {t : TSet} (ho : PE X o to) (hi : PE X i ti) (hs : PSet X t)
    (ha : ∀ v, assign (.Subscript o i pos) X.env v = (do
      let ov ← holding [v] (eval o X.env)
      let iv ← holding [v, ov] (eval i X.env)
      standAt pos
      holding [v, ov, iv] (setItem ov iv v)
      release [v, ov, iv] []) := by intro _; rfl) : PG X (.Subscript o i pos) (gSub to ti t) := by
  intro pins s σ H v u Q I r h
  rw [ha]
  refine wpAny_bind (wpAny_holding (thn (ho pins s σ H _ I h) fun ov s1 ⟨x, H1, I1, r1, q1⟩ => ?_))
  refine wpAny_bind (wpAny_holding (thn (hi pins s1 σ H1 _ I1 q1) fun iv s2 ⟨y, H2, I2, r2, q2⟩ => ?_))
  refine wpAny_bind (wpAny_standAt (wpAny_bind (wpAny_holding (thn (hs pins s2 σ H2 x y v ov iv u _ I2 r1 r2 r q2) fun _ s3 ⟨H3, I3, q3⟩ => ?_))))
  exact wpAny_release ⟨σ, H3, I3, q3⟩
noncomputable def tAsg (te : TE) (g : TG) : TS := fun D σ H => te σ H fun x H1 => g x σ H1 D.nx
theorem ps_asg {tg e : Expr} {te : TE} {g : TG} (he : PE X e te) (hg : PG X tg g) (hs : autoParam (swapsWithSole [tg] e pos.line X.env = pure false) L2.aRfl._auto_1) (hw : autoParam (swappedStores [tg] e X.env = pure none) L2.aRfl._auto_1)
    (h1 : autoParam ((assignEach [tg] X.env).map (·.2) = [assign tg X.env]) L2.aRfl._auto_1) : PS X (.Assign [tg] e pos) (tAsg te g) := by
  intro pins s σ H D I h
  refine wpAny_Assign_stores (thn (he pins s σ H _ I h) fun v s1 ⟨x, H1, I1, r1, q1⟩ => ?_) hs hw
  rw [h1]
  exact thn (hg pins s1 σ H1 x v _ I1 r1 q1) fun _ s2 q => q
theorem ps_set {i : Nat} {x : Str} {e : Expr} {te : TE} {pos' : Pos} (hN : X.N.Nodup) (hi : X.N[i]? = some x) (hx : Loc X.env.scope x) (he : PE X e te) (hs : autoParam (swapsWith e (some (.Name x pos')) pos.line X.env = pure false) L2.aRfl._auto_1) (hf : autoParam (X.fn x = true ∨ X.env.scope.names.lookup x = some .local) L2.aFst._auto_1) :
    PS X (.Assign [.Name x pos'] e pos) (tAsg te (gName i)) := by
  intro pins s σ H D I h
  refine wpAny_Assign_Name (thn (he pins s σ H _ I h) fun v s1 ⟨y, H1, I1, r1, q1⟩ => ?_) hs
  exact store_ok I1 hN hi hx r1 (fun s2 I2 => ⟨_, H1, I2, q1⟩) hf
end
section
variable {X : Cx} {pos : Pos}
end
structure It where
  go : Nat → Hp → Prop
  yld : Nat → Hp → V → Hp → Prop
  stop : Nat → Hp → Prop
noncomputable def FpOk (X : Cx) (pins : List (Addr × Obj)) (H : Hp) (b : Addr) : Prop :=
  H b = none ∧ b ≠ X.env.locals ∧ b ∉ X.fs ∧ (b ∈ X.ex ∨ X.s₀.heap.objs.size ≤ b) ∧ (∀ x c, X.env.cells.lookup x = some c → c ≠ b) ∧ ∀ p ∈ X.pn ++ pins, p.1 ≠ b
theorem Inv.fpOk {X : Cx} {pins : List (Addr × Obj)} {σ : St} {H H' : Hp} {s : Shared} {b : Addr} (I : Inv X pins σ H s) (hb : s.heap.objs.size ≤ b) (hn : H' b = none) : FpOk X pins H' b := by
  refine ⟨hn, Nat.ne_of_gt (Nat.lt_of_lt_of_le I.lt hb), I.nofs hb, .inr (Nat.le_trans I.sz hb), fun x c e z => ?_, fun p hp z => ?_⟩
  · obtain ⟨v, q⟩ := I.cell x c e
    exact absurd (Nat.lt_of_lt_of_le q.lt (by rw [z]; exact hb)) (Nat.lt_irrefl _)
  · exact absurd (Nat.lt_of_lt_of_le (Heap.lt_size (I.pin p hp).1) (by rw [z]; exact hb)) (Nat.lt_irrefl _)
structure Turn (P : Program) (w : World) (K : PySem.W.Frag) (tg : Expr) (J : It) (fp : List Addr) (it : Addr) (tn : Nat → Heap → Prop) : Prop where
  mem : it ∈ fp
  obj : ∀ i h, tn i h → ∀ b ∈ fp, ∃ o, h.get? b = some o ∧ ∀ v, o.data ≠ .cell v
  keep : ∀ i h h', tn i h → (∀ b ∈ fp, ∀ o, h.get? b = some o → h'.get? b = some o) → tn i h'
  item : ∀ (X : Cx), X.prog = P → X.w = w → X.K = K → X.calm = true → ∀ (i : Nat) (pins : List (Addr × Obj)) (s : Shared) (σ : St) (H : Hp) (E : Value → Shared → Prop), Inv X pins σ H s → (∀ b ∈ fp, FpOk X pins H b) → tn i s.heap → J.go i H →
    wpAny (model P w) X.A (pyNext (.ref it)) (fun r s1 => ∃ u, r = some u ∧
      wpAny (model P w) X.A (letOwnedTupleGo tg (.ref it) u) (fun _ s2 => ∃ x H', Inv X pins σ H' s2 ∧ RelV x u ∧ J.yld i H x H' ∧ tn (i + 1) s2.heap ∧ ∀ b ∈ fp, H' b = none) E s1) E s
  done : ∀ (X : Cx), X.prog = P → X.w = w → X.K = K → X.calm = true → ∀ (i : Nat) (pins : List (Addr × Obj)) (s : Shared) (σ : St) (H : Hp) (E : Value → Shared → Prop), Inv X pins σ H s → (∀ b ∈ fp, FpOk X pins H b) → tn i s.heap → J.stop i H →
    wpAny (model P w) X.A (pyNext (.ref it)) (fun r s1 => r = none ∧ Inv X pins σ H s1) E s
  self : ∀ (A : Around) (i : Nat) (s : Shared) (Q : Value → Shared → Prop) (E : Value → Shared → Prop), tn i s.heap → Q (.ref it) s → wpAny (model P w) A (pyIter (.ref it)) Q E s
noncomputable abbrev TI := St → Hp → (It → Hp → Prop) → Prop
noncomputable def PIE (X : Cx) (pins : List (Addr × Obj)) (σ : St) (tg : Expr) (R : It → Hp → Prop) (itv : Value) (s2 : Shared) : Prop :=
  ∃ (it : Addr) (fp : List Addr) (tn : Nat → Heap → Prop) (J : It) (H' : Hp), itv = .ref it ∧ Inv X pins σ H' s2 ∧ Turn X.prog X.w X.K tg J fp it tn ∧ tn 0 s2.heap ∧ (∀ b ∈ fp, FpOk X pins H' b) ∧ R J H'
noncomputable def PI (X : Cx) (tg iter : Expr) (wi : TI) : Prop :=
  ∀ (pins : List (Addr × Obj)) (s : Shared) (σ : St) (H : Hp) (R : It → Hp → Prop), Inv X pins σ H s → wi σ H R →
    wpAny (model X.prog X.w) X.A (eval iter X.env) (fun v s1 => wpAny (model X.prog X.w) X.A (pyIter v) (PIE X pins σ tg R) X.xe s1) X.xe s
theorem go_of {M : Model} {A : Around} {E : Value → Shared → Prop} {s : Shared} {tg : Expr} {it : Addr} {u : Value} {o : Obj} {n : String} {vs : Array Value} {Q : Unit → Shared → Prop} (ho : s.heap.get? it = some o) (hc : o.cls = .type n) (hd : o.data = .fields vs)
    (hn : ["enumerate", "zip", "dict_itemiterator", "dict_reverseitemiterator", "odict_iterator", "itertools.zip_longest", "itertools.pairwise"].contains n = false) (hQ : Q () s) : wpAny M A (letOwnedTupleGo tg (.ref it) u) Q E s := by
  unfold letOwnedTupleGo
  cases tg <;> first
    | exact wpAny_pure hQ
    | (cases u <;> first
        | exact wpAny_pure hQ
        | (refine wpAny_bind (wpAny_load ho ?_)
           rw [hc, hd]
           show wpAny M A (if (["enumerate", "zip", "dict_itemiterator", "dict_reverseitemiterator", "odict_iterator", "itertools.zip_longest", "itertools.pairwise"].contains n && vs[0]? == some (rawInt _)) = true then _ else _) Q E s
           rw [if_neg (by intro h; rw [hn, Bool.false_and] at h; cases h)]
           exact wpAny_pure hQ))
noncomputable def Itl (K : PySem.W.Frag) (a : Addr) : It :=
  ⟨fun i H => ∃ xs x, SqL K H a xs ∧ xs[i]? = some x, fun i H x H' => H' = H ∧ ∀ xs, SqL K H a xs → xs[i]? = some x, fun i H => ∃ xs, SqL K H a xs ∧ xs.length ≤ i⟩
noncomputable def Itt (K : PySem.W.Frag) (a : Addr) : It :=
  ⟨fun i H => ∃ xs x, SqT K H a xs ∧ xs[i]? = some x, fun i H x H' => H' = H ∧ ∀ xs, SqT K H a xs → xs[i]? = some x, fun i H => ∃ xs, SqT K H a xs ∧ xs.length ≤ i⟩
noncomputable def Itr (lo : Int) (n : Nat) : It := ⟨fun i _ => i < n, fun i H x H' => H' = H ∧ x = .int (lo + i), fun i _ => n ≤ i⟩
theorem turn_list {P : Program} {w : World} {K : PySem.W.Frag} {tg : Expr} (a it : Addr) : Turn P w K tg (Itl K a) [it] it (fun i h => h.IsListIter it a i) where
  mem := by simp
  obj := fun i h st b hb => by
    have e : b = it := by simpa using hb
    subst e
    obtain ⟨o, e, c, d⟩ := st
    exact ⟨o, e, fun v z => by rw [d] at z; cases z⟩
  keep := fun i h h' st k => st.at fun o e => k it (by simp) o e
  item := by
    intro X hP hw hK hc i pins s σ H E I hf st hg
    subst hP hw hK
    obtain ⟨xs, x, hq, hx⟩ := hg
    obtain ⟨its, rv, p, hz⟩ := I.list hq
    obtain ⟨u, hu, ru⟩ := rv.get hx
    obtain ⟨f0, f1, f2, f3, f4, f5⟩ := hf it (by simp)
    refine wpAny_pyNext_list_item st p.isList (x := u) (by simpa using hu) fun h' st' sb => ?_
    have I1 : Inv X pins σ H { s with heap := h' } := I.turned (t' := s.toks) (fun b o hb e => (sb.2 b hb).trans e) f0 f1 f3 f4 f5
    obtain ⟨o, e, c, d⟩ := id st'
    exact ⟨u, rfl, go_of (s := { s with heap := h' }) e c d (by decide) ⟨x, H, I1, ru, ⟨rfl, fun ys hy => by rw [I.list_inj hy hq]; exact hx⟩, st', fun b hb => (hf b hb).1⟩⟩
  done := by
    intro X hP hw hK hc i pins s σ H E I hf st hg
    subst hP hw hK
    obtain ⟨xs, hq, hx⟩ := hg
    obtain ⟨its, rv, p, hz⟩ := I.list hq
    obtain ⟨f0, f1, f2, f3, f4, f5⟩ := hf it (by simp)
    have hl := rv.length
    exact wpAny_pyNext_list_end (I.ok.hd hc) st p.isList (by simp; (exact Nat.le_trans (Nat.le_of_eq (Eq.symm (by with_reducible assumption))) (by with_reducible assumption))) fun h' eb => ⟨rfl, I.turned (t' := s.toks) (fun b o hb e => eb b o hb e) f0 f1 f3 f4 f5⟩
  self := fun _ _ _ _ _ st h => wpAny_pyIter_listiter st h
theorem turn_tuple {P : Program} {w : World} {K : PySem.W.Frag} {tg : Expr} (a it : Addr) : Turn P w K tg (Itt K a) [it] it (fun i h => h.IsTupleIter it a i) where
  mem := by simp
  obj := fun i h st b hb => by
    have e : b = it := by simpa using hb
    subst e
    obtain ⟨o, e, c, d⟩ := st
    exact ⟨o, e, fun v z => by rw [d] at z; cases z⟩
  keep := fun i h h' st k => st.at fun o e => k it (by simp) o e
  item := by
    intro X hP hw hK hc i pins s σ H E I hf st hg
    subst hP hw hK
    obtain ⟨xs, x, hq, hx⟩ := hg
    obtain ⟨its, rv, p, hz⟩ := I.tuple hq
    obtain ⟨u, hu, ru⟩ := rv.get hx
    obtain ⟨f0, f1, f2, f3, f4, f5⟩ := hf it (by simp)
    refine wpAny_pyNext_tuple_item st (show s.heap.IsTuple a its.toArray from p) (x := u) (by simpa using hu) fun h' st' sb => ?_
    have I1 : Inv X pins σ H { s with heap := h' } := I.turned (t' := s.toks) (fun b o hb e => (sb.2 b hb).trans e) f0 f1 f3 f4 f5
    obtain ⟨o, e, c, d⟩ := id st'
    exact ⟨u, rfl, go_of (s := { s with heap := h' }) e c d (by decide) ⟨x, H, I1, ru, ⟨rfl, fun ys hy => by rw [I.tuple_inj hy hq]; exact hx⟩, st', fun b hb => (hf b hb).1⟩⟩
  done := by
    intro X hP hw hK hc i pins s σ H E I hf st hg
    subst hP hw hK
    obtain ⟨xs, hq, hx⟩ := hg
    obtain ⟨its, rv, p, hz⟩ := I.tuple hq
    obtain ⟨f0, f1, f2, f3, f4, f5⟩ := hf it (by simp)
    have hl := rv.length
    exact wpAny_pyNext_tuple_end (I.ok.hd hc) st (show s.heap.IsTuple a its.toArray from p) (by simp; (exact Nat.le_trans (Nat.le_of_eq (Eq.symm (by with_reducible assumption))) (by with_reducible assumption))) fun h' eb => ⟨rfl, I.turned (t' := s.toks) (fun b o hb e => eb b o hb e) f0 f1 f3 f4 f5⟩
  self := fun _ _ _ _ _ st h => wpAny_pyIter_tupleiter st h
theorem turn_range {P : Program} {w : World} {K : PySem.W.Frag} {tg : Expr} (it : Addr) (lo : Int) (n : Nat) : Turn P w K tg (Itr lo n) [it] it (fun i h => IsRangeIter h it (lo + (i : Nat) * 1) ((n : Int) - (i : Nat)) 1) where
  mem := by simp
  obj := fun i h st b hb => by
    have e : b = it := by simpa using hb
    subst e
    exact ⟨_, st, fun v z => by
      have z' : Data.fields _ = Data.cell v := z
      cases z'⟩
  keep := fun i h h' st k => k it (by simp) _ st
  item := by
    intro X hP hw hK hc i pins s σ H E I hf st hg
    subst hP hw hK
    obtain ⟨f0, f1, f2, f3, f4, f5⟩ := hf it (by simp)
    have W := Walks.range (prog := X.prog) (w := X.w) (I.ok.hd hc) it lo 1 n
    refine W.item i s _ _ hg st fun v h' tk hv st' kk => ?_
    obtain ⟨t, rfl⟩ := hv
    have I1 : Inv X pins σ H { s with heap := h', toks := tk } := I.turned (fun b o hb e => kk b o (by simpa using hb) e) f0 f1 f3 f4 f5
    refine ⟨_, rfl, go_of (s := { s with heap := h', toks := tk }) (n := "range_iterator") st' rfl rfl (by decide) ⟨.int (lo + i), H, I1, ⟨t, ?_⟩, ⟨rfl, rfl⟩, st', fun b hb => (hf b hb).1⟩⟩
    rw [Int.mul_one]
  done := by
    intro X hP hw hK hc i pins s σ H E I hf st hg
    subst hP hw hK
    obtain ⟨f0, f1, f2, f3, f4, f5⟩ := hf it (by simp)
    exact wpAny_pyNext_range_end (I.ok.hd hc) st (by have : n ≤ i := hg; (clear f2 f3; omega)) fun h' eb => ⟨rfl, I.turned (t' := s.toks) (fun b o hb e => eb b o hb e) f0 f1 f3 f4 f5⟩
  self := fun _ _ _ _ _ st h => wpAny_pyIter_rangeiter st h
end L2
namespace L2
open PySem PySem.Spec PyProof.Rows
section
variable {X : Cx} {tg : Expr}
noncomputable def iList (K : PySem.W.Frag) (tl : TE) : TI := fun σ H R => tl σ H fun x H1 => ∃ a, x = .ref a ∧ (∃ xs, SqL K H1 a xs) ∧ R (Itl K a) H1
noncomputable def iTup (K : PySem.W.Frag) (tl : TE) : TI := fun σ H R => tl σ H fun x H1 => ∃ a, x = .ref a ∧ (∃ xs, SqT K H1 a xs) ∧ R (Itt K a) H1
theorem pi_list {l : Expr} {tl : TE} (hl : PE X l tl) : PI X tg l (iList X.K tl) := by
  intro pins s σ H R I h
  refine thn (hl pins s σ H _ I h) fun v s1 ⟨x, H1, I1, r1, q1⟩ => ?_
  obtain ⟨a, e, ⟨xs, hq⟩, q⟩ := q1
  subst e
  cases r1
  obtain ⟨its, rv, p, hz⟩ := I1.list hq
  refine wpAny_pyIter_list p.isList ?_
  refine ⟨s1.heap.objs.size, [s1.heap.objs.size], _, _, H1, rfl, I1.kept (t' := s1.toks) fun b o e => Heap.get?_push_of_some _ e, turn_list a _, ⟨_, Heap.get?_push_size _ rfl, rfl, rfl⟩, fun b hb => ?_, q⟩
  have e : b = s1.heap.objs.size := by simpa using hb
  subst e
  exact I1.fpOk (Nat.le_refl _) (I1.hok.fresh (Nat.le_refl _))
theorem pi_tup {l : Expr} {tl : TE} (hl : PE X l tl) : PI X tg l (iTup X.K tl) := by
  intro pins s σ H R I h
  refine thn (hl pins s σ H _ I h) fun v s1 ⟨x, H1, I1, r1, q1⟩ => ?_
  obtain ⟨a, e, ⟨xs, hq⟩, q⟩ := q1
  subst e
  cases r1
  obtain ⟨its, rv, p, hz⟩ := I1.tuple hq
  refine wpAny_pyIter_tuple (show s1.heap.IsTuple a its.toArray from p) ?_
  refine ⟨s1.heap.objs.size, [s1.heap.objs.size], _, _, H1, rfl, I1.kept (t' := s1.toks) fun b o e => Heap.get?_push_of_some _ e, turn_tuple a _, ⟨_, Heap.get?_push_size _ rfl, rfl, rfl⟩, fun b hb => ?_, q⟩
  have e : b = s1.heap.objs.size := by simpa using hb
  subst e
  exact I1.fpOk (Nat.le_refl _) (I1.hok.fresh (Nat.le_refl _))
theorem range_it {pins : List (Addr × Obj)} {σ : St} {H : Hp} {s : Shared} {R : It → Hp → Prop} {E : Value → Shared → Prop} {lo hi : Int} {t u v : Tok} {tk : Nat} (I : Inv X pins σ H s) (h1 : -(2 ^ 62) ≤ lo) (h2 : lo < 2 ^ 62) (h3 : -(2 ^ 62) ≤ hi) (h4 : hi < 2 ^ 62)
    (q : R (Itr lo (hi - lo).toNat) H) : wpAny (model X.prog X.w) X.A (pyIter (.ref s.heap.objs.size)) (PIE X pins σ tg R) E { s with heap := s.heap.push { cls := .type "range", data := .fields #[.int lo t, .int hi u, .int 1 v] }, toks := tk } := by
  refine wpAny_pyIter_range (IsRange.new ..) (small_one h1 h2 h3 h4) ?_
  have I1 : Inv X pins σ H { s with heap := s.heap.push { cls := .type "range", data := .fields #[.int lo t, .int hi u, .int 1 v] }, toks := tk } := I.kept fun b o e => Heap.get?_push_of_some _ e
  refine ⟨(s.heap.push { cls := .type "range", data := .fields #[.int lo t, .int hi u, .int 1 v] }).objs.size, [(s.heap.push { cls := .type "range", data := .fields #[.int lo t, .int hi u, .int 1 v] }).objs.size], _, _, H, rfl,
    I1.kept (t' := tk) fun b o e => Heap.get?_push_of_some _ e, turn_range _ lo (hi - lo).toNat, ?_, fun b hb => ?_, q⟩
  · have e1 : lo + ((0 : Nat) : Int) * 1 = lo := by simp
    have e2 : (((hi - lo).toNat : Nat) : Int) - ((0 : Nat) : Int) = Builtin.Range.rangeSize lo hi 1 := by rw [rangeSize_one]; split <;> (clear e1 h1 h2 h3 h4; omega)
    show IsRangeIter _ _ (lo + ((0 : Nat) : Int) * 1) ((((hi - lo).toNat : Nat) : Int) - ((0 : Nat) : Int)) 1
    rw [e1, e2]
    exact Heap.get?_push_size _ rfl
  · have e : b = (s.heap.push { cls := .type "range", data := .fields #[.int lo t, .int hi u, .int 1 v] }).objs.size := by simpa using hb
    subst e
    exact I1.fpOk (Nat.le_refl _) (I1.hok.fresh (Nat.le_refl _))
noncomputable def iRng1 (ta : TA) : TI := fun σ H R => ta σ H fun vs H1 => ∃ j : Int, vs = [.int j] ∧ -(2 ^ 62) ≤ j ∧ j < 2 ^ 62 ∧ R (Itr 0 j.toNat) H1
theorem pi_range1 {a : Expr} {ta : TA} {p pos : Pos} (hg : Gl X "range") (hm : X.mg "range" = none) (ha : PA X [a] ta) (hs : autoParam (starEach [a] X.env = [(false, eval a X.env)]) L2.aRfl._auto_1) : PI X tg (.Call (.Name "range" p) [a] [] pos) (iRng1 ta) := by
  intro pins s σ H R I h
  refine Call_ (ld_blt I hg hm boot_range (PyProof.Rows.callWith_type1 (thn (ha pos pins s σ H _ I h) fun us s1 ⟨vs, H1, I1, r1, q1⟩ => ?_) hs rfl))
  obtain ⟨j, e, q1, q2, q⟩ := q1
  subst e
  cases r1 with
  | cons r rr =>
    cases rr
    obtain ⟨t, rfl⟩ := r
    exact call_range_1 (range_it I1 (by (exact Int.natCast_nonneg _)) (by (exact Int.natCast_nonneg _)) q1 q2 (by simpa using q))
noncomputable def tFor (wi : TI) (g : TG) (tb : TS) : TS := fun D σ H => wi σ H fun J H1 => ∃ W : Nat → Nat → St → Hp → Prop, (∃ m, W 0 m σ H1) ∧ ∀ i m σ H, W i m σ H →
  (J.stop i H ∧ D.nx σ H) ∨ (J.go i H ∧ ∃ N : St → Hp → Prop, (∀ σ' H', N σ' H' → ∃ m', m' < m ∧ W (i + 1) m' σ' H') ∧ ∀ x H', J.yld i H x H' → g x σ H' fun σ2 H2 => tb { D with nx := N, ct := N, bk := D.nx } σ2 H2)
noncomputable def pinsAt (fp : List Addr) (h : Heap) : List (Addr × Obj) := fp.filterMap fun b => (h.get? b).map fun o => (b, o)
theorem mem_pinsAt {fp : List Addr} {h : Heap} {b : Addr} {o : Obj} (hb : b ∈ fp) (e : h.get? b = some o) : (b, o) ∈ pinsAt fp h := List.mem_filterMap.mpr ⟨b, hb, by rw [e]; rfl⟩
theorem of_pinsAt {fp : List Addr} {h : Heap} {p : Addr × Obj} (hp : p ∈ pinsAt fp h) : p.1 ∈ fp ∧ h.get? p.1 = some p.2 := by
  obtain ⟨b, hb, e⟩ := List.mem_filterMap.mp hp
  cases q : h.get? b with
  | none => rw [q] at e; cases e
  | some o =>
    rw [q] at e
    have e' : (b, o) = p := Option.some.inj e
    subst e'
    exact ⟨hb, q⟩
theorem Inv.pinned {pins : List (Addr × Obj)} {σ : St} {H : Hp} {s : Shared} {fp : List Addr} (I : Inv X pins σ H s) (hf : ∀ b ∈ fp, FpOk X pins H b) (ho : ∀ b ∈ fp, ∃ o, s.heap.get? b = some o ∧ ∀ v, o.data ≠ .cell v) : Inv X (pins ++ pinsAt fp s.heap) σ H s :=
  I.pins_of fun p hp => (List.mem_append.mp hp).elim (fun z => I.pin p (List.mem_append_right _ z)) fun z => by
    obtain ⟨hb, e⟩ := of_pinsAt z
    obtain ⟨f0, f1, f2, _⟩ := hf p.1 hb
    obtain ⟨o, e', d⟩ := ho p.1 hb
    rw [e] at e'; cases e'
    exact ⟨e, f0, f1, f2, d⟩
theorem Inv.unpinned {pins pl : List (Addr × Obj)} {σ : St} {H : Hp} {s : Shared} (I : Inv X (pins ++ pl) σ H s) : Inv X pins σ H s := I.pins_of fun p hp => I.pin p (List.mem_append_right _ (List.mem_append_left _ hp))
theorem ps_for {iter : Expr} {body : List Stmt} {wi : TI} {g : TG} {tb : TS} {pos : Pos} (hp : PassesOwn (model X.prog X.w) X.A X.env X.xe) (hc : X.calm = true) (hi : PI X tg iter wi) (hg : PG X tg g) (hb : PSs X body tb)
    (hs : autoParam (∀ x, foldedSetIterable iter X.env x = pure x) L2.aIrf._auto_1) : PS X (.For tg iter body [] pos) (tFor wi g tb) := by
  intro pins s σ H D I h
  refine wpAny_For (thn (hi pins s σ H _ I h) fun v s1 h1 => thn h1 fun itv s2 h2 => ?_) hs
  obtain ⟨it, fp, tn, J, H2, e, I2, T, st2, f2, W, ⟨m0, w0⟩, turn⟩ := h2
  subst e
  -- what stays true of the iterator's objects through the loop
  have stat : ∀ {H' : Hp}, (∀ b ∈ fp, H' b = none) → ∀ b ∈ fp, FpOk X pins H' b := fun hn b hb => ⟨hn b hb, (f2 b hb).2⟩
  refine codeAny_forLoop_any (fun n s' => ∃ i σ' H', Inv X pins σ' H' s' ∧ tn i s'.heap ∧ (∀ b ∈ fp, H' b = none) ∧ W i n σ' H') ?_ m0 ⟨0, σ, H2, I2, st2, fun b hb => (f2 b hb).1, w0⟩
  rintro n s3 ⟨i, σ3, H3, I3, st3, fr3, w3⟩
  rcases turn i n σ3 H3 w3 with ⟨stop, qn⟩ | ⟨go, N, hN, step⟩
  · refine wpAny_passesOwn hp (thn (T.done X rfl rfl rfl hc i pins s3 σ3 H3 X.xe I3 (stat fr3) st3 stop) fun r s4 ⟨hr, I4⟩ => ?_)
    subst hr
    exact wpAny_execs_nil ⟨σ3, H3, I4, qn⟩
  · refine wpAny_passesOwn hp (thn (T.item X rfl rfl rfl hc i pins s3 σ3 H3 X.xe I3 (stat fr3) st3 go) fun r s4 ⟨u, hr, h4⟩ => ?_)
    subst hr
    refine wpAny_passesOwn hp (thn h4 fun _ s5 ⟨x, H5, I5, r5, y5, st5, fr5⟩ => ?_)
    have I5' := I5.pinned (stat fr5) (T.obj _ _ st5)
    refine wpAny_passesOwn hp (thn (hg _ s5 σ3 H5 x u _ I5' r5 (step x H5 y5)) fun _ s6 ⟨σ6, H6, I6, q6⟩ => ?_)
    refine wpAny_passesOwn hp (thn (hb _ s6 σ6 H6 _ I6 q6) fun f s7 q7 => ?_)
    have again : ∀ {σ7 : St} {H7 : Hp}, Inv X (pins ++ pinsAt fp s5.heap) σ7 H7 s7 → N σ7 H7 → ∃ m, m < n ∧ ∃ i σ' H', Inv X pins σ' H' s7 ∧ tn i s7.heap ∧ (∀ b ∈ fp, H' b = none) ∧ W i m σ' H' := fun {σ7 H7} I7 n7 => by
      obtain ⟨m', hm, w7⟩ := hN σ7 H7 n7
      refine ⟨m', hm, i + 1, σ7, H7, I7.unpinned, T.keep _ _ _ st5 fun b hb o e => (I7.pin (b, o) (List.mem_append_right _ (List.mem_append_right _ (mem_pinsAt hb e)))).1, fun b hb => ?_, w7⟩
      obtain ⟨o, e, d⟩ := T.obj _ _ st5 b hb
      exact (I7.pin (b, o) (List.mem_append_right _ (List.mem_append_right _ (mem_pinsAt hb e)))).2.1
    cases f with
    | next => obtain ⟨σ7, H7, I7, n7⟩ := q7; exact again I7 n7
    | cont => obtain ⟨σ7, H7, I7, n7⟩ := q7; exact again I7 n7
    | brk => obtain ⟨σ7, H7, I7, q7⟩ := q7; exact ⟨σ7, H7, I7.unpinned, q7⟩
    | ret v => obtain ⟨x7, σ7, H7, I7, r7, q7⟩ := q7; exact ⟨x7, σ7, H7, I7.unpinned, r7, q7⟩
end
theorem for_list {K : PySem.W.Frag} {a : Addr} {xs : List V} {g : TG} {tb : TS} {D : Ends} {σ : St} {H : Hp} (Pv : Nat → St → Hp → Prop) (h0 : Pv 0 σ H) (hl : ∀ i σ H, i ≤ xs.length → Pv i σ H → SqL K H a xs)
    (hs : ∀ i x σ H, xs[i]? = some x → Pv i σ H → g x σ H fun σ2 H2 => tb { D with nx := Pv (i + 1), ct := Pv (i + 1), bk := D.nx } σ2 H2) (hd : ∀ σ H, Pv xs.length σ H → D.nx σ H) :
    ∃ W : Nat → Nat → St → Hp → Prop, (∃ m, W 0 m σ H) ∧ ∀ i m σ H, W i m σ H →
      ((Itl K a).stop i H ∧ D.nx σ H) ∨ ((Itl K a).go i H ∧ ∃ N : St → Hp → Prop, (∀ σ' H', N σ' H' → ∃ m', m' < m ∧ W (i + 1) m' σ' H') ∧ ∀ x H', (Itl K a).yld i H x H' → g x σ H' fun σ2 H2 => tb { D with nx := N, ct := N, bk := D.nx } σ2 H2) := by
  refine ⟨fun i m σ H => m = xs.length - i ∧ i ≤ xs.length ∧ Pv i σ H, ⟨xs.length, by simp, Nat.zero_le _, h0⟩, ?_⟩
  rintro i m σ H ⟨rfl, hi, p⟩
  have q := hl i σ H hi p
  by_cases hlt : i < xs.length
  · refine .inr ⟨⟨xs, xs[i], q, by simp [hlt]⟩, Pv (i + 1), fun σ' H' p' => ⟨xs.length - (i + 1), by (clear hi; omega), rfl, hlt, p'⟩, fun x H' y => ?_⟩
    obtain ⟨e, y⟩ := y
    subst e
    exact hs i x σ _ (y xs q) p
  · have e : i = xs.length := by omega
    subst e
    exact .inl ⟨⟨xs, q, Nat.le_refl _⟩, hd σ H p⟩
theorem for_range {lo : Int} {n : Nat} {g : TG} {tb : TS} {D : Ends} {σ : St} {H : Hp} (Pv : Nat → St → Hp → Prop) (h0 : Pv 0 σ H)
    (hs : ∀ i σ H, i < n → Pv i σ H → g (.int (lo + i)) σ H fun σ2 H2 => tb { D with nx := Pv (i + 1), ct := Pv (i + 1), bk := D.nx } σ2 H2) (hd : ∀ σ H, Pv n σ H → D.nx σ H) :
    ∃ W : Nat → Nat → St → Hp → Prop, (∃ m, W 0 m σ H) ∧ ∀ i m σ H, W i m σ H →
      ((Itr lo n).stop i H ∧ D.nx σ H) ∨ ((Itr lo n).go i H ∧ ∃ N : St → Hp → Prop, (∀ σ' H', N σ' H' → ∃ m', m' < m ∧ W (i + 1) m' σ' H') ∧ ∀ x H', (Itr lo n).yld i H x H' → g x σ H' fun σ2 H2 => tb { D with nx := N, ct := N, bk := D.nx } σ2 H2) := by
  refine ⟨fun i m σ H => m = n - i ∧ i ≤ n ∧ Pv i σ H, ⟨n, by simp, Nat.zero_le _, h0⟩, ?_⟩
  rintro i m σ H ⟨rfl, hi, p⟩
  by_cases hlt : i < n
  · refine .inr ⟨hlt, Pv (i + 1), fun σ' H' p' => ⟨n - (i + 1), by (clear hi; omega), rfl, hlt, p'⟩, fun x H' y => ?_⟩
    obtain ⟨e, y⟩ := y
    subst e y
    exact hs i σ _ hlt p
  · have e : i = n := by omega
    subst e
    exact .inl ⟨Nat.le_refl _, hd σ H p⟩
end L2
namespace L2
open PySem PySem.Spec PyProof.Rows
noncomputable abbrev R2 := V → V → Hp → VK → Prop
noncomputable def OpR (X : Cx) (f : Value → Value → Sem Value) (r : R2) : Prop :=
  ∀ (pins : List (Addr × Obj)) (s : Shared) (σ : St) (H : Hp) (x y : V) (v u : Value) (Q : VK), Inv X pins σ H s → RelV x v → RelV y u → r x y H Q →
    wpAny (model X.prog X.w) X.A (f v u) (EP X pins σ Q) X.xe s
noncomputable def UnR (X : Cx) (f : Value → Sem Value) (r : V → Hp → VK → Prop) : Prop :=
  ∀ (pins : List (Addr × Obj)) (s : Shared) (σ : St) (H : Hp) (x : V) (v : Value) (Q : VK), Inv X pins σ H s → RelV x v → r x H Q →
    wpAny (model X.prog X.w) X.A (f v) (EP X pins σ Q) X.xe s
noncomputable def CallR (X : Cx) (f : Value) (r : List V → Hp → VK → Prop) : Prop :=
  ∀ (pins : List (Addr × Obj)) (s : Shared) (σ : St) (H : Hp) (xs : List V) (us : List Value) (Q : VK), Inv X pins σ H s → Vals xs us → r xs H Q →
    wpAny (model X.prog X.w) X.A (call f us) (EP X pins σ Q) X.xe s
noncomputable def tOp (r : R2) (ta tb : TE) : TE := fun σ H Q => ta σ H fun x H1 => tb σ H1 fun y H2 => r x y H2 Q
noncomputable def tUn (r : V → Hp → VK → Prop) (ta : TE) : TE := fun σ H Q => ta σ H fun x H1 => r x H1 Q
noncomputable def rI (C : Int → Int → Prop) (g : Int → Int → V) : R2 := fun x y H Q => ∃ i j, x = .int i ∧ y = .int j ∧ C i j ∧ Q (g i j) H
noncomputable def rI0 (g : Int → Int → V) : R2 := fun x y H Q => ∃ i j, x = .int i ∧ y = .int j ∧ Q (g i j) H
noncomputable def rU (g : Int → V) : V → Hp → VK → Prop := fun x H Q => ∃ i, x = .int i ∧ Q (g i) H
section
variable {X : Cx} {a b c : Expr} {ta tb tc : TE} {pos : Pos}
theorem binT (ha : PE X a ta) (hb : PE X b tb) {pins : List (Addr × Obj)} {s : Shared} {σ : St} {H : Hp} {R : V → V → Hp → Prop} (I : Inv X pins σ H s)
    (h : ta σ H fun x H1 => tb σ H1 fun y H2 => R x y H2) {Q : Value → Shared → Prop} {f : Value → Value → Sem Value}
    (hf : ∀ v u s2 x y H2, Inv X pins σ H2 s2 → RelV x v → RelV y u → R x y H2 → wpAny (model X.prog X.w) X.A (f v u) Q X.xe s2) :
    wpAny (model X.prog X.w) X.A (eval a X.env) (fun v s₁ => wpAny (model X.prog X.w) X.A (eval b X.env) (fun u s₂ => wpAny (model X.prog X.w) X.A (f v u) Q X.xe s₂) X.xe s₁) X.xe s := by
  refine thn (ha pins s σ H _ I h) fun v s1 ⟨x, H1, I1, r1, q1⟩ => ?_
  refine thn (hb pins s1 σ H1 _ I1 q1) fun u s2 ⟨y, H2, I2, r2, q2⟩ => ?_
  exact hf v u s2 x y H2 I2 r1 r2 q2
theorem pe_op {op : Operator} {r : R2} (ho : OpR X (binaryOp op) r) (ha : PE X a ta) (hb : PE X b tb) : PE X (.BinOp a op b pos) (tOp r ta tb) := by
  intro pins s σ H Q I h
  exact wpAny_BinOp (binT ha hb I h fun v u s2 x y H2 I2 rx ry q => ho pins s2 σ H2 x y v u Q I2 rx ry q)
theorem pe_un {op : UnaryOp} {r : V → Hp → VK → Prop} (ho : UnR X (unaryOp op) r) (ha : PE X a ta) : PE X (.UnaryOp op a pos) (tUn r ta) := by
  intro pins s σ H Q I h
  exact UnaryOp_ (thn (ha pins s σ H _ I h) fun v s1 ⟨x, H1, I1, r1, q1⟩ => ho pins s1 σ H1 x v Q I1 r1 q1)
theorem opI {f : Value → Value → Sem Value} {C : Int → Int → Prop} {g : Int → Int → Int}
    (rule : ∀ (i j : Int) (t u : Tok) (s : Shared) (Q : Value → Shared → Prop) (E : Value → Shared → Prop), C i j → Q (.int (g i j) s.toks) { s with toks := s.toks + 1 } → wpAny (model X.prog X.w) X.A (f (.int i t) (.int j u)) Q E s) :
    OpR X f (rI C fun i j => .int (g i j)) := by
  intro pins s σ H x y v u Q I rx ry h
  obtain ⟨i, j, rfl, rfl, hc, q⟩ := h
  obtain ⟨t, rfl⟩ := rx
  obtain ⟨t', rfl⟩ := ry
  exact rule i j t t' s _ _ hc ⟨.int (g i j), H, I.tok _, ⟨_, rfl⟩, q⟩
theorem opI0 {f : Value → Value → Sem Value} {g : Int → Int → Int}
    (rule : ∀ (i j : Int) (t u : Tok) (s : Shared) (Q : Value → Shared → Prop) (E : Value → Shared → Prop), Q (.int (g i j) s.toks) { s with toks := s.toks + 1 } → wpAny (model X.prog X.w) X.A (f (.int i t) (.int j u)) Q E s) :
    OpR X f (rI0 fun i j => .int (g i j)) := by
  intro pins s σ H x y v u Q I rx ry h
  obtain ⟨i, j, rfl, rfl, q⟩ := h
  obtain ⟨t, rfl⟩ := rx
  obtain ⟨t', rfl⟩ := ry
  exact rule i j t t' s _ _ ⟨.int (g i j), H, I.tok _, ⟨_, rfl⟩, q⟩
theorem opB0 {f : Value → Value → Sem Value} {g : Int → Int → Bool}
    (rule : ∀ (i j : Int) (t u : Tok) (s : Shared) (Q : Value → Shared → Prop) (E : Value → Shared → Prop), Q (.bool (g i j)) s → wpAny (model X.prog X.w) X.A (f (.int i t) (.int j u)) Q E s) :
    OpR X f (rI0 fun i j => .bl (g i j)) := by
  intro pins s σ H x y v u Q I rx ry h
  obtain ⟨i, j, rfl, rfl, q⟩ := h
  obtain ⟨t, rfl⟩ := rx
  obtain ⟨t', rfl⟩ := ry
  exact rule i j t t' s _ _ ⟨.bl (g i j), H, I, rfl, q⟩
noncomputable def CDiv (i j : Int) : Prop := 0 < j ∧ j < 1073741824
noncomputable def CMul (i j : Int) : Prop := (-(2 ^ 64) < i ∧ i < 2 ^ 64) ∨ (-(2 ^ 64) < j ∧ j < 2 ^ 64)
theorem CMul.ok {i j : Int} (h : CMul i j) : IntMulOk i j := by
  rcases h with ⟨h1, h2⟩ | ⟨h1, h2⟩
  · exact .of_left (intBits_le_64 h1 h2)
  · exact .of_right (intBits_le_64 h1 h2)
theorem op_add : OpR X (binaryOp .Add) (rI0 fun i j => .int (i + j)) := opI0 fun _ _ _ _ _ _ _ q => add_int q
theorem op_sub : OpR X (binaryOp .Sub) (rI0 fun i j => .int (i - j)) := opI0 fun _ _ _ _ _ _ _ q => sub_int q
theorem op_mul : OpR X (binaryOp .Mult) (rI CMul fun i j => .int (i * j)) := opI fun _ _ _ _ _ _ _ hc q => mul_int q hc.ok
theorem op_fdiv : OpR X (binaryOp .FloorDiv) (rI CDiv fun i j => .int (i / j)) := opI fun i j _ _ _ _ _ hc q => by
  have h1 : (0 : Int) < j := hc.1
  have h2 : j < 1073741824 := hc.2
  exact floordiv_int (by omega) (by rw [Int.fdiv_eq_ediv_of_nonneg i (by omega)]; exact q) (.inl (PyProof.noPylong_small (by omega)))
theorem op_mod : OpR X (binaryOp .Mod) (rI (fun _ j => 0 < j) fun i j => .int (i % j)) := opI fun i j _ _ _ _ _ hc q => by
  have h1 : (0 : Int) < j := hc
  exact mod_int' (by (clear h1; omega)) (by rw [Int.fmod_eq_emod_of_nonneg i (by (clear h1; omega))]; exact q)
theorem unI {f : Value → Sem Value} {g : Int → Int}
    (rule : ∀ (i : Int) (t : Tok) (s : Shared) (Q : Value → Shared → Prop) (E : Value → Shared → Prop), Q (.int (g i) s.toks) { s with toks := s.toks + 1 } → wpAny (model X.prog X.w) X.A (f (.int i t)) Q E s) :
    UnR X f (rU fun i => .int (g i)) := by
  intro pins s σ H x v Q I rx h
  obtain ⟨i, rfl, q⟩ := h
  obtain ⟨t, rfl⟩ := rx
  exact rule i t s _ _ ⟨.int (g i), H, I.tok _, ⟨_, rfl⟩, q⟩
theorem un_neg : UnR X (unaryOp .USub) (rU fun i => .int (-i)) := unI fun _ _ _ _ _ q => neg_int q
end
noncomputable def scal : V → V → Bool
  | .non, .non => true | .non, .int _ => true | .int _, .non => true | .non, .bl _ => true | .bl _, .non => true | .non, .str _ => true | .str _, .non => true
  | .int _, .int _ => true | .bl _, .bl _ => true | .str _, .str _ => true | .byt _, .byt _ => true
  | .int _, .str _ => true | .str _, .int _ => true | .bl _, .str _ => true | .str _, .bl _ => true
  | _, _ => false
noncomputable def rEq : R2 := fun x y H Q => scal x y = true ∧ Q (.bl (decide (x = y))) H
noncomputable def rNe : R2 := fun x y H Q => scal x y = true ∧ Q (.bl (!decide (x = y))) H
theorem dec_int {i j : Int} : decide (V.int i = V.int j) = (i == j) := by
  rw [Bool.eq_iff_iff]
  simp
theorem dec_bl {i j : Bool} : decide (V.bl i = V.bl j) = (i == j) := by
  rw [Bool.eq_iff_iff]
  simp
theorem dec_str {i j : Str} : decide (V.str i = V.str j) = (i == j) := by
  rw [Bool.eq_iff_iff]
  simp
theorem dec_byt {i j : Array UInt8} : decide (V.byt i = V.byt j) = (i.toList == j.toList) := by
  rw [Bool.eq_iff_iff]
  cases i
  cases j
  simp
section
variable {X : Cx} {a b c : Expr} {ta tb tc : TE} {pos : Pos}
theorem fin_bl {pins : List (Addr × Obj)} {σ : St} {H : Hp} {s : Shared} {Q : VK} {k k' : Bool} (I : Inv X pins σ H s) (q : Q (.bl k) H) (e : k = k') : EP X pins σ Q (.bool k') s := by
  subst e
  exact ⟨.bl k, H, I, rfl, q⟩
theorem op_eq : OpR X (compareOp .Eq) rEq := by
  intro pins s σ H x y v u Q I rx ry h
  obtain ⟨hs, q⟩ := h
  cases x with
  | non =>
    cases rx
    cases y with
    | non => cases ry; exact PySem.EqNone.eq_none_none (fin_bl I q (by simp))
    | bl j => cases ry; exact PySem.EqNone.eq_none_bool (fin_bl I q (by simp))
    | int j => obtain ⟨t', rfl⟩ := ry; exact PySem.EqNone.eq_none_int (fin_bl I q (by simp))
    | str j => obtain ⟨t', rfl⟩ := ry; exact PySem.EqNone.eq_none_str (fin_bl I q (by simp))
    | _ => exact absurd (show false = true from hs) Bool.false_ne_true
  | bl i =>
    cases rx
    cases y with
    | non => cases ry; exact PySem.EqNone.eq_bool_none (fin_bl I q (by simp))
    | bl j => cases ry; exact eq_bool (fin_bl I q dec_bl)
    | str j => obtain ⟨t', rfl⟩ := ry; exact PySem.EqMixed.eq_bool_str (fin_bl I q (by simp))
    | _ => exact absurd (show false = true from hs) Bool.false_ne_true
  | int i =>
    obtain ⟨t, rfl⟩ := rx
    cases y with
    | non => cases ry; exact PySem.EqNone.eq_int_none (fin_bl I q (by simp))
    | int j => obtain ⟨t', rfl⟩ := ry; exact eq_int (fin_bl I q dec_int)
    | str j => obtain ⟨t', rfl⟩ := ry; exact PySem.EqMixed.eq_int_str (fin_bl I q (by simp))
    | _ => exact absurd (show false = true from hs) Bool.false_ne_true
  | str i =>
    obtain ⟨t, rfl⟩ := rx
    cases y with
    | non => cases ry; exact PySem.EqNone.eq_str_none (fin_bl I q (by simp))
    | bl j => cases ry; exact PySem.EqMixed.eq_str_bool (fin_bl I q (by simp))
    | int j => obtain ⟨t', rfl⟩ := ry; exact PySem.EqMixed.eq_str_int (fin_bl I q (by simp))
    | str j => obtain ⟨t', rfl⟩ := ry; exact eq_str (fin_bl I q dec_str)
    | _ => exact absurd (show false = true from hs) Bool.false_ne_true
  | byt i =>
    obtain ⟨t, rfl⟩ := rx
    cases y with
    | byt j => obtain ⟨t', rfl⟩ := ry; exact PySem.W.eq_bytes (fin_bl I q dec_byt)
    | _ => exact absurd (show false = true from hs) Bool.false_ne_true
  | _ => cases y <;> exact absurd (show false = true from hs) Bool.false_ne_true
theorem op_ne : OpR X (compareOp .NotEq) rNe := by
  intro pins s σ H x y v u Q I rx ry h
  obtain ⟨hs, q⟩ := h
  cases x with
  | non =>
    cases rx
    cases y with
    | non => cases ry; exact PySem.EqNone.ne_none_none (fin_bl I q (by simp))
    | bl j => cases ry; exact PySem.EqNone.ne_none_bool (fin_bl I q (by simp))
    | int j => obtain ⟨t', rfl⟩ := ry; exact PySem.EqNone.ne_none_int (fin_bl I q (by simp))
    | str j => obtain ⟨t', rfl⟩ := ry; exact PySem.EqNone.ne_none_str (fin_bl I q (by simp))
    | _ => exact absurd (show false = true from hs) Bool.false_ne_true
  | bl i =>
    cases rx
    cases y with
    | non => cases ry; exact PySem.EqNone.ne_bool_none (fin_bl I q (by simp))
    | bl j => cases ry; exact ne_bool (fin_bl I q (congrArg not dec_bl))
    | str j => obtain ⟨t', rfl⟩ := ry; exact PySem.EqMixed.ne_bool_str (fin_bl I q (by simp))
    | _ => exact absurd (show false = true from hs) Bool.false_ne_true
  | int i =>
    obtain ⟨t, rfl⟩ := rx
    cases y with
    | non => cases ry; exact PySem.EqNone.ne_int_none (fin_bl I q (by simp))
    | int j => obtain ⟨t', rfl⟩ := ry; exact ne_int (fin_bl I q (congrArg not dec_int))
    | str j => obtain ⟨t', rfl⟩ := ry; exact PySem.EqMixed.ne_int_str (fin_bl I q (by simp))
    | _ => exact absurd (show false = true from hs) Bool.false_ne_true
  | str i =>
    obtain ⟨t, rfl⟩ := rx
    cases y with
    | non => cases ry; exact PySem.EqNone.ne_str_none (fin_bl I q (by simp))
    | bl j => cases ry; exact PySem.EqMixed.ne_str_bool (fin_bl I q (by simp))
    | int j => obtain ⟨t', rfl⟩ := ry; exact PySem.EqMixed.ne_str_int (fin_bl I q (by simp))
    | str j => obtain ⟨t', rfl⟩ := ry; exact ne_str (fin_bl I q (congrArg not dec_str))
    | _ => exact absurd (show false = true from hs) Bool.false_ne_true
  | byt i =>
    obtain ⟨t, rfl⟩ := rx
    cases y with
    | byt j => obtain ⟨t', rfl⟩ := ry; exact PySem.W.ne_bytes (fin_bl I q (congrArg not dec_byt))
    | _ => exact absurd (show false = true from hs) Bool.false_ne_true
  | _ => cases y <;> exact absurd (show false = true from hs) Bool.false_ne_true
theorem op_lt : OpR X (compareOp .Lt) (rI0 fun i j => .bl (decide (i < j))) := opB0 fun _ _ _ _ _ _ _ q => lt_int q
theorem op_le : OpR X (compareOp .LtE) (rI0 fun i j => .bl (decide (i ≤ j))) := opB0 fun _ _ _ _ _ _ _ q => le_int q
theorem op_gt : OpR X (compareOp .Gt) (rI0 fun i j => .bl (decide (j < i))) := opB0 fun _ _ _ _ _ _ _ q => gt_int q
theorem nomark (b : Expr) {op : CmpOp} (h : autoParam (op ≠ .In) L2.aDec._auto_1) (h2 : autoParam (op ≠ .NotIn) L2.aDec._auto_1) : behindInMarks op b = false := by
  have e1 : (op == CmpOp.In) = false := by cases op <;> first | rfl | exact absurd rfl h
  have e2 : (op == CmpOp.NotIn) = false := by cases op <;> first | rfl | exact absurd rfl h2
  cases b <;> simp [behindInMarks, e1, e2]
theorem pe_cmpR {op : CmpOp} {r : R2} (ho : OpR X (compareOp op) r) (ha : PE X a ta) (hb : PE X b tb) (hm : behindInMarks op b = false) : PE X (.Compare a [op] [b] pos) (tOp r ta tb) := by
  intro pins s σ H Q I h
  exact wpAny_Compare1 (binT ha hb I h fun v u s2 x y H2 I2 rx ry q => ho pins s2 σ H2 x y v u Q I2 rx ry q) hm
noncomputable def tTest (t : TE) : TT := fun σ H Q => t σ H fun x H' => ∃ k, x = .bl k ∧ Q k H'
theorem pt_cmpR {op : CmpOp} {r : R2} (ho : OpR X (compareOp op) r) (ha : PE X a ta) (hb : PE X b tb) (hm : behindInMarks op b = false) : PT X (.Compare a [op] [b] pos) (tTest (tOp r ta tb)) := by
  intro pins s σ H Q I h
  refine wpAny_isTrue_Compare1 (thn (ha pins s σ H _ I h) fun v s1 ⟨x, H1, I1, r1, q1⟩ => thn (hb pins s1 σ H1 _ I1 q1) fun u s2 ⟨y, H2, I2, r2, q2⟩ =>
    thn (ho pins s2 σ H2 x y v u _ I2 r1 r2 q2) fun c s3 ⟨z, H3, I3, r3, k, e, q3⟩ => ?_) hm
  subst e
  cases r3
  exact wpAny_truthy_bool ⟨H3, I3, q3⟩
noncomputable def tChain (r r' : R2) (ta tb tc : TE) : TE := fun σ H Q => ta σ H fun x H1 => tb σ H1 fun y H2 => r x y H2 fun z H3 => ∃ k, z = .bl k ∧
  (if k = true then tc σ H3 fun w' H4 => r' y w' H4 Q else Q (.bl false) H3)
theorem pe_chain {op op' : CmpOp} {r r' : R2} (ho : OpR X (compareOp op) r) (ho' : OpR X (compareOp op') r') (ha : PE X a ta) (hb : PE X b tb) (hc : PE X c tc)
    (hm : lastMarks [op, op'] [b, c] = false := by with_unfolding_all rfl) : PE X (.Compare a [op, op'] [b, c] pos) (tChain r r' ta tb tc) := by
  intro pins s σ H Q I h
  refine Compare_chain (thn (ha pins s σ H _ I h) fun v s1 ⟨x, H1, I1, r1, q1⟩ => chain_link (thn (hb pins s1 σ H1 _ I1 q1) fun u s2 ⟨y, H2, I2, r2, q2⟩ =>
    thn (ho pins s2 σ H2 x y v u _ I2 r1 r2 q2) fun d s3 ⟨z, H3, I3, r3, k, e, q3⟩ => ?_)) hm
  subst e
  cases r3
  refine wpAny_truthy_bool ?_
  cases k with
  | false => exact ite_ff ⟨.bl false, H3, I3, rfl, q3⟩
  | true => exact ite_tt (chain_last (thn (hc pins s3 σ H3 _ I3 q3) fun w' s4 ⟨z', H4, I4, r4, q4⟩ => ho' pins s4 σ H4 y z' u w' Q I4 r2 r4 q4))
theorem line63 : (sizeLine : Nat) < 2 ^ 63 := by rw [sizeLine_eq]; decide
theorem vals1 {x : V} {us : List Value} (r : Vals [x] us) : ∃ u, us = [u] ∧ RelV x u := by
  cases r with
  | cons r1 r2 => cases r2; exact ⟨_, rfl, r1⟩
theorem vals2 {x y : V} {us : List Value} (r : Vals [x, y] us) : ∃ u w', us = [u, w'] ∧ RelV x u ∧ RelV y w' := by
  cases r with
  | cons r1 r2 =>
    cases r2 with
    | cons r3 r4 => cases r4; exact ⟨_, _, rfl, r1, r3⟩
theorem call_int1 : CallR X (.type "int") (fun xs H Q => (∃ i, xs = [.int i] ∧ Q (.int i) H) ∨ ∃ k, xs = [.bl k] ∧ Q (.int (if k then 1 else 0)) H) := by
  intro pins s σ H xs us Q I r h
  rcases h with ⟨i, rfl, q⟩ | ⟨k, rfl, q⟩
  · obtain ⟨u, rfl, t, rfl⟩ := vals1 r
    exact call_int_int ⟨.int i, H, I, ⟨_, rfl⟩, q⟩
  · obtain ⟨u, rfl, r1⟩ := vals1 r
    cases r1
    exact call_int_bool ⟨.int (if k then 1 else 0), H, I.tok _, ⟨_, rfl⟩, q⟩
theorem call_divmod : CallR X (.builtin "divmod") (fun xs H Q => ∃ i j, xs = [.int i, .int j] ∧ CDiv i j ∧ ∀ p, H p = none → Q (.ref p) (upd H p (.tup [.int (i / j), .int (i % j)]))) := by
  intro pins s σ H xs us Q I r h
  obtain ⟨i, j, rfl, ⟨h1, h2⟩, q⟩ := h
  obtain ⟨u, w', rfl, ⟨t, rfl⟩, ⟨t', rfl⟩⟩ := vals2 r
  refine divmod_int (by omega) ?_ (.inl (PyProof.noPylong_small (by omega)))
  rw [Int.fdiv_eq_ediv_of_nonneg i (by omega), Int.fmod_eq_emod_of_nonneg i (by omega)]
  have hn : H s.heap.objs.size = none := I.hok.fresh (Nat.le_refl _)
  refine ⟨.ref s.heap.objs.size, _, ?_, rfl, q _ hn⟩
  refine I.laid (fun b o e => Heap.get?_push_of_some _ e) (Nat.le_refl _) ⟨by simp only [List.length_cons, List.length_nil]; rw [sizeLine_eq]; decide, [.int (i / j) s.toks, .int (i % j) (s.toks + 1)], .cons ⟨_, rfl⟩ (.cons ⟨_, rfl⟩ .nil), ?_⟩
  exact ⟨_, Heap.get?_push_size s.heap rfl, rfl, 0, rfl⟩
end
end L2
namespace L2
open PySem PySem.Spec PyProof.Rows
section
variable {prog : Program} {w : World} {A : Around} {E : Value → Shared → Prop} {s : Shared} {K : PySem.W.Frag} {x dx C f : Addr} {mA : Str → Option Value} {name : Str} {v : Value}
end
section
variable {P : Program} {w : World} {H H' : Hp} {h h' : Heap} {a C dx : Addr} {fs fs' : List (Str × V)}
end
section
variable {X : Cx} {pins : List (Addr × Obj)} {σ : St} {H : Hp} {s : Shared} {a C dx : Addr} {fs : List (Str × V)} {f : Str} {v : V} {A : Around} {E : Value → Shared → Prop}
end
section
variable {X : Cx} {o e value : Expr} {f : Str} {pos pos' tpos : Pos} {ta tv : TE}
end
section
variable {X : Cx} {pins : List (Addr × Obj)} {σ : St} {H : Hp} {s : Shared} {A : Around} {E : Value → Shared → Prop} {Q : Value → Shared → Prop} {c : Value} {b : Bool}
end
end L2
namespace L2
open PySem PySem.Spec PyProof.Rows
structure Room (k : Nat) (A : Around) : Prop where
  hd : A.handled = none
  dp : A.depth + 3 * k + 5 < recursionLimit
  un : A.units + 16 * k + 200 < cLine
theorem Room.mono {j k : Nat} {A : Around} (r : Room k A) (h : j ≤ k) : Room j A := ⟨r.hd, by have := r.dp; omega, by have := r.un; omega⟩
theorem Room.deeper {k : Nat} {A : Around} (r : Room (k + 1) A) (env : Env) : Room k (A.deeper env) :=
  ⟨r.hd, by have := r.dp; show A.depth + 1 + 3 * k + 5 < _; omega, by have := r.un; show A.units + 3 + 16 * k + 200 < _; omega⟩
theorem Room.depth {k : Nat} {A : Around} (r : Room k A) : A.depth < recursionLimit := by have := r.dp; omega
noncomputable def tNil : TA := fun _ H Q => Q [] H
noncomputable def tCons (ta : TE) (tr : TA) : TA := fun σ H Q => ta σ H fun x H1 => tr σ H1 fun xs H2 => Q (x :: xs) H2
section
variable {X : Cx} {e : Expr} {es : List Expr} {te : TE} {t : TA} {pos : Pos}
theorem pa_nil : PA X [] tNil := fun _ _ _ _ H Q I h => Calls.spliced_nil ⟨[], H, I, .nil, h⟩
theorem pa_cons (ha : PE X e te) (hr : PA X es t) (hs : autoParam (starEach (e :: es) X.env = (false, eval e X.env) :: starEach es X.env) L2.aRfl._auto_1) : PA X (e :: es) (tCons te t) := by
  intro pos pins s σ H Q I h
  rw [hs]
  show wpAny _ _ (spliced ((false, eval e X.env) :: backTo pos (starEach es X.env))) _ _ s
  refine Calls.spliced_cons (thn (ha pins s σ H _ I h) fun u s1 ⟨x, H1, I1, r1, q1⟩ => ?_)
  exact thn (hr pos pins s1 σ H1 _ I1 q1) fun us s2 ⟨xs, H2, I2, r2, q2⟩ => ⟨x :: xs, H2, I2, .cons r1 r2, q2⟩
noncomputable def tTup (t : TA) : TE := fun σ H Q => t σ H fun xs H1 => xs.length ≤ sizeLine ∧ ∀ p, H1 p = none → Q (.ref p) (upd H1 p (.tup xs))
noncomputable def tLst (t : TA) : TE := fun σ H Q => t σ H fun xs H1 => xs.length ≤ sizeLine ∧ ∀ p, H1 p = none → Q (.ref p) (upd H1 p (.lst xs))
theorem pe_tup {x1} (h : PA X es t) : PE X (.Tuple es x1 pos) (tTup t) := by
  intro pins s σ H Q I hq
  refine wpAny_Tuple_spliced (thn (h pos pins s σ H _ I hq) fun us s1 ⟨xs, H1, I1, r, z, q⟩ => ⟨by rw [← r.length]; exact z, ?_⟩)
  have hf : H1 s1.heap.objs.size = none := I1.hok.fresh (Nat.le_refl _)
  refine ⟨.ref s1.heap.objs.size, upd H1 s1.heap.objs.size (.tup xs), I1.laid (t' := s1.toks) (fun b u e => Heap.get?_push_of_some _ e) (Nat.le_refl _) ?_, rfl, q _ hf⟩
  exact ⟨z, us, r, ⟨_, Heap.get?_push_size _ rfl, rfl, _, rfl⟩⟩
theorem pe_lst (h : PA X es t) : PE X (.List es pos) (tLst t) := by
  intro pins s σ H Q I hq
  refine wpAny_List_spliced (thn (h pos pins s σ H _ I hq) fun us s1 ⟨xs, H1, I1, r, z, q⟩ => ⟨by rw [← r.length]; exact z, ?_⟩)
  have hf : H1 s1.heap.objs.size = none := I1.hok.fresh (Nat.le_refl _)
  refine ⟨.ref s1.heap.objs.size, upd H1 s1.heap.objs.size (.lst xs), I1.laid (t' := s1.toks) (fun b u e => Heap.get?_push_of_some _ e) (Nat.le_refl _) ?_, rfl, q _ hf⟩
  exact ⟨z, us, 0, r, Heap.get?_push_size _ rfl⟩
end
noncomputable abbrev Sp := List V → Hp → VK → XK → Prop
noncomputable abbrev CXT := List Env → Hp → Shared → XK → Value → Shared → Prop
structure Env0 (P : Program) (w : World) (K : PySem.W.Frag) (mg : Str → Option Value) (base : Heap) (A : Around) (outer : List Env) (s : Shared) (H : Hp) : Prop where
  frames : A.frames = some outer
  mod : Mod K mg base
  bs : ∀ b o, base.get? b = some o → s.heap.get? b = some o ∧ H b = none
  bsz : base.objs.size ≤ s.heap.objs.size
  funs : s.heap.FunFrames base outer
  frf : ∀ b ∈ frs outer, H b = none
  hok : HOk P w H s.heap
  bare : AllBare s.gens
noncomputable def CE (outer : List Env) (P : Program) (w : World) (H : Hp) (s : Shared) (Q : VK) (u : Value) (s' : Shared) : Prop :=
  ∃ v H', s'.os = s.os ∧ AllBare s'.gens ∧ Un (frs outer) [] H H' s.heap s'.heap ∧ HOk P w H' s'.heap ∧ RelV v u ∧ Q v H'
noncomputable def CR (CX : CXT) (outer : List Env) (P : Program) (w : World) (H : Hp) (s : Shared) (Q : VK) (E : XK) (r : Result) (s' : Shared) : Prop :=
  match r with
  | .ok (.ret u) => CE outer P w H s Q u s'
  | .ok _ => False
  | .error e => CX outer H s E e s'
structure FnOk (P : Program) (w : World) (K : PySem.W.Frag) (mg : Str → Option Value) (base : Heap) (CX : CXT) (k : Nat) (f : Addr) (fd : FuncData) (ps : List Str) (sp : Sp) : Prop where
  len : ∀ vs H Q E, sp vs H Q E → vs.length = ps.length
  run : ∀ (A : Around) (outer : List Env) (s : Shared) (H : Hp) (args : Args) (us : List Value) (vs : List V) (Q : VK) (E : XK), Room k A → Env0 P w K mg base A outer s H → BindsTo s fd args (ps.zip us) → Vals vs us → sp vs H Q E →
    codeAny (model P w) A (.call (.ref f) args) (CR CX outer P w H s Q E) s
section
variable {X : Cx} {pins : List (Addr × Obj)} {σ : St} {H : Hp} {s s' : Shared}
theorem Inv.env0 (I : Inv X pins σ H s) : Env0 X.prog X.w X.K X.mg X.base X.A X.stack s H :=
  ⟨I.ok.frames, I.ok.mod, I.bs, Nat.le_trans I.ok.bsz I.sz, I.stack, I.stkFree, I.hok, I.bare⟩
theorem Inv.after {Q : VK} {u : Value} (I : Inv X pins σ H s) (h : CE X.stack X.prog X.w H s Q u s') : EP X pins σ Q u s' := by
  obtain ⟨v, H', os, bare, un, hok, r, q⟩ := h
  obtain ⟨hh, g, d, t, os'⟩ := s'
  obtain rfl : os' = s.os := os
  exact ⟨v, H', I.call (h' := hh) (g' := g) (d' := d) (t' := t) (ch := []) un hok bare (fun b z => absurd z (by simp)), r, q⟩
end
noncomputable def tCall (sp : Sp) (dvs : List V) (E : XK) (t : TA) : TE := fun σ H Q => t σ H fun vs H1 => sp (vs ++ dvs) H1 Q E
noncomputable def Binds (K : PySem.W.Frag) (fd : FuncData) (ps : List Str) (ds : List Value) : Prop :=
  ∀ (s : Shared) (us : List Value), K.In s.heap → (us ++ ds).length = ps.length → BindsTo s fd ⟨us, []⟩ (ps.zip (us ++ ds))
theorem Binds.all {K : PySem.W.Frag} {fd : FuncData} {ps : List Str} (h : ∀ us : List Value, us.length = ps.length → bindArgs fd ⟨us, []⟩ = pure (ps.zip us)) : Binds K fd ps [] := fun s us _ hl => by
  rw [List.append_nil] at hl ⊢
  exact .of_eq (h us hl)
noncomputable def Passes (CX : CXT) (X : Cx) (E : XK) : Prop := ∀ (pins : List (Addr × Obj)) (σ : St) (H : Hp) (s : Shared) (e : Value) (s' : Shared), Inv X pins σ H s → CX X.stack H s E e s' → X.xe e s'
section
variable {X : Cx} {CX : CXT} {k : Nat} {f C : Addr} {fd : FuncData} {ps : List Str} {sp : Sp} {dvs : List V} {ds : List Value} {E : XK} {x m : Str} {p pos apos : Pos} {e o : Expr} {es : List Expr} {ta : TE} {t : TA}
theorem run_fn {pins : List (Addr × Obj)} {σ : St} {H : Hp} {s : Shared} {Q : VK} {us : List Value} {vs : List V} (F : FnOk X.prog X.w X.K X.mg X.base CX k f fd ps sp) (hr : Room k X.A) (hb : Binds X.K fd ps ds) (hd : Vals dvs ds) (hx : Passes CX X E)
    (I : Inv X pins σ H s) (r : Vals vs us) (h : sp (vs ++ dvs) H Q E) : wpAny (model X.prog X.w) X.A (call (.ref f) us) (EP X pins σ Q) X.xe s := by
  have r2 : Vals (vs ++ dvs) (us ++ ds) := r.append hd
  have hl : (us ++ ds).length = ps.length := by rw [← r2.length]; exact F.len _ _ _ _ h
  refine wpAny_call (codeAny_mono (F.run X.A X.stack s H ⟨us, []⟩ (us ++ ds) (vs ++ dvs) Q E hr I.env0 (hb s us I.kIn hl) r2 h) fun r s' hq => ?_)
  cases r with
  | error e => exact hx pins σ H s e s' I hq
  | ok fl =>
    cases fl with
    | ret u => exact I.after hq
    | next => exact False.elim hq
    | brk => exact False.elim hq
    | cont => exact False.elim hq
theorem pe_call (F : FnOk X.prog X.w X.K X.mg X.base CX k f fd ps sp) (hr : Room k X.A) (hg : Gl X x) (hm : X.mg x = some (.ref f)) (hk : PySem.W.keepIn X.K (.ref f) = true) (hb : Binds X.K fd ps ds) (hd : Vals dvs ds) (hx : Passes CX X E)
    (ha : PA X (e :: es) t) (hdb : autoParam ((x == ("__debug__" : Str)) = false) L2.aDec._auto_1) (he : autoParam (starEach (e :: es) X.env = (false, eval e X.env) :: starEach es X.env) L2.aRfl._auto_1) (hpl : autoParam ((backTo pos (starEach es X.env)).any (·.1) = false) L2.aRfl._auto_1) :
    PE X (.Call (.Name x p) (e :: es) [] pos) (tCall sp dvs E t) := by
  intro pins s σ H Q I h
  refine wpAny_Call_Name_kw (ld_glob I hg hm ?_ hdb)
  refine PySem.W.callWith_K (h₀ := X.base) I.ok.mod.kin hk (thn (ha pos pins s σ H _ I h) fun us s1 ⟨vs, H1, I1, r, q⟩ => ⟨I1.kIn, ?_⟩) he hpl
  exact run_fn F hr hb hd hx I1 r q
end
section
variable {X : Cx} {CX : CXT} {k : Nat} {f C : Addr} {fd : FuncData} {ps ks : List Str} {sp : Sp} {E : XK} {x m : Str} {p pos apos kpos : Pos} {e o : Expr} {es : List Expr} {kws : List Keyword} {te ta : TE} {t tk : TA} {nm : Option Str}
variable {g : List Value → List Value → List Value} {gV : List V → List V → List V}
end
structure FnScope (N P : List Str) (sc : Scope) : Prop where
  kind : sc.kind = .function
  co : sc.isCoroutine = false
  gen : sc.isGenerator = false
  nd : N.Nodup
  pre : N.take P.length = P
  par : ∀ x ∈ P, sc.names.lookup x = some .local ∨ sc.names.lookup x = some .cell
  nofree : ∀ y ∈ sc.names, y.2 ≠ .free
theorem bindL_out {kindOf : Str → Option NameKind} {x : Str} : ∀ {binds : List (Str × Value)} {m : Str → Option Value}, (∀ v, (x, v) ∉ binds) → bindL kindOf binds m x = m x
  | [], _, _ => rfl
  | (n, v) :: r, m, h => by
    unfold bindL
    rw [bindL_out fun w hw => h w (List.mem_cons_of_mem _ hw)]
    split
    · have : x ≠ n := by rintro rfl; exact h v List.mem_cons_self
      simp [this]
    · rfl
theorem bindC_out {kindOf : Str → Option NameKind} {x : Str} : ∀ {binds : List (Str × Value)} {m : Str → Option Value}, (∀ v, (x, v) ∉ binds) → bindC kindOf binds m x = m x
  | [], _, _ => rfl
  | (n, v) :: r, m, h => by
    unfold bindC
    rw [bindC_out fun w hw => h w (List.mem_cons_of_mem _ hw)]
    split
    · rfl
    · have : x ≠ n := by rintro rfl; exact h v List.mem_cons_self
      simp [this]
theorem bindL_get {kindOf : Str → Option NameKind} {x : Str} {v : Value} : ∀ {P : List Str} {vs : List Value} {i : Nat} {m : Str → Option Value}, P.Nodup → P[i]? = some x → vs[i]? = some v → kindOf x = some .local →
    bindL kindOf (P.zip vs) m x = some v
  | [], _, _, _, _, h, _, _ => by simp at h
  | _ :: _, [], _, _, _, _, h, _ => by simp at h
  | p :: P, w :: vs, 0, m, nd, h1, h2, hk => by
    simp at h1 h2; subst h1; subst h2
    show bindL kindOf ((p, w) :: P.zip vs) m p = _
    unfold bindL
    rw [bindL_out fun v hv => (List.nodup_cons.mp nd).1 (List.of_mem_zip hv).1, if_pos hk]
    simp
  | p :: P, w :: vs, i + 1, m, nd, h1, h2, hk => by
    show bindL kindOf ((p, w) :: P.zip vs) m x = _
    unfold bindL
    exact bindL_get (i := i) (List.nodup_cons.mp nd).2 (by simpa using h1) (by simpa using h2) hk
theorem bindC_get {kindOf : Str → Option NameKind} {x : Str} {v : Value} : ∀ {P : List Str} {vs : List Value} {i : Nat} {m : Str → Option Value}, P.Nodup → P[i]? = some x → vs[i]? = some v → kindOf x ≠ some .local →
    bindC kindOf (P.zip vs) m x = some v
  | [], _, _, _, _, h, _, _ => by simp at h
  | _ :: _, [], _, _, _, _, h, _ => by simp at h
  | p :: P, w :: vs, 0, m, nd, h1, h2, hk => by
    simp at h1 h2; subst h1; subst h2
    show bindC kindOf ((p, w) :: P.zip vs) m p = _
    unfold bindC
    rw [bindC_out fun v hv => (List.nodup_cons.mp nd).1 (List.of_mem_zip hv).1, if_neg hk]
    simp
  | p :: P, w :: vs, i + 1, m, nd, h1, h2, hk => by
    show bindC kindOf ((p, w) :: P.zip vs) m x = _
    unfold bindC
    exact bindC_get (i := i) (List.nodup_cons.mp nd).2 (by simpa using h1) (by simpa using h2) hk
noncomputable def start (N : List Str) (vs : List V) : St := vs.map some ++ List.replicate (N.length - vs.length) none
noncomputable def cxOf (CX : CXT) (P : Program) (w : World) (K : PySem.W.Frag) (mg : Str → Option Value) (base : Heap) (N : List Str) (qual : Str) (scope : Scope) (f : Addr) (cd : Value) (A : Around) (outer : List Env) (s : Shared) (H : Hp) (E : XK) : Cx where
  prog := P
  w := w
  K := K
  mg := mg
  base := base
  A := A.deeper (envOfC qual scope s.heap.objs.size f cd)
  N := N
  s₀ := s
  H₀ := H
  env := envOfC qual scope s.heap.objs.size f cd
  outer := outer
  stack := envOfC qual scope s.heap.objs.size f cd :: outer
  ex := []
  calm := true
  fn := fun _ => true
  pn := []
  xe := fun e s' => wpAny (model P w) (A.deeper (envOfC qual scope s.heap.objs.size f cd)) (leaving (envOfC qual scope s.heap.objs.size f cd) e) (fun _ s'' => CX outer H s E e s'') (fun e' s'' => CX outer H s E e' s'') s'
theorem cell_has {sc : Scope} {n : Nat} {x : Str} (h : sc.names.lookup x = some .cell) : ∃ c, (cellsFrom n sc.names []).lookup x = some c := by
  have q := PySem.W.cellsFrom_some sc.names n [] (.inl h)
  exact Option.isSome_iff_exists.mp q
theorem inv_start {CX : CXT} {P : Program} {w : World} {K : PySem.W.Frag} {mg : Str → Option Value} {base : Heap} {N ps : List Str} {qual : Str} {scope : Scope} {f : Addr} {cd : Value} {A : Around} {outer : List Env} {s s1 : Shared} {H : Hp} {E : XK} {us : List Value} {vs : List V}
    (S : FnScope N ps scope) (hd : A.handled = none) (e0 : Env0 P w K mg base A outer s H) (hl : vs.length = ps.length) (r : Vals vs us)
    (x : InCallC s s.heap.objs.size (bindL (envOfC qual scope s.heap.objs.size f cd).kindOf (ps.zip us) fun _ => none) (cellsFrom (s.heap.objs.size + 1) scope.names []) (bindC (envOfC qual scope s.heap.objs.size f cd).kindOf (ps.zip us) fun _ => none) s1) :
    Inv (cxOf CX P w K mg base N qual scope f cd A outer s H E) [] (start N vs) H s1 := by
  have hpl : ps.length ≤ N.length := by have := congrArg List.length S.pre; rw [List.length_take] at this; (clear hl; omega)
  obtain ⟨h1, tk, rfl, hk⟩ := x.done
  have noA : ∀ b : Addr, b ∉ (cxOf CX P w K mg base N qual scope f cd A outer s H E).ex := fun b z => absurd (show b ∈ ([] : List Addr) from z) (by simp)
  refine ⟨⟨e0.mod, S.kind, rfl, rfl, Nat.le_refl _, fun y z c h1 h2 => ?_, fun y hy => ?_, fun y c _ h => ?_, fun _ => hd, Around.frames_deeper e0.frames, .inr ⟨rfl, rfl⟩, fun b z => absurd z (noA b), e0.bs, e0.bsz, fun b _ _ => noA b, fun b z => absurd z (noA b), e0.funs, e0.frf⟩,
    rfl, e0.bare, Un.kept hk, ⟨_, x.toInCall.ns, fun i y v h1 h2 h3 => ?_⟩, fun y c h => ⟨_, x.cell y c h⟩, e0.hok.fresh (Nat.le_refl _), fun y c h => ?_, fun p hp => absurd (show p ∈ ([] : List (Addr × Obj)) from hp) (by simp), e0.hok.kept hk, ?_⟩
  · exact name_of_addr x.apart (PySem.mem_of_lookup h1) (PySem.mem_of_lookup h2)
  · have hy : scope.names.lookup y = some .cell ∨ scope.names.lookup y = some .free := hy
    rcases hy with hy | hy
    · exact cell_has hy
    · exact absurd rfl (S.nofree _ (PySem.mem_of_lookup hy))
  · exact Nat.le_of_lt (x.above y c (PySem.mem_of_lookup h))
  · have hi : i < vs.length := by
      unfold start at h2
      by_cases hi : i < vs.length
      · exact hi
      · rw [List.getElem?_append_right (by simpa using hi)] at h2
        rw [List.getElem?_replicate] at h2
        split at h2 <;> cases h2
    have ha : vs[i]? = some v := by
      unfold start at h2
      rw [List.getElem?_append_left (by simpa using hi), List.getElem?_map] at h2
      cases e : vs[i]? with
      | none => rw [e] at h2; cases h2
      | some a => rw [e] at h2; cases h2; rfl
    obtain ⟨u, hu, rv⟩ := r.get ha
    have hp : ps[i]? = some y := by
      rw [← S.pre, List.getElem?_take_of_lt (by (exact Nat.lt_of_lt_of_eq (by with_reducible assumption) (by with_reducible assumption)))]; exact h1
    have ndP : ps.Nodup := by rw [← S.pre]; exact S.nd.sublist (List.take_sublist _ _)
    refine ⟨u, rv, ?_⟩
    rcases S.par y (List.mem_of_getElem? hp) with k | k
    · exact .inl ⟨k, bindL_get ndP hp hu k⟩
    · obtain ⟨c, e⟩ := cell_has (n := s.heap.objs.size + 1) k
      refine .inr ⟨.inl k, c, e, ?_⟩
      have q := x.cell y c e
      rw [bindC_get ndP hp hu (by show scope.names.lookup y ≠ _; rw [k]; decide)] at q
      exact q
  · exact e0.hok.fresh (Nat.le_of_lt (x.above y c (PySem.mem_of_lookup h)))
  · unfold start
    show _ = N.length
    rw [List.length_append, List.length_map, List.length_replicate]
    omega
theorem fn_of {CX : CXT} {P : Program} {w : World} {K : PySem.W.Frag} {mg : Str → Option Value} {base : Heap} {k : Nat} {f : Addr} {name qual : Str} {params : Arguments} {body : List Stmt} {scope : Scope} {dV kV doc pm cdv ct oc : Value} {an od : Option Addr}
    {osl : Array (Option Value)} {N ps : List Str} {sp : Sp} (lk : K.lookup f = some ⟨oc, od, .func (PySem.W.fnOf name qual params body scope dV kV doc pm an cdv ct), osl⟩) (hcd : PySem.W.codeIn K cdv qual = true) (S : FnScope N ps scope)
    (len : ∀ vs H Q E, sp vs H Q E → vs.length = ps.length)
    (hbody : ∀ (A : Around) (outer : List Env) (s : Shared) (H : Hp) (vs : List V) (Q : VK) (E : XK), Room k (A.deeper (envOfC qual scope s.heap.objs.size f cdv)) → sp vs H Q E →
      ∃ t, PSs (cxOf CX P w K mg base N qual scope f cdv A outer s H E) body t ∧ t { nx := fun _ H' => Q .non H', rt := Q } (start N vs) H) :
    FnOk P w K mg base CX (k + 1) f (PySem.W.fnOf name qual params body scope dV kV doc pm an cdv ct) ps sp := by
  refine ⟨len, fun A outer s H args us vs Q E hr e0 hb r hsp => ?_⟩
  have hl := len _ _ _ _ hsp
  have KX : K.In s.heap := e0.mod.kin.keeps fun b o e => (e0.bs b o e).1
  have lim : s.heap.NoLimit := e0.mod.nolimit.keeps fun b o e => (e0.bs b o e).1
  have hkind : ∀ y ∈ ps.zip us, scope.names.lookup y.1 = some .local ∨ (scope.names.lookup y.1 = some .cell ∧ ((cellsFrom (s.heap.objs.size + 1) scope.names []).lookup y.1).isSome = true) := fun ⟨n, v⟩ hy => by
    rcases S.par n (List.of_mem_zip hy).1 with q | q
    · exact .inl q
    · exact .inr ⟨q, PySem.W.cellsFrom_some _ _ _ (.inl q)⟩
  refine codeAny_call_function hr.depth (KX _ _ lk) rfl S.co S.gen rfl (PySem.W.codeRec_of KX hcd) (hb _ _ _ _ ?_)
  refine wpAny_newFunctionEnv_cells S.kind hkind fun env he s1 x => ?_
  subst he
  refine ⟨lim.keeps x.toInCall.keep, codeAny_func ?_⟩
  obtain ⟨t, ht, hq⟩ := hbody A outer s H vs Q E (hr.deeper _) hsp
  have I : Inv (cxOf CX P w K mg base N qual scope f cdv A outer s H E) [] (start N vs) H s1 := inv_start S hr.hd e0 hl r x
  refine wpAny_mono (ht [] s1 (start N vs) H _ I hq) (fun fl s' hs => ?_) fun e s' hs => hs
  have fin : ∀ {σ' : St} {H' : Hp} {v : V} {u : Value}, Inv (cxOf CX P w K mg base N qual scope f cdv A outer s H E) [] σ' H' s' → RelV v u → Q v H' → CE outer P w H s Q u s' :=
    fun {σ' H' v u} J rv q => ⟨v, H', J.os, J.bare, J.base, J.hok, rv, q⟩
  cases fl with
  | ret u =>
    obtain ⟨v, σ', H', J, rv, q⟩ := hs
    exact fin J rv q
  | next =>
    obtain ⟨σ', H', J, q⟩ := hs
    exact fin (v := V.non) (u := Value.none) J rfl q
  | brk =>
    obtain ⟨_, _, _, q⟩ := hs
    exact False.elim q
  | cont =>
    obtain ⟨_, _, _, q⟩ := hs
    exact False.elim q
end L2
namespace L2
open PySem PySem.Spec PyProof.Rows
section
variable {X : Cx} {x : Str} {p pos : Pos} {e : Expr} {es : List Expr} {t : TA} {id T : String} {r : List V → Hp → VK → Prop}
noncomputable def tCB (r : List V → Hp → VK → Prop) (t : TA) : TE := fun σ H Q => t σ H fun vs H1 => r vs H1 Q
theorem pe_callB (hc : CallR X (.builtin id) r) (hg : Gl X x) (hm : X.mg x = none) (hv : bootBuiltins x = some (.builtin id)) (ha : PA X (e :: es) t) (hn : autoParam (x ≠ "__name__") L2.aDec._auto_1) (hdb : autoParam ((x == ("__debug__" : Str)) = false) L2.aDec._auto_1)
    (he : autoParam (starEach (e :: es) X.env = (false, eval e X.env) :: starEach es X.env) L2.aRfl._auto_1) (hpl : autoParam ((backTo pos (starEach es X.env)).any (·.1) = false) L2.aRfl._auto_1) : PE X (.Call (.Name x p) (e :: es) [] pos) (tCB r t) := by
  intro pins s σ H Q I h
  refine wpAny_Call_Name_kw (ld_blt I hg hm hv ?_ hn hdb)
  exact PyProof.Rows.callWith_builtin1 (thn (ha pos pins s σ H _ I h) fun us s1 ⟨vs, H1, I1, r1, q1⟩ => hc pins s1 σ H1 vs us Q I1 r1 q1) he hpl
theorem pe_callTy (hc : CallR X (.type T) r) (hg : Gl X x) (hm : X.mg x = none) (hv : bootBuiltins x = some (.type T)) (ha : PA X (e :: es) t) (hn : autoParam (x ≠ "__name__") L2.aDec._auto_1) (hdb : autoParam ((x == ("__debug__" : Str)) = false) L2.aDec._auto_1)
    (he : autoParam (starEach (e :: es) X.env = (false, eval e X.env) :: starEach es X.env) L2.aRfl._auto_1) (hpl : autoParam ((backTo pos (starEach es X.env)).any (·.1) = false) L2.aRfl._auto_1) : PE X (.Call (.Name x p) (e :: es) [] pos) (tCB r t) := by
  intro pins s σ H Q I h
  refine wpAny_Call_Name_kw (ld_blt I hg hm hv ?_ hn hdb)
  exact PyProof.Rows.callWith_type1 (thn (ha pos pins s σ H _ I h) fun us s1 ⟨vs, H1, I1, r1, q1⟩ => hc pins s1 σ H1 vs us Q I1 r1 q1) he hpl
end
end L2
namespace HT
open PySem PyProof.Rows
section
open PySem.SeqAt
open PySem.AutoSeq1 (wpAny_loadPart')
open PySem.MeetsSeq PySem.MeetsSeq2 PySem.MeetsSeq3
end
section
variable {prog : Program} {w : World} {A : Around} {E : Value → Shared → Prop} {s : Shared}
theorem cat_tup {t b : Addr} {vs ws : List Value} {Q : Value → Shared → Prop} (ht : IsTup s.heap t vs.toArray) (hb : IsTup s.heap b ws.toArray) (hv : vs ≠ [])
    (h1 : ws = [] → Q (.ref t) s) (h2 : ws ≠ [] → Q (.ref s.heap.objs.size) { s with heap := s.heap.push { cls := .type "tuple", data := .seq (vs ++ ws).toArray } })
    (hsz : vs.length + ws.length ≤ sizeLine) : wpAny (model prog w) A (binaryOp .Add (.ref t) (.ref b)) Q E s := by
  obtain ⟨⟨cls, dd, data, sl⟩, ho, hc, n, hd⟩ := id ht
  obtain ⟨⟨cls2, dd2, data2, sl2⟩, ho2, hc2, n2, hd2⟩ := id hb
  simp only at hc hd hc2 hd2
  subst hc hd hc2 hd2
  have e : vs.toArray ++ ws.toArray = (vs ++ ws).toArray := by simp
  by_cases hw : ws = []
  · exact concat_meets ⟨_, ho, rfl⟩ ⟨_, ho2, rfl⟩ noFill_tuple_add seq_tuple_add PySem.F.slot_tuple_add PySem.F.entry_tuple_add (PySem.F.args_tuple_add_2 _ _)
      (tuple_addW1 t b vs.toArray ws.toArray n n2 dd dd2 sl sl2 (by simpa using hv) (by simp [hw])) ⟨ho, ho2, h1 hw⟩
  · refine concat_meets ⟨_, ho, rfl⟩ ⟨_, ho2, rfl⟩ noFill_tuple_add seq_tuple_add PySem.F.slot_tuple_add PySem.F.entry_tuple_add (PySem.F.args_tuple_add_2 _ _)
      (tuple_addW2 t b vs.toArray ws.toArray n n2 dd dd2 sl sl2 (by simpa using hv) (by simpa using hw) (by rw [List.size_toArray, List.size_toArray]; exact hsz)) ⟨ho, ho2, ?_⟩
    rw [e]
    exact h2 hw
noncomputable def sIx (n d : Nat) : Option Int → Nat
  | none => d
  | some v => if v < 0 then (v + (n : Int)).toNat else min v.toNat n
theorem sIx_le (n d : Nat) (hd : d ≤ n) (o : Option Int) : sIx n d o ≤ n := by
  cases o with
  | none => exact hd
  | some v =>
    show (if v < 0 then (v + (n : Int)).toNat else min v.toNat n) ≤ n
    by_cases hv : v < 0
    · rw [if_pos hv]; omega
    · rw [if_neg hv]; exact Nat.min_le_right _ _
theorem clip_eq (v : Int) (n d : Nat) : (if v < 0 then max (v + (n : Int)) 0 else min v (n : Int)) = ((sIx n d (some v) : Nat) : Int) := by
  show (if v < 0 then max (v + (n : Int)) 0 else min v (n : Int)) = (((if v < 0 then (v + (n : Int)).toNat else min v.toNat n) : Nat) : Int)
  by_cases hv : v < 0
  · simp only [if_pos hv]; (clear hv; omega)
  · simp only [if_neg hv]; omega
theorem adjust_gen (lo hi : Option Int) (n : Nat) : Builtin.Slice.sliceAdjust lo hi 1 (n : Int) = (((sIx n 0 lo : Nat) : Int), ((sIx n n hi : Nat) : Int)) := by
  have h1 : ¬ ((1 : Int) < 0) := by (exact Int.not_lt.mpr (Int.natCast_nonneg _))
  unfold Builtin.Slice.sliceAdjust
  simp only [h1, if_false]
  refine Prod.ext ?_ ?_
  · cases lo with
    | none => rfl
    | some v => exact clip_eq v n 0
  · cases hi with
    | none => rfl
    | some v => exact clip_eq v n n
theorem places_gen (i j : Nat) : Builtin.Slice.slicePlaces (i : Int) (j : Int) 1 = j - i := by
  unfold Builtin.Slice.slicePlaces
  have h1 : (1 : Int) > 0 := by (exact Int.natCast_nonneg _)
  simp only [h1, if_true, Int.ediv_one]
  split <;> (clear h1; omega)
theorem slicePart_ {v : Value} {o : Option Int} {Q : Option Int → Shared → Prop} (p : IsPart v o) (h : Q o s) : wpAny (model prog w) A (Builtin.Slice.slicePartIndex v) Q E s := by
  cases p with
  | none => exact slicePart_none h
  | int i t => exact slicePart_int h
theorem sliceApplied_gen {sl : Addr} {vl vu : Value} {lo hi : Option Int} {n : Nat} {Q : Int × Int × Nat → Shared → Prop} (hs : s.heap.IsSliceOf sl vl vu .none) (pl : IsPart vl lo) (pu : IsPart vu hi)
    (h : Q (((sIx n 0 lo : Nat) : Int), 1, sIx n n hi - sIx n 0 lo) s) : wpAny (model prog w) A (Builtin.Slice.sliceApplied (.ref sl) (pure (n : Int))) Q E s := by
  obtain ⟨os, hos, hcs, hds⟩ := id hs
  unfold Builtin.Slice.sliceApplied Builtin.Slice.sliceFields
  refine wpAny_bind (wpAny_bind (wpAny_field hos hds (x := vl) rfl (wpAny_bind (wpAny_field hos hds (x := vu) rfl (wpAny_bind (wpAny_field hos hds (x := .none) rfl (wpAny_pure ?_)))))))
  refine wpAny_bind (slicePart_none ?_)
  show wpAny _ _ (if ((1 : Int) == 0) = true then _ else _) _ _ s
  rw [if_neg (by decide)]
  refine wpAny_bind (slicePart_ pl (wpAny_bind (slicePart_ pu (wpAny_bind (wpAny_pure ?_)))))
  show wpAny _ _ (match Builtin.Slice.sliceAdjust lo hi 1 (n : Int) with | (lo, hi) => pure (lo, (1 : Int), Builtin.Slice.slicePlaces lo hi 1)) _ _ s
  rw [adjust_gen lo hi n]
  show wpAny _ _ (pure (((sIx n 0 lo : Nat) : Int), (1 : Int), Builtin.Slice.slicePlaces ((sIx n 0 lo : Nat) : Int) ((sIx n n hi : Nat) : Int) 1)) _ _ s
  rw [places_gen]
  exact wpAny_pure h
theorem pick_gen (xs : Array Value) (i k : Nat) : ((List.range k).filterMap fun (m : Nat) => xs[((i : Int) + (m : Int) * 1).toNat]?).toArray = ((xs.toList.drop i).take k).toArray := by
  have e : (fun (m : Nat) => xs[((i : Int) + (m : Int) * 1).toNat]?) = fun m => xs[i + m]? := by
    funext m
    have : ((i : Int) + (m : Int) * 1).toNat = i + m := by omega
    rw [this]
  rw [e]
  have := pick_run xs i k
  rw [List.filterMap_map] at this
  have e2 : ((fun x => xs[x]?) ∘ fun x => i + x) = fun m => xs[i + m]? := rfl
  rw [e2] at this
  rw [this]
theorem getItem_tuple_cut {t sl : Addr} {items : Array Value} {vl vu : Value} {lo hi : Option Int} {Q : Value → Shared → Prop} (ht : IsTup s.heap t items) (hs : s.heap.IsSliceOf sl vl vu .none) (pl : IsPart vl lo) (pu : IsPart vu hi)
    (hw : ¬ (sIx items.size 0 lo = 0 ∧ sIx items.size items.size hi = items.size))
    (h : Q (.ref s.heap.objs.size) { s with heap := s.heap.push { cls := .type "tuple", data := .seq ((items.toList.drop (sIx items.size 0 lo)).take (sIx items.size items.size hi - sIx items.size 0 lo)).toArray } })
    (hsz : items.size ≤ sizeLine) : wpAny (model prog w) A (getItem (.ref t) (.ref sl)) Q E s := by
  have htake : sizeOk (.seq ((items.toList.drop (sIx items.size 0 lo)).take (sIx items.size items.size hi - sIx items.size 0 lo)).toArray) := by
    show ((items.toList.drop (sIx items.size 0 lo)).take (sIx items.size items.size hi - sIx items.size 0 lo)).toArray.size ≤ sizeLine
    rw [List.size_toArray, List.length_take, List.length_drop, Array.length_toList]
    (clear hw; omega)
  have hj : sIx items.size items.size hi ≤ items.size := sIx_le _ _ (Nat.le_refl _) hi
  obtain ⟨os, hos, hcs, hds⟩ := id hs
  have hTs : s.TypeIs (.ref sl) "slice" := ⟨os, hos, hcs⟩
  unfold getItem
  try with_reducible refine wpAny_holding ?_
  first | refine wpAny_bind (wpAny_pure ?_) | skip
  refine wpAny_bind (wpAny_sequenceKey ht.typeIs (by decide) ?_)
  refine wpAny_bind (wpAny_callSpecial?_slot (name := Str.ofString "__getitem__") ht.typeIs PyProof.Rows.slot_tuple_getitem
    (wpAny_call_entry PyProof.Rows.slot_tuple_getitem ht.typeIs entry_tuple_getitem ?_ (args_tuple_getitem _ _)))
  show wpAny _ _ (Builtin.Tuple.tupleItemsOf (.ref t) >>= _) _ _ s
  refine wpAny_bind (tupleItemsOf_ ht ?_)
  refine wpAny_bind (wpAny_typeOf hTs ?_)
  rw [if_pos (by decide)]
  refine wpAny_bind (sliceApplied_gen hs pl pu ?_)
  have hno : ¬ ((((sIx items.size 0 lo : Nat) : Int) == 0 && (1 : Int) == 1 && (sIx items.size items.size hi - sIx items.size 0 lo) == items.size) = true) := by
    intro q
    rw [Bool.and_eq_true, Bool.and_eq_true] at q
    have q1 : ((sIx items.size 0 lo : Nat) : Int) = 0 := eq_of_beq q.1.1
    have q2 : sIx items.size items.size hi - sIx items.size 0 lo = items.size := eq_of_beq q.2
    exact hw ⟨by (clear hj hsz hw q q2; omega), by (clear hsz hw q; omega)⟩
  show wpAny _ _ (if (((sIx items.size 0 lo : Nat) : Int) == 0 && (1 : Int) == 1 && (sIx items.size items.size hi - sIx items.size 0 lo) == items.size) = true then _ else _) _ _ s
  rw [if_neg hno, pick_gen]
  first
    | exact wpAny_bind (m := Builtin.Tuple.tupleExact _) (wpAny_newObj_type (wpAny_pure ⟨_, rfl, wpAny_pure h⟩) htake)
    | exact wpAny_bind (m := Builtin.Tuple.tupleExact _) (wpAny_newObj_type (wpAny_bind (wpAny_pure (wpAny_pure ⟨_, rfl, wpAny_pure h⟩))) htake)
    | exact wpAny_bind (wpAny_bind (m := Builtin.Tuple.tupleExact _) (wpAny_newObj_type (wpAny_pure (wpAny_pure ⟨_, rfl, wpAny_pure h⟩)) htake))
    | exact wpAny_bind (wpAny_bind (m := Builtin.Tuple.tupleExact _) (wpAny_newObj_type (wpAny_pure ⟨_, rfl, wpAny_pure h⟩) htake))
end
end HT
namespace L2
open PySem PySem.Spec PyProof.Rows
noncomputable abbrev TO := St → Hp → (Option Int → Hp → Prop) → Prop
noncomputable def PO (X : Cx) (e : Option Expr) (t : TO) : Prop :=
  ∀ (pins : List (Addr × Obj)) (s : Shared) (σ : St) (H : Hp) (Q : Option Int → Hp → Prop), Inv X pins σ H s → t σ H Q →
    wpAny (model X.prog X.w) X.A (evalPart e X.env) (fun u s' => ∃ o H', Inv X pins σ H' s' ∧ IsPart u o ∧ Q o H') X.xe s
noncomputable def tNoPart : TO := fun _ H Q => Q none H
noncomputable def tPart (t : TE) : TO := fun σ H Q => t σ H fun x H1 => ∃ i, x = .int i ∧ Q (some i) H1
section
variable {X : Cx} {e : Expr} {te : TE} {lo hi : Option Expr} {tl th : TO} {pos p2 : Pos}
theorem po_none : PO X none tNoPart := by
  intro pins s σ H Q I h
  rw [evalPart_none]
  exact wpAny_pure ⟨none, H, I, .none, h⟩
theorem po_some (h : PE X e te) : PO X (some e) (tPart te) := by
  intro pins s σ H Q I hw
  rw [evalPart_some]
  refine thn (h pins s σ H _ I hw) fun u s1 ⟨x, H1, I1, r1, q1⟩ => ?_
  obtain ⟨i, rfl, q⟩ := q1
  obtain ⟨t, rfl⟩ := r1
  exact ⟨some i, H1, I1, .int i t, q⟩
noncomputable def SlR (X : Cx) (r : V → Option Int → Option Int → Hp → VK → Prop) : Prop :=
  ∀ (pins : List (Addr × Obj)) (s : Shared) (σ : St) (H : Hp) (x : V) (v vl vu : Value) (lo hi : Option Int) (sl : Addr) (Q : VK), Inv X pins σ H s → RelV x v → s.heap.IsSliceOf sl vl vu .none → IsPart vl lo → IsPart vu hi → r x lo hi H Q →
    ∃ T id, typeLookup (.type T) "__getitem__" = pure (some (.builtin id)) ∧ s.TypeIs v T ∧ wpAny (model X.prog X.w) X.A (getItem v (.ref sl)) (EP X pins σ Q) X.xe s
noncomputable def tSl (r : V → Option Int → Option Int → Hp → VK → Prop) (te : TE) (tl th : TO) : TE := fun σ H Q => te σ H fun x H1 => tl σ H1 fun l H2 => th σ H2 fun u H3 => r x l u H3 Q
theorem pe_slice {r : V → Option Int → Option Int → Hp → VK → Prop} (hr : SlR X r) (he : PE X e te) (hl : PO X lo tl) (hu : PO X hi th) : PE X (.Subscript e (.Slice lo hi none p2) pos) (tSl r te tl th) := by
  intro pins s σ H Q I h
  refine Subscript_ (thn (he pins s σ H _ I h) fun v s1 ⟨x, H1, I1, r1, q1⟩ => ?_)
  refine wpAny_Slice (thn (hl pins s1 σ H1 _ I1 q1) fun vl s2 ⟨l, H2, I2, pl, q2⟩ => thn (hu pins s2 σ H2 _ I2 q2) fun vu s3 ⟨u, H3, I3, pu, q3⟩ => ?_)
  rw [evalPart_none]
  refine wpAny_pure ?_
  have I4 : Inv X pins σ H3 { s3 with heap := s3.heap.push { cls := .type "slice", data := .fields #[vl, vu, .none] } } := I3.kept (t' := s3.toks) fun b ob q => Heap.get?_push_of_some _ q
  obtain ⟨T, id, hT, ht, hg⟩ := hr pins { s3 with heap := s3.heap.push { cls := .type "slice", data := .fields #[vl, vu, .none] } } σ H3 x v vl vu l u s3.heap.objs.size Q I4 r1 (Heap.IsSliceOf.new ..) pl pu q3
  show wpAny (model X.prog X.w) X.A (subscriptTail e (.Slice lo hi none p2) v (.ref s3.heap.objs.size)) (EP X pins σ Q) X.xe { s3 with heap := s3.heap.push { cls := .type "slice", data := .fields #[vl, vu, .none] } }
  exact tail_any (ops := [.ref s3.heap.objs.size, v]) ht hT hg (by with_unfolding_all rfl)
noncomputable def cutV (xs : List V) (lo hi : Option Int) : List V := (xs.drop (HT.sIx xs.length 0 lo)).take (HT.sIx xs.length xs.length hi - HT.sIx xs.length 0 lo)
theorem cutV_length (xs : List V) (lo hi : Option Int) : (cutV xs lo hi).length ≤ xs.length := by
  unfold cutV
  rw [List.length_take, List.length_drop]
  omega
noncomputable def rSlT (K : PySem.W.Frag) : V → Option Int → Option Int → Hp → VK → Prop := fun x lo hi H Q => ∃ a xs, x = .ref a ∧ SqT K H a xs ∧
  ¬ (HT.sIx xs.length 0 lo = 0 ∧ HT.sIx xs.length xs.length hi = xs.length) ∧ ∀ p, H p = none → Q (.ref p) (upd H p (.tup (cutV xs lo hi)))
theorem sl_tup : SlR X (rSlT X.K) := by
  intro pins s σ H x v vl vu lo hi sl Q I rx hs pl pu h
  obtain ⟨a, xs, rfl, hx, hw, q⟩ := h
  cases rx
  obtain ⟨its, r, ht, hz⟩ := I.tuple hx
  have hlen : its.toArray.size = xs.length := by rw [List.size_toArray]; exact r.length.symm
  refine ⟨"tuple", _, PyProof.Rows.slot_tuple_getitem.lookup, ht.typeIs, ?_⟩
  refine HT.getItem_tuple_cut ht hs pl pu (by rw [hlen]; exact hw) ?_ (by rw [hlen]; exact hz)
  rw [hlen]
  refine ⟨.ref s.heap.objs.size, _, I.laid (t' := s.toks) (o := .tup (cutV xs lo hi)) (fun b ob q => Heap.get?_push_of_some _ q) (Nat.le_refl _) ?_, rfl, q _ (I.hok.fresh (Nat.le_refl _))⟩
  exact ⟨Nat.le_trans (cutV_length xs lo hi) hz, _, (r.drop (HT.sIx xs.length 0 lo)).take (HT.sIx xs.length xs.length hi - HT.sIx xs.length 0 lo), IsTup.new _ _⟩
noncomputable def rCatT (K : PySem.W.Frag) : R2 := fun x y H Q => ∃ a b xs ys, x = .ref a ∧ y = .ref b ∧ SqT K H a xs ∧ SqT K H b ys ∧ xs ≠ [] ∧ xs.length + ys.length ≤ sizeLine ∧
  (ys = [] → Q (.ref a) H) ∧ (ys ≠ [] → ∀ p, H p = none → Q (.ref p) (upd H p (.tup (xs ++ ys))))
theorem Vals.nil_iff {xs : List V} {us : List Value} (r : Vals xs us) : us = [] ↔ xs = [] := by
  cases r with
  | nil => simp
  | cons _ _ => simp
theorem op_catT : OpR X (binaryOp .Add) (rCatT X.K) := by
  intro pins s σ H x y v u Q I rx ry h
  obtain ⟨a, b, xs, ys, rfl, rfl, ha, hb, hx, hz, q1, q2⟩ := h
  cases rx
  cases ry
  obtain ⟨its, r1, p1, _⟩ := I.tuple ha
  obtain ⟨its2, r2, p2, _⟩ := I.tuple hb
  refine HT.cat_tup p1 p2 (fun z => hx (r1.nil_iff.mp z)) (fun z => ⟨.ref a, H, I, rfl, q1 (r2.nil_iff.mp z)⟩) (fun z => ?_) (by rw [← r1.length, ← r2.length]; exact hz)
  refine ⟨.ref s.heap.objs.size, _, I.laid (t' := s.toks) (o := .tup (xs ++ ys)) (fun b ob q => Heap.get?_push_of_some _ q) (Nat.le_refl _) ?_, rfl, q2 (fun w => z (r2.nil_iff.mpr w)) _ (I.hok.fresh (Nat.le_refl _))⟩
  exact ⟨by rw [List.length_append]; exact hz, _, r1.append r2, IsTup.new _ _⟩
end
end L2
namespace L2
open PySem PySem.Spec PyProof.Rows
noncomputable def ixN (n : Nat) (i : Int) : Option Nat := if 0 ≤ i then (if i < n then some i.toNat else none) else if -(n : Int) ≤ i then some (i + n).toNat else none
noncomputable def atI {α : Type} (xs : List α) (i : Int) : Option α := (ixN xs.length i).bind fun j => xs[j]?
theorem ixN_seq {n : Nat} {i : Int} {j : Nat} (h : ixN n i = some j) : seqIndex? i n = some j ∧ j < n ∧ -(n : Int) ≤ i ∧ i < n := by
  unfold ixN at h
  by_cases h0 : 0 ≤ i
  · rw [if_pos h0] at h
    by_cases h1 : i < n
    · rw [if_pos h1] at h
      have e : i.toNat = j := Option.some.inj h
      exact ⟨by rw [seqIndex_of h0 h1, e], by omega, by (clear e h1; omega), h1⟩
    · rw [if_neg h1] at h; cases h
  · rw [if_neg h0] at h
    by_cases h1 : -(n : Int) ≤ i
    · rw [if_pos h1] at h
      have e : (i + n).toNat = j := Option.some.inj h
      exact ⟨by rw [seqIndex_neg (by (clear e h1; omega)) h1, e], by omega, h1, by (clear e; omega)⟩
    · rw [if_neg h1] at h; cases h
theorem atI_get {α : Type} {xs : List α} {i : Int} {v : α} (h : atI xs i = some v) : ∃ j, seqIndex? i xs.length = some j ∧ xs[j]? = some v ∧ j < xs.length ∧ -(xs.length : Int) ≤ i ∧ i < xs.length := by
  unfold atI at h
  cases e : ixN xs.length i with
  | none => rw [e] at h; cases h
  | some j =>
    rw [e] at h
    obtain ⟨h1, h2, h3, h4⟩ := ixN_seq e
    exact ⟨j, h1, h, h2, h3, h4⟩
theorem atI_nat {α : Type} {xs : List α} {j : Nat} {v : α} (h : xs[j]? = some v) : atI xs (j : Int) = some v := by
  have hj : j < xs.length := (List.getElem?_eq_some_iff.mp h).1
  have e : ixN xs.length (j : Int) = some j := by
    unfold ixN
    rw [if_pos (by (exact Int.natCast_nonneg _)), if_pos (by (exact Int.ofNat_lt.mpr (by with_reducible assumption)))]; simp
  unfold atI; rw [e]; exact h
noncomputable def PlainIx (b : Expr) : Prop := ∀ o i, subscripted b false o i = operate [o, i] (getItem o i)
noncomputable def IxR (X : Cx) (r : R2) : Prop :=
  ∀ (value slice : Expr) (pins : List (Addr × Obj)) (s : Shared) (σ : St) (H : Hp) (x y : V) (v u : Value) (Q : VK), Inv X pins σ H s → RelV x v → RelV y u → r x y H Q →
    subscripted slice false v u = operate [v, u] (getItem v u) → wpAny (model X.prog X.w) X.A (subscriptTail value slice v u) (EP X pins σ Q) X.xe s
noncomputable def MtR (X : Cx) (id : String) (r : V → List V → Hp → VK → Prop) : Prop :=
  ∀ (pins : List (Addr × Obj)) (s : Shared) (σ : St) (H : Hp) (x : V) (xs : List V) (v : Value) (us : List Value) (Q : VK), Inv X pins σ H s → RelV x v → Vals xs us → r x xs H Q →
    wpAny (model X.prog X.w) X.A (call (.builtin id) (v :: us)) (EP X pins σ Q) X.xe s
section
variable {X : Cx} {a b : Expr} {ta tb : TE} {pos : Pos}
theorem pe_ix {r : R2} (hr : IxR X r) (ha : PE X a ta) (hb : PE X b tb) (hs : PlainIx b) : PE X (.Subscript a b pos) (tOp r ta tb) := by
  intro pins s σ H Q I h
  exact Subscript_ (binT ha hb I h fun v u s2 x y H2 I2 rx ry q => hr a b pins s2 σ H2 x y v u Q I2 rx ry q (hs _ _))
noncomputable def rIxL (K : PySem.W.Frag) : R2 := fun x y H Q => ∃ p xs i v, x = .ref p ∧ y = .int i ∧ SqL K H p xs ∧ atI xs i = some v ∧ Q v H
noncomputable def rIxT (K : PySem.W.Frag) : R2 := fun x y H Q => ∃ p xs i v, x = .ref p ∧ y = .int i ∧ SqT K H p xs ∧ atI xs i = some v ∧ Q v H
theorem ix_list : IxR X (rIxL X.K) := by
  intro value slice pins s σ H x y v u Q I rx ry h hs
  obtain ⟨p, xs, i, z, rfl, rfl, hq, he, q⟩ := h
  cases rx
  obtain ⟨t, rfl⟩ := ry
  obtain ⟨its, r, pl, hz⟩ := I.list hq
  obtain ⟨j, h1, h2, h3, h4, h5⟩ := atI_get he
  obtain ⟨w, ew, rw'⟩ := r.get h2
  have hl := r.length
  have hn := line63
  have fin : EP X pins σ Q w s := ⟨z, H, I, rw', q⟩
  by_cases h0 : 0 ≤ i
  · have hj : i.toNat = j := by
      rw [seqIndex_of h0 h5] at h1
      exact Option.some.inj h1
    exact item_listR pl.isList h0 (by (clear h0 h3 h4 hj; omega)) (by rw [hj]; simpa using ew) fin hs
  · have hj : (i + (its.toArray.size : Int)).toNat = j := by
      rw [seqIndex_neg (by (clear h3 h4 h5 hl hn hz; omega)) h4] at h1
      rw [List.size_toArray, ← hl]
      exact Option.some.inj h1
    exact subscriptTail_builtinR (x := w) pl.isList.typeIs slot_list_getitem.lookup
      (wpAny_getItem_list_neg (Q := fun r s' => r = w ∧ EP X pins σ Q r s') pl.isList (by (clear h3 h4 h5 hj hl hn hz; omega)) (by rw [List.size_toArray] <;> (clear h0 h3 h5 hj hn hz; omega)) (by (clear h0 h3 h5 hj; omega)) (by rw [hj]; simpa using ew) ⟨rfl, fin⟩) hs
theorem ix_tup : IxR X (rIxT X.K) := by
  intro value slice pins s σ H x y v u Q I rx ry h hs
  obtain ⟨p, xs, i, z, rfl, rfl, hq, he, q⟩ := h
  cases rx
  obtain ⟨t, rfl⟩ := ry
  obtain ⟨its, r, pl, hz⟩ := I.tuple hq
  obtain ⟨j, h1, h2, h3, h4, h5⟩ := atI_get he
  obtain ⟨w, ew, rw'⟩ := r.get h2
  have hl := r.length
  have hn := line63
  have fin : EP X pins σ Q w s := ⟨z, H, I, rw', q⟩
  exact subscriptTail_builtinR (x := w) pl.typeIs slot_tuple_getitem.lookup
    (getItem_tuple (j := j) (Q := fun r s' => r = w ∧ EP X pins σ Q r s') pl (by (clear h5; omega)) (by (clear h4; omega)) (by rw [List.size_toArray, ← hl]; exact h1) (by simpa using ew) ⟨rfl, fin⟩) hs
theorem mapSeq_set (its : List Value) (n j : Nat) (u : Value) : Obj.mapSeq (·.setIfInBounds j u) { cls := .type "list", data := .seq its.toArray n } = { cls := .type "list", data := .seq (its.set j u).toArray n } := by
  simp [Obj.mapSeq]
theorem Inv.lst {pins : List (Addr × Obj)} {σ : St} {H : Hp} {s : Shared} {p : Addr} {xs : List V} (I : Inv X pins σ H s) (h : H p = some (.lst xs)) :
    ∃ (its : List Value) (n : Nat), Vals xs its ∧ s.heap.get? p = some { cls := .type "list", data := .seq its.toArray n } ∧ xs.length ≤ sizeLine := by
  obtain ⟨z, its, n, r, e⟩ := I.hok p _ h
  exact ⟨its, n, r, e, z⟩
theorem Inv.lstUpd {pins : List (Addr × Obj)} {σ : St} {H : Hp} {s : Shared} {p : Addr} {xs ys : List V} {its its' : List Value} {n n' : Nat} {f : Obj → Obj} (I : Inv X pins σ H s) (h : H p = some (.lst xs))
    (ho : s.heap.get? p = some { cls := .type "list", data := .seq its.toArray n }) (hf : f { cls := .type "list", data := .seq its.toArray n } = { cls := .type "list", data := .seq its'.toArray n' }) (r : Vals ys its') (hz : ys.length ≤ sizeLine) (t : Nat) :
    Inv X pins σ (upd H p (.lst ys)) { s with heap := s.heap.update p f, toks := t } := by
  have e : (s.heap.update p f).get? p = some { cls := .type "list", data := .seq its'.toArray n' } := by
    rw [Heap.get?_update_self f ho (by rw [hf] <;> rfl), hf]
  refine I.write (x := p) (e := p) (by rw [h]; trivial) (.inl rfl) (fun b u hb q => (Heap.get?_update_other _ _ (Ne.symm hb)).trans q) ⟨_, e⟩ ?_
  exact ⟨hz, its', n', r, e⟩
noncomputable def rSetL : V → V → V → Hp → (Hp → Prop) → Prop := fun o i v H Q => ∃ p xs k j, o = .ref p ∧ i = .int k ∧ H p = some (.lst xs) ∧ ixN xs.length k = some j ∧ Q (upd H p (.lst (xs.set j v)))
theorem set_list : PSet X rSetL := by
  intro pins s σ H o i v ov iv u Q I ro ri rv h
  obtain ⟨p, xs, k, j, rfl, rfl, hp, hj, q⟩ := h
  cases ro
  obtain ⟨t, rfl⟩ := ri
  obtain ⟨its, n, r, ho, hz⟩ := I.lst hp
  obtain ⟨h1, h2, h3, h4⟩ := ixN_seq hj
  have hl := r.length
  have hn := line63
  have I' : Inv X pins σ (upd H p (.lst (xs.set j v))) { s with heap := s.heap.update p (Obj.mapSeq (·.setIfInBounds j u)) } :=
    I.lstUpd hp ho (mapSeq_set its n j u) (r.set rv j) (by rw [List.length_set]; exact hz) s.toks
  by_cases h0 : 0 ≤ k
  · have hk : k.toNat = j := by
      rw [seqIndex_of h0 h4] at h1
      exact Option.some.inj h1
    exact PySem.W.ki_setAt ho h0 (by (clear h0 h2 h3 hk; omega)) (by rw [List.size_toArray, ← hl]; exact h4) (by rw [hk]; exact ⟨_, I', q⟩)
  · have hk : (k + (its.toArray.size : Int)).toNat = j := by
      rw [seqIndex_neg (by (clear h2 h3 h4 hl hn hz; omega)) h3] at h1
      rw [List.size_toArray, ← hl]
      exact Option.some.inj h1
    exact PySem.W.ki_setBack ho (by (clear h2 h3 h4 hk hl hn hz; omega)) (by rw [List.size_toArray, ← hl]; exact h3) (by (clear h0 h2 h4 hk; omega)) (by rw [hk]; exact ⟨_, I', q⟩)
theorem slice_bounds (lo hi : Option Int) (n : Nat) : (sliceBounds lo hi none n).1 = ((HT.sIx n 0 lo : Nat) : Int) ∧ (sliceBounds lo hi none n).2.1 = ((HT.sIx n n hi : Nat) : Int) ∧ (sliceBounds lo hi none n).2.2 = 1 := by
  refine ⟨?_, ?_, rfl⟩
  · cases lo with
    | none => simp [sliceBounds, HT.sIx]
    | some i =>
      simp only [sliceBounds, HT.sIx, Option.getD_none, show (1 : Int) > 0 by decide, if_true]
      by_cases h : i < 0
      · simp only [h, if_true] <;> omega
      · simp only [h, if_false] <;> omega
  · cases hi with
    | none => simp [sliceBounds, HT.sIx]
    | some i =>
      simp only [sliceBounds, HT.sIx, Option.getD_none, show (1 : Int) > 0 by decide, if_true]
      by_cases h : i < 0
      · simp only [h, if_true] <;> omega
      · simp only [h, if_false] <;> omega
theorem slicePick_cut (its : List Value) (lo hi : Option Int) : slicePick its.toArray lo hi none = ((its.drop (HT.sIx its.length 0 lo)).take (HT.sIx its.length its.length hi - HT.sIx its.length 0 lo)).toArray := by
  obtain ⟨h1, h2, h3⟩ := slice_bounds lo hi its.toArray.size
  unfold slicePick
  rw [h1, h2, h3]
  simp only [sliceRange_one, pick_run, List.size_toArray] <;> rfl
noncomputable def rSlL (K : PySem.W.Frag) : V → Option Int → Option Int → Hp → VK → Prop := fun x lo hi H Q => ∃ a xs, x = .ref a ∧ SqL K H a xs ∧ ∀ p, H p = none → Q (.ref p) (upd H p (.lst (cutV xs lo hi)))
theorem sl_list : SlR X (rSlL X.K) := by
  intro pins s σ H x v vl vu lo hi sl Q I rx hs pl pu h
  obtain ⟨a, xs, rfl, hx, q⟩ := h
  cases rx
  obtain ⟨its, r, ht, hz⟩ := I.list hx
  have hlen := r.length
  refine ⟨"list", _, slot_list_getitem.lookup, ht.isList.typeIs, ?_⟩
  refine wpAny_getItem_list_slice ht.isList hs pl pu .none (by simp) ?_ (by rw [List.size_toArray] <;> (exact Nat.le_trans (Nat.le_of_eq (Eq.symm (by with_reducible assumption))) (by with_reducible assumption)))
  rw [slicePick_cut, ← hlen]
  refine ⟨.ref s.heap.objs.size, _, I.laid (t' := s.toks) (o := .lst (cutV xs lo hi)) (fun b ob q => Heap.get?_push_of_some _ q) (Nat.le_refl _) ?_, rfl, q _ (I.hok.fresh (Nat.le_refl _))⟩
  exact ⟨Nat.le_trans (cutV_length xs lo hi) hz, _, 0, (r.drop (HT.sIx xs.length 0 lo)).take (HT.sIx xs.length xs.length hi - HT.sIx xs.length 0 lo), Heap.get?_push_size _ rfl⟩
theorem call_len_seq : CallR X (.builtin "len") (fun xs H Q => ∃ p ys, xs = [.ref p] ∧ (SqL X.K H p ys ∨ SqT X.K H p ys) ∧ Q (.int ys.length) H) := by
  intro pins s σ H xs us Q I r h
  obtain ⟨p, ys, rfl, hq, q⟩ := h
  obtain ⟨u, rfl, rx⟩ := vals1 r
  cases rx
  have hn := line63
  rcases hq with hq | hq
  · obtain ⟨its, r', pl, hz⟩ := I.list hq
    have hlen := r'.length
    exact Calls.call_len_list pl.isList (by simp only [List.size_toArray] <;> omega) ⟨.int ys.length, H, I.tok _, ⟨s.toks + 1, by rw [List.size_toArray, hlen]⟩, q⟩
  · obtain ⟨its, r', pl, hz⟩ := I.tuple hq
    have hlen := r'.length
    exact len_tuple pl (by simp only [List.size_toArray] <;> omega) ⟨.int ys.length, H, I.tok _, ⟨s.toks + 1, by rw [List.size_toArray, hlen]⟩, q⟩
theorem call_list_of : CallR X (.type "list") (fun xs H Q => ∃ p ys, xs = [.ref p] ∧ (SqL X.K H p ys ∨ SqT X.K H p ys) ∧ ∀ l, H l = none → Q (.ref l) (upd H l (.lst ys))) := by
  intro pins s σ H xs us Q I r h
  obtain ⟨p, ys, rfl, hq, q⟩ := h
  obtain ⟨u, rfl, rx⟩ := vals1 r
  cases rx
  have fin : ∀ (its : List Value), Vals ys its → ys.length ≤ sizeLine → ∀ (h' : Heap) (c' : Nat), (∀ b o', s.heap.get? b = some o' → h'.get? b = some o') →
      h'.get? s.heap.objs.size = some { cls := .type "list", dict := none, data := .seq its.toArray c', slots := #[] } → EP X pins σ Q (.ref s.heap.objs.size) { s with heap := h' } := fun its r' hz h' c' kp e =>
    ⟨.ref s.heap.objs.size, _, I.laid (t' := s.toks) kp (Nat.le_refl _) (show ObjOk X.prog X.w _ h' _ (.lst ys) from ⟨hz, its, c', r', e⟩), rfl, q _ (I.hok.fresh (Nat.le_refl _))⟩
  rcases hq with hq | hq
  · obtain ⟨its, r', pl, hz⟩ := I.list hq
    have hlen := r'.length
    obtain ⟨o, ho, hc, n, hd⟩ := pl.isList
    exact call_list_seq p (.inl rfl) ho hc hd (fun h' c' kp e => fin its r' hz h' c' kp e) (by simp only [List.size_toArray] <;> (exact Nat.le_trans (Nat.le_of_eq (Eq.symm (by with_reducible assumption))) (by with_reducible assumption)))
  · obtain ⟨its, r', pl, hz⟩ := I.tuple hq
    have hlen := r'.length
    obtain ⟨o, ho, hc, n, hd⟩ := pl
    exact call_list_seq p (.inr rfl) ho hc hd (fun h' c' kp e => fin its r' hz h' c' kp e) (by simp only [List.size_toArray] <;> (exact Nat.le_trans (Nat.le_of_eq (Eq.symm (by with_reducible assumption))) (by with_reducible assumption)))
theorem call_tuple_of : CallR X (.type "tuple") (fun xs H Q => ∃ p ys, xs = [.ref p] ∧ ((SqL X.K H p ys ∧ ∀ l, H l = none → Q (.ref l) (upd H l (.tup ys))) ∨ (SqT X.K H p ys ∧ Q (.ref p) H))) := by
  intro pins s σ H xs us Q I r h
  obtain ⟨p, ys, rfl, h⟩ := h
  obtain ⟨u, rfl, rx⟩ := vals1 r
  cases rx
  rcases h with ⟨hq, q⟩ | ⟨hq, q⟩
  · obtain ⟨its, r', pl, hz⟩ := I.list hq
    have hlen := r'.length
    refine call_tuple_list pl.isList (fun h' kp => ?_) (by simp only [List.size_toArray] <;> (exact Nat.le_trans (Nat.le_of_eq (Eq.symm (by with_reducible assumption))) (by with_reducible assumption)))
    have I1 : Inv X pins σ H { s with heap := h' } := I.kept (t' := s.toks) kp
    have I2 : Inv X pins σ (upd H h'.objs.size (.tup ys)) { s with heap := h'.push { cls := .type "tuple", data := .seq its.toArray } } :=
      I1.laid (t' := s.toks) (fun b o e => Heap.get?_push_of_some _ e) (Nat.le_refl _) (show ObjOk X.prog X.w _ _ _ (.tup ys) from ⟨hz, its, r', IsTup.new _ _⟩)
    exact ⟨.ref h'.objs.size, _, I2, rfl, q _ (I1.hok.fresh (Nat.le_refl _))⟩
  · obtain ⟨its, r', pl, hz⟩ := I.tuple hq
    exact call_tuple_same pl ⟨.ref p, H, I, rfl, q⟩
noncomputable def tyV (K : PySem.W.Frag) (T : String) (x : V) (H : Hp) : Prop := match x with
  | .str _ => T = "str"
  | .int _ => T = "int"
  | .ref p => (T = "list" ∧ ∃ xs, SqL K H p xs) ∨ (T = "tuple" ∧ ∃ o, K.lookup p = some o ∧ o.cls = .type "tuple" ∧ o.dict = none) ∨
      (T = "dict" ∧ ((∃ kvs, H p = some (.dK kvs)) ∨ ∃ kvs, H p = some (.dT kvs))) ∨ (T = "set" ∧ ∃ S n, H p = some (.set S n))
  | _ => False
theorem tyV_is {pins : List (Addr × Obj)} {σ : St} {H : Hp} {s : Shared} {T : String} {x : V} {v : Value} (I : Inv X pins σ H s) (r : RelV x v) (ty : tyV X.K T x H) :
    s.TypeIs v T ∧ ∀ a, v = .ref a → ∃ ob, s.heap.get? a = some ob ∧ ob.dict = none := by
  cases x with
  | str z =>
    obtain ⟨t, rfl⟩ := r
    cases (show T = "str" from ty)
    exact ⟨typeIs_str s z t, fun _ e => nomatch e⟩
  | int i =>
    obtain ⟨t, rfl⟩ := r
    cases (show T = "int" from ty)
    exact ⟨typeIs_int s i t, fun _ e => nomatch e⟩
  | ref p =>
    cases r
    rcases ty with ⟨rfl, xs, hq⟩ | ⟨rfl, o, hk, hc, hd⟩ | ⟨rfl, hk⟩ | ⟨rfl, S, n, hk⟩
    · obtain ⟨its, _, pl, _⟩ := I.list hq
      refine ⟨pl.isList.typeIs, fun a e => ?_⟩
      cases e
      obtain ⟨o, n, e, c, hd, _⟩ := pl
      exact ⟨o, e, hd⟩
    · refine ⟨⟨o, I.kIn p o hk, hc⟩, fun a e => ?_⟩
      cases e
      exact ⟨o, I.kIn _ o hk, hd⟩
    · have z : ∃ o, s.heap.get? p = some o ∧ o.ExactDict := by
        rcases hk with ⟨kvs, hk⟩ | ⟨kvs, hk⟩
        · obtain ⟨_, _, _, _, o, _, _, e, ex, _⟩ := I.hok p _ hk
          exact ⟨o, e, ex⟩
        · obtain ⟨_, _, _, _, o, _, _, e, ex, _⟩ := I.hok p _ hk
          exact ⟨o, e, ex⟩
      obtain ⟨o, e, ex⟩ := z
      refine ⟨⟨o, e, ex.1⟩, fun a e2 => ?_⟩
      cases e2
      exact ⟨o, e, ex.2.1⟩
    · obtain ⟨o, _, _, _, e, ex, _⟩ := I.hok p _ hk
      refine ⟨⟨o, e, ex.1⟩, fun a e2 => ?_⟩
      cases e2
      exact ⟨o, e, ex.2.1⟩
  | _ => exact False.elim ty
noncomputable def tBM0 (K : PySem.W.Frag) (T : String) (r : V → List V → Hp → VK → Prop) (to : TE) : TE := fun σ H Q => to σ H fun x H1 => tyV K T x H1 ∧ r x [] H1 Q
noncomputable def tBM (K : PySem.W.Frag) (T : String) (r : V → List V → Hp → VK → Prop) (to : TE) (t : TA) : TE := fun σ H Q => to σ H fun x H1 => tyV K T x H1 ∧ t σ H1 fun xs H2 => r x xs H2 Q
variable {o e : Expr} {es : List Expr} {to : TE} {t : TA} {name : Str} {apos cpos : Pos} {T id : String} {r : V → List V → Hp → VK → Prop}
theorem pe_bm0 (pa : PlainAttrs T) (slot : Slot T name id) (hty : typeOf (.builtin id) = pure (.type "method_descriptor")) (hm : MtR X id r) (ho : PE X o to)
    (hbase : autoParam (attributeBase o name X.env (eval o X.env) = eval o X.env) L2.aRfl._auto_1) (hline : autoParam ((apos.endLine == cpos.line) = true) L2.aRfl._auto_1) : PE X (.Call (.Attribute o name apos) [] [] cpos) (tBM0 X.K T r to) := by
  intro pins s σ H Q I h
  refine wpAny_Call_method0_late hbase hline (thn (ho pins s σ H _ I h) fun v s1 ⟨x, H1, I1, r1, ty, q1⟩ => ?_)
  obtain ⟨h1, h2⟩ := tyV_is I1 r1 ty
  exact ⟨T, id, pa, slot, hty, h1, h2, Calls.callWith_builtin rfl (PySem.evalArgs_none (hm pins s1 σ H1 x [] v [] Q I1 r1 .nil q1))⟩
theorem pe_bm (pa : PlainAttrs T) (slot : Slot T name id) (hty : typeOf (.builtin id) = pure (.type "method_descriptor")) (hm : MtR X id r) (ho : PE X o to) (ha : PA X (e :: es) t)
    (hbase : autoParam (attributeBase o name X.env (eval o X.env) = eval o X.env) L2.aRfl._auto_1)
    (hfew : ((backTo cpos (starEach (e :: es) X.env)).all (fun x => !x.1) && (backToKw cpos (keywordEach [] X.env)).all (fun x => x.1.isSome)
      && decide ((e :: es).length + ([] : List Keyword).length + (if ([] : List Keyword).isEmpty then 0 else 1) < 30)) = true := by rfl)
    (hline : autoParam ((apos.endLine == cpos.line) = true) L2.aRfl._auto_1) (hs : autoParam (starEach (e :: es) X.env = (false, eval e X.env) :: starEach es X.env) L2.aRfl._auto_1) (hplain : autoParam ((backTo cpos (starEach es X.env)).any (·.1) = false) L2.aRfl._auto_1) :
    PE X (.Call (.Attribute o name apos) (e :: es) [] cpos) (tBM X.K T r to t) := by
  intro pins s σ H Q I h
  refine wpAny_Call_method_late hbase hfew hline rfl (thn (ho pins s σ H _ I h) fun v s1 ⟨x, H1, I1, r1, ty, q1⟩ => ?_)
  obtain ⟨h1, h2⟩ := tyV_is I1 r1 ty
  refine ⟨T, id, pa, slot, hty, h1, h2, ?_⟩
  have hA := ha cpos pins s1 σ H1 _ I1 q1
  rw [hs] at hA ⊢
  refine Calls.callWith_builtin (by show (false || (backTo cpos (starEach es X.env)).any (·.1)) = false; rw [hplain] <;> rfl) (Calls.evalArgs_plain ?_)
  exact thn hA fun us s2 ⟨vs, H2, I2, r2, q2⟩ => hm pins s2 σ H2 x vs v us Q I2 r1 r2 q2
/- xs.append(e), list.index on a module's tuple .. are MtR facts of 06m -/
end
end L2
namespace L2
open PySem PySem.Spec PyProof.Rows
noncomputable def MtM (X : Cx) (id : String) (r : V → List V → Hp → VK → Prop) : Prop :=
  ∀ (pins : List (Addr × Obj)) (s : Shared) (σ : St) (H : Hp) (x : V) (xs : List V) (v : Value) (us : List Value) (Q : VK), Inv X pins σ H s → RelV x v → Vals xs us → r x xs H Q →
    wpAny (model X.prog X.w) X.A (call (.builtin id) (v :: us)) (EP X pins σ Q) X.xe s
theorem Vals.one {x : V} {us : List Value} (h : Vals [x] us) : ∃ u, us = [u] ∧ RelV x u := by
  cases h with
  | cons r t => cases t; exact ⟨_, rfl, r⟩
theorem Vals.two {x y : V} {us : List Value} (h : Vals [x, y] us) : ∃ u v, us = [u, v] ∧ RelV x u ∧ RelV y v := by
  cases h with
  | cons r t =>
    cases t with
    | cons q t => cases t; exact ⟨_, _, rfl, r, q⟩
theorem Vals.rep {xs : List V} {us : List Value} (h : Vals xs us) : ∀ k : Nat, Vals (List.replicate k xs).flatten (List.replicate k us).flatten
  | 0 => .nil
  | k + 1 => by
    rw [List.replicate_succ, List.replicate_succ, List.flatten_cons, List.flatten_cons]
    exact Vals.append h (Vals.rep h k)
theorem foldl_rep (its : List Value) : ∀ (k : Nat) (acc : List Value),
    List.foldl (fun x1 x2 => x1 ++ x2) acc.toArray (List.replicate k its.toArray) = (acc ++ (List.replicate k its).flatten).toArray
  | 0, acc => by simp
  | k + 1, acc => by
    have e : acc.toArray ++ its.toArray = (acc ++ its).toArray := by simp
    have e2 : (acc ++ its) ++ (List.replicate k its).flatten = acc ++ (List.replicate (k + 1) its).flatten := by
      rw [List.replicate_succ, List.flatten_cons, List.append_assoc]
    rw [← e2, ← foldl_rep its k (acc ++ its), ← e, List.replicate_succ, List.foldl_cons]
section
variable {X : Cx} {pins : List (Addr × Obj)} {σ : St} {H : Hp} {s : Shared} {l b : Addr} {xs ys zs : List V}
theorem Inv.lset {its its' : List Value} {n : Nat} {f : Array Value → Array Value} {t' : Nat} (I : Inv X pins σ H s) (hH : H l = some (.lst xs))
    (e : s.heap.get? l = some { cls := .type "list", data := .seq its.toArray n }) (hf : f its.toArray = its'.toArray) (hv : Vals ys its') (hz : ys.length ≤ sizeLine) :
    Inv X pins σ (upd H l (.lst ys)) { s with heap := s.heap.update l (Obj.mapSeq f), toks := t' } := by
  have q := PySem.IsL.update e f
  rw [hf] at q
  refine I.write (x := l) (e := l) (by rw [hH]; exact trivial) (.inl rfl) (fun b' u hb hu => (Heap.get?_update_other s.heap (Obj.mapSeq f) (Ne.symm hb)).trans hu) ⟨_, q⟩ ?_
  exact ⟨hz, its', _, hv, q⟩
theorem Inv.lnew {its : List Value} {t' : Nat} (I : Inv X pins σ H s) (hv : Vals ys its) (hz : ys.length ≤ sizeLine) :
    Inv X pins σ (upd H s.heap.objs.size (.lst ys)) { s with heap := s.heap.push { cls := .type "list", data := .seq its.toArray }, toks := t' } :=
  I.laid (fun _ _ q => Heap.get?_push_of_some _ q) (Nat.le_refl _) ⟨hz, its, 0, hv, Heap.get?_push_size _ rfl⟩
theorem Inv.fresh (I : Inv X pins σ H s) : H s.heap.objs.size = none := I.hok.fresh (Nat.le_refl _)
theorem Inv.lstM (I : Inv X pins σ H s) (hH : H l = some (.lst xs)) : xs.length ≤ sizeLine ∧ ∃ (its : List Value) (n : Nat), Vals xs its ∧ xs.length = its.length ∧ s.heap.get? l = some { cls := .type "list", data := .seq its.toArray n } := by
  obtain ⟨z, its, n, r, e⟩ := I.hok l _ hH
  exact ⟨z, its, n, r, r.length, e⟩
theorem notLongL {n : Nat} (h : n ≤ sizeLine) : Builtin.List.listTooLong n = false := by
  unfold Builtin.List.listTooLong
  exact decide_eq_false (by (exact Nat.not_lt.mpr (by with_reducible assumption)))
end
section
variable {X : Cx}
noncomputable def rAppend : V → List V → Hp → VK → Prop := fun x vs H Q => ∃ l xs y, x = .ref l ∧ vs = [y] ∧ H l = some (.lst xs) ∧ xs.length < sizeLine ∧ Q .non (upd H l (.lst (xs ++ [y])))
theorem mt_append : MtM X "list.append" rAppend := by
  intro pins s σ H x vs v us Q I rx rv h
  obtain ⟨l, xs, y, rfl, rfl, hH, hz, q⟩ := h
  cases rx
  obtain ⟨u, rfl, ru⟩ := rv.one
  obtain ⟨z, its, n, r, hl, e⟩ := I.lstM hH
  refine call_meets F.slot_list_append ⟨_, e, rfl⟩ F.entry_list_append (F.args_list_append_2 _ _) (PySem.list_append l its.toArray n u (by rw [List.size_toArray]; (exact Nat.le_trans (Nat.le_of_eq (Eq.symm (by with_reducible assumption))) (by with_reducible assumption)))) ⟨e, ?_⟩
  refine ⟨.non, _, I.lset (its' := its ++ [u]) hH e (by simp) (r.append (.cons ru .nil)) ?_, rfl, q⟩
  rw [List.length_append, List.length_singleton]
  (exact Nat.succ_le_of_lt (by with_reducible assumption))
noncomputable def rCat : R2 := fun x y H Q => ∃ l b xs zs, x = .ref l ∧ y = .ref b ∧ H l = some (.lst xs) ∧ H b = some (.lst zs) ∧ xs.length + zs.length ≤ sizeLine ∧ ∀ p, H p = none → Q (.ref p) (upd H p (.lst (xs ++ zs)))
theorem op_cat : OpR X (binaryOp .Add) rCat := by
  intro pins s σ H x y v u Q I rx ry h
  obtain ⟨l, b, xs, zs, rfl, rfl, hH, hB, hz, q⟩ := h
  cases rx
  cases ry
  obtain ⟨z, its, n, r, hl, e⟩ := I.lstM hH
  obtain ⟨z2, its2, n2, r2, hl2, e2⟩ := I.lstM hB
  refine PySem.P.add_list e e2 ?_ (by rw [List.size_toArray, List.size_toArray]; (clear z z2; omega))
  have ea : its.toArray ++ its2.toArray = (its ++ its2).toArray := by simp
  rw [ea]
  exact ⟨.ref _, _, I.lnew (t' := s.toks) (r.append r2) (by rw [List.length_append]; (with_reducible assumption)), rfl, q _ I.fresh⟩
noncomputable def rRep : R2 := fun x y H Q => ∃ l k xs, x = .ref l ∧ y = .int k ∧ H l = some (.lst xs) ∧ -(2 ^ 63) ≤ k ∧ k < 2 ^ 63 ∧ xs.length * k.toNat ≤ sizeLine ∧
  ∀ p, H p = none → Q (.ref p) (upd H p (.lst (List.replicate k.toNat xs).flatten))
theorem len_rep {α : Type} (xs : List α) (k : Nat) : (List.replicate k xs).flatten.length = k * xs.length := by
  induction k with
  | zero => simp
  | succ k ih => rw [List.replicate_succ, List.flatten_cons, List.length_append, ih, Nat.succ_mul, Nat.add_comm]
theorem op_rep : OpR X (binaryOp .Mult) rRep := by
  intro pins s σ H x y v u Q I rx ry h
  obtain ⟨l, k, xs, rfl, rfl, hH, h1, h2, hz, q⟩ := h
  cases rx
  obtain ⟨t, rfl⟩ := ry
  obtain ⟨z, its, n, r, hl, e⟩ := I.lstM hH
  have hlen : its.toArray.size * k.toNat ≤ sizeLine := by rw [List.size_toArray, ← hl]; exact hz
  have hcap : ¬ its.toArray.size * k.toNat > (2 ^ 63 - 1) / 8 := by
    have : (sizeLine : Nat) ≤ (2 ^ 63 - 1) / 8 := by decide
    (clear h1 h2 hl hz z; omega)
  have hfit : ¬ (!Builtin.List.listFitsIndex k) = true := by
    rw [fitsIndex_both h1 h2]
    exact Bool.false_ne_true
  have hlong : ¬ Builtin.List.listTooLong (its.toArray.size * k.toNat) = true := by
    rw [notLongL hlen]
    exact Bool.false_ne_true
  have hnew : List.foldl (fun x1 x2 => x1 ++ x2) #[] (List.replicate (if its.toArray.isEmpty = true then 0 else k.toNat) its.toArray) = (List.replicate k.toNat its).flatten.toArray := by
    have f0 : ∀ m : Nat, List.foldl (fun x1 x2 => x1 ++ x2) #[] (List.replicate m its.toArray) = (List.replicate m its).flatten.toArray := fun m => by
      have := foldl_rep its m []
      rw [List.nil_append] at this
      exact this
    rw [f0]
    cases its with
    | nil => simp
    | cons a r' => rw [if_neg (by simp)]
  refine wpAny_binaryOp_repeat_ref (T := "list") (U := "int") (by decide) ⟨_, e, rfl⟩ (fun s' => typeIs_int s' k t) noFill_list_mul F.fills_int_mul F.slot_int_rmul repeat_list F.slot_int_index.lookup
    (call_meets F.slot_int_rmul (typeIs_int s k t) F.entry_int_rmul (F.args_int_rmul_2 _ _) (int___rmul___int_list k t l its.toArray n)
      ⟨e, rfl, ⟨_, e, rfl⟩, call_meets F.slot_list_mul ⟨_, e, rfl⟩ F.entry_list_mul (F.args_list_mul_2 _ _) (AutoListH.list___mul___list_int_3 l its.toArray n k t hfit hcap hlong) ⟨e, ?_⟩⟩)
  rw [hnew]
  exact ⟨.ref _, _, I.lnew (t' := s.toks) (r.rep k.toNat) (by rw [len_rep, Nat.mul_comm]; exact hz), rfl, q _ I.fresh⟩
end
section
variable {prog : Program} {w : World} {A : Around} {E : Value → Shared → Prop} {s : Shared}
end
section
variable {X : Cx}
end
end L2
namespace Att
open PySem PySem.W PySem.Calls PyProof.Rows
theorem ints_of_wellAll {P : Params} {h : Heap} : ∀ (ns : List Int) (vs : List Value), WellAll P h vs (ns.map WData.int) → IntsAre vs ns := by
  intro ns
  induction ns with
  | nil =>
    intro vs w
    rw [List.map_nil] at w
    cases w
    exact .nil
  | cons n ns ih =>
    intro vs w
    rw [List.map_cons] at w
    cases w with
    | cons a b =>
      cases a
      exact .cons _ _ (ih _ b)
theorem script_of {l : OpenLaw} {n : Nat} (hn : l.most = some n) {P : Params} {h : Heap} {args : List WData} {vals : List Value}
    (hpre : l.row.toRowW.claim.pre args = true) (hwl : WellAll P h vals args) :
    ∃ a vs ns, vals = [Value.ref a] ∧ args = [WData.list (ns.map WData.int)] ∧ h.get? a = some { cls := .type "list", data := .seq vs.toArray } ∧ IntsAre vs ns ∧ ns.length ≤ n := by
  have hsh : WShape.hasAll [] args [.list .int] = true := (pre_splitW hpre).1
  have hc : l.pre.holds [] { args := args } = true := (pre_splitW hpre).2
  obtain ⟨d, r, rfl, h1, h2⟩ := hasAllW_cons hsh
  obtain rfl := hasAllW_nil h2
  obtain ⟨xs, rfl, h3⟩ := hasW_list h1
  obtain ⟨ns, rfl⟩ := items_int h3
  have hlen : ns.length ≤ n := by
    unfold OpenLaw.pre at hc
    have h4 : (WTm.not (.lt (.lit (.int (n : Int))) (.len (.arg 0)))).holds [] { args := [.list (ns.map .int)] } = true := by
      have h4 := (holds_andW hc).1
      rw [hn] at h4
      exact h4
    have h5 := condW_of h4 (w_not (w_lt w_lit (w_len_list (w_arg rfl))))
    rw [List.length_map] at h5
    refine Nat.le_of_not_lt fun q => ?_
    have q' : (n : Int) < ((ns.length : Nat) : Int) := by (exact Int.ofNat_lt.mpr (by with_reducible assumption))
    first
      | (rw [decide_eq_true q'] at h5; exact absurd h5 (by decide))
      | (simp at h5; omega)
  cases hwl with
  | cons w1 w2 =>
    cases w2
    cases w1 with
    | list ho hall => exact ⟨_, _, ns, rfl, rfl, ho, ints_of_wellAll ns _ hall, hlen⟩
theorem post_true (l : OpenLaw) (args : List WData) : l.row.toRowW.claim.post args (.bool true) args = true :=
  postW_of (r := l.row.toRowW) (X := (true == true))
    (show WShape.has [] (.bool true) .bool = true by first | rfl | decide | simp [WShape.has, WShape.arms, WShape.armsAll])
    (show (WTm.eq .res (.lit (.bool true))).value [] { args := args, res := some (.bool true), after := args } = some (.bool (true == true)) from w_eq_bool (w_res rfl) w_lit) rfl
section
variable {prog : Program} {w : World} {A : Around} {E : Value → Shared → Prop} {s : Shared} {K : Frag}
end
end Att
namespace L2
open PySem PySem.Spec PyProof.Rows
theorem vals_ints : ∀ {vs : List Value} {ns : List Int}, IntsAre vs ns → Vals (ns.map V.int) vs
  | _, _, .nil => .nil
  | _, _, .cons n t h => .cons ⟨t, rfl⟩ (vals_ints h)
noncomputable def Only (H : Hp) : Prop := ∀ b, H b = none ∨ ∃ o xs, H b = some (.frz o (.lst xs))
theorem law_call {P : Program} {w : World} {K : PySem.W.Frag} {mg mb : Str → Option Value} {CX : CXT} {k : Nat} {fa a : Addr} {fd : FuncData} {x : Str} {sp : Sp} {s₁ : Shared} {vs : List Value} {ns : List Int}
    (KX : K.In s₁.heap) (hns : s₁.heap.Ns mainGlobals mg) (hb : s₁.heap.Ns builtinsNs mb) (hbb : ∀ x : Str, x ≠ "__name__" → mb x = bootBuiltins x) (hlim : s₁.heap.NoLimit) (hg : s₁.gens = #[])
    (ha : s₁.heap.get? a = some { cls := .type "list", data := .seq vs.toArray }) (hi : IntsAre vs ns) (hl : ns.length ≤ sizeLine) (hr : Room k callerA)
    (F : ∀ base : Heap, K.In base → base.Ns mainGlobals mg → FnOk P w K mg base CX k fa fd [x] sp) (hbind : ∀ (s : Shared) (u : Value), BindsTo s fd ⟨[u], []⟩ [(x, u)])
    (hsp : ∀ H : Hp, Only H → SqL K H a (ns.map V.int) → sp [.ref a] H (fun v _ => v = .bl true) fun _ _ _ => False)
    (hCX : ∀ H e s', CX [] H s₁ (fun _ _ _ => False) e s' → False) :
    codeAny (model P w) callerA (.call (.ref fa) ⟨[.ref a], []⟩) (fun r s' => r = .ok (.ret (.bool true)) ∧ OldK s₁.heap s'.heap ∧ s'.os = s₁.os ∧ AllBare s'.gens) s₁ := by
  have rv := vals_ints hi
  have lenV := hi.length
  -- from an abstract heap in which nothing but the script may be tracked
  have core : ∀ H : Hp, Only H → SqL K H a (ns.map V.int) → HOk P w H s₁.heap → (∀ b, H b ≠ none → b = a) → (H a ≠ none → K.lookup a = none) →
      codeAny (model P w) callerA (.call (.ref fa) ⟨[.ref a], []⟩) (fun r s' => r = .ok (.ret (.bool true)) ∧ OldK s₁.heap s'.heap ∧ s'.os = s₁.os ∧ AllBare s'.gens) s₁ := by
    intro H hO hS hok hA hK
    have base_of : ∀ {b : Addr} {o : Obj}, s₁.heap.get? b = some o → H b = none → (hidT s₁.heap H).get? b = some o := fun e n => hidT_get e n
    have noA : ∀ {b : Addr} {o : Obj} {es : Array DictEntry} {ep : Nat}, s₁.heap.get? b = some o → o.data = .dict es ep → H b = none := fun {b o es ep} e d => by
      cases q : H b with
      | none => rfl
      | some u =>
        have e' : b = a := hA b (by rw [q]; simp)
        subst e'
        rw [ha] at e; cases e
        have d' : Data.seq vs.toArray _ = Data.dict es ep := d
        cases d'
    have nsK : ∀ {b : Addr} {m : Str → Option Value}, s₁.heap.Ns b m → (hidT s₁.heap H).Ns b m := fun {b m} ⟨o, es, ep, e, d, r⟩ => ⟨o, es, ep, base_of e (noA e d), d, r⟩
    have hKb : K.In (hidT s₁.heap H) := fun b o e => base_of (KX b o e) (by
      cases q : H b with
      | none => rfl
      | some u =>
        have e' : b = a := hA b (by rw [q]; simp)
        subst e'
        rw [hK (by rw [q]; simp)] at e; cases e)
    have hM : Mod K mg (hidT s₁.heap H) := ⟨hKb, nsK hns, ⟨mb, nsK hb, hbb⟩, let ⟨mc, h1, h2⟩ := hlim; ⟨mc, nsK h1, h2⟩⟩
    have e0 : Env0 P w K mg (hidT s₁.heap H) callerA [] s₁ H := ⟨rfl, hM, fun b o e => of_hidT e, Nat.le_of_eq (hidT_size _ _), trivial, fun b hb => absurd (show b ∈ ([] : List Addr) from hb) (by simp), hok, .of_eq hg⟩
    refine codeAny_mono ((F _ hKb (nsK hns)).run callerA [] s₁ H ⟨[.ref a], []⟩ [.ref a] [.ref a] _ _ hr e0 (hbind s₁ (.ref a)) (.cons rfl .nil) (hsp H hO hS)) fun r s' h => ?_
    cases r with
    | error e => exact (hCX H e s' h).elim
    | ok fl =>
      cases fl with
      | next => exact False.elim h
      | brk => exact False.elim h
      | cont => exact False.elim h
      | ret u =>
        obtain ⟨v, H', os, bare, un, hok', r', q⟩ := h
        have q' : v = .bl true := q
        subst q'
        obtain rfl : u = Value.bool true := r'
        refine ⟨rfl, OldK.of_keep fun b o e => ?_, os, bare⟩
        cases q : H b with
        | none => exact un.keep b o e q (by intro z; exact absurd (show b ∈ ([] : List Addr) from z) (by simp)) (by simp)
        | some u =>
          rcases hO b with z | ⟨ob, xs, z⟩
          · rw [q] at z; cases z
          · have z2 := un.frzs b ob _ z
            obtain ⟨e1, _⟩ := hok b _ z
            obtain ⟨e2, _⟩ := hok' b _ z2
            rw [e] at e1; cases e1
            exact e2
  cases hk : K.lookup a with
  | some o =>
    -- the script is one of the module's own objects
    have e := KX a o hk
    rw [ha] at e
    cases e
    refine core (fun _ => none) (fun _ => .inl rfl) (.inr ⟨_, vs.toArray, _, hk, rfl, rfl, rfl, by rw [List.size_toArray, lenV]; exact hl, by simpa using rv⟩) (fun b u z => by have z' : (none : Option HO) = some u := z; cases z') (fun b z => absurd rfl z) fun z => absurd rfl z
  | none =>
    refine core (fun b => if b = a then some (.frz { cls := .type "list", data := .seq vs.toArray } (.lst (ns.map V.int))) else none) (fun b => ?_) (.inl (.inr ⟨{ cls := .type "list", data := .seq vs.toArray }, if_pos rfl⟩)) (fun b u z => ?_) (fun b z => ?_) fun _ => hk
    · by_cases hb : b = a
      · exact .inr ⟨_, _, if_pos hb⟩
      · exact .inl (if_neg hb)
    · by_cases hb : b = a
      · have z' := (if_pos hb).symm.trans z
        cases z'
        subst hb
        exact ⟨ha, by rw [List.length_map]; exact hl, vs, _, rv, ha⟩
      · have z' := (if_neg hb).symm.trans z
        cases z'
    · by_cases hb : b = a
      · exact hb
      · exact absurd (if_neg hb) z
end L2
namespace L2
open PySem PySem.Spec PyProof.Rows
noncomputable abbrev KOf {K : PySem.W.Frag} {h : Heap} (_ : K.In h) : PySem.W.Frag := K
end L2
/- THE LAST THEOREM (shape; LID, My.* are yours):
   My.Adr: a structure of the addresses that your layer names (classes, functions); My.Txt K t: a structure (Prop) of the equations over K;
   My.txt_mk : {K} {implicit addresses ..} (e1 : nsIn K mainGlobals "law" = some (some (.ref f))) (e2 : K.lookup f = some ⟨oc, od, .func (fnOf "law" "law" params body scope dV kV doc pm an cdv ct), sl⟩) (e3 : codeIn K cdv "law" = true) .. : ∃ t, My.Txt K t
set_option maxRecDepth 100000 in
set_option maxHeartbeats 0 in
theorem PySem.Challenge.cw_LID_holds : PySem.Challenge.rw_LID.Holds := by
  w_on; o_law; k_head; (case hw => w_witness2)
  k_fill
  refine L2.walk_of (l := PySem.Challenge.rw_LID) (n := 63) (k := 40) (x := "script") (CX := fun w => ..) (sp := fun _ => My.sp_law) rfl (by decide) rfl ⟨rfl, by decide, by decide⟩ (fun w h Y => PySem.W.kIn_of Y) ?F ?S ?C
  case F =>
    intro w mg fa h KX G hmg
    have T : ∃ t, My.Txt (L2.KOf KX) t := by
      dsimp only [L2.KOf]                          -- K must stand as «<heap const> w.params» for k_is
      refine' My.txt_mk ?e1 ?e2 ?e3 ..
      (case e1 => PySem.W.k_is)                    -- in the order: a name -> its address -> its object -> its parts
      (case e2 => PySem.W.k_is)
      ..
    obtain ⟨t, T⟩ := T
    have e0 := hmg.symm.trans (PySem.W.mg_of KX G T.law)
    cases e0                                       -- fa is the law's own address
    exact ⟨_, fun s u => .of_eq rfl, fun base kb nb => My.law_fn T kb nb⟩     -- if «.of_eq rfl» comes too early: refine' ⟨_, ?b, fun base kb nb => My.law_fn T kb nb⟩; exact fun s u => .of_eq rfl
  case S => exact fun w H a ns hl hO hS => ..
  case C => exact ..
(the tactic k_is has no namespace: write k_is) -/
namespace L2
open PySem PySem.Spec PyProof.Rows
noncomputable def defArgs (s : Stmt) : Arguments := match s with
  | .FunctionDef _ a _ _ _ _ _ _ _ _ => a
  | _ => { posonlyargs := [], args := [], vararg := none, kwonlyargs := [], kw_defaults := [], kwarg := none, defaults := [] }
noncomputable def defBody (s : Stmt) : List Stmt := match s with
  | .FunctionDef _ _ b _ _ _ _ _ _ _ => b
  | _ => []
noncomputable def defScope (s : Stmt) : Scope := match s with
  | .FunctionDef _ _ _ _ _ _ sc _ _ _ => sc
  | _ => { kind := .function, names := [], isGenerator := false, isCoroutine := false }
noncomputable abbrev CX0 : CXT := fun _ _ _ _ _ _ => False
noncomputable abbrev E0 : XK := fun _ _ _ => False
theorem pass0 {X : Cx} : Passes CX0 X E0 := fun _ _ _ _ _ _ _ h => h.elim
structure Fun (K : PySem.W.Frag) (x qual : Str) (st : Stmt) (f : Addr) (fd : FuncData) : Prop where
  ex : ∃ (oc : Value) (od : Option Addr) (kV doc pm : Value) (an : Option Addr) (cdv ct : Value) (osl : Array (Option Value)),
    fd = PySem.W.fnOf x qual (defArgs st) (defBody st) (defScope st) .none kV doc pm an cdv ct ∧ K.lookup f = some ⟨oc, od, .func fd, osl⟩ ∧ PySem.W.codeIn K cdv qual = true
  kp : PySem.W.keepIn K (.ref f) = true
section
variable {P : Program} {w : World} {K : PySem.W.Frag} {mg : Str → Option Value} {base : Heap}
theorem Fun.ok {x qual : Str} {st : Stmt} {f : Addr} {fd : FuncData} {N ps : List Str} {k : Nat} {sp : Sp} (F : Fun K x qual st f fd) (S : FnScope N ps (defScope st)) (len : ∀ vs H Q E, sp vs H Q E → vs.length = ps.length)
    (hbody : ∀ (cdv : Value) (A : Around) (outer : List Env) (s : Shared) (H : Hp) (vs : List V) (Q : VK) (E : XK), Room k (A.deeper (envOfC qual (defScope st) s.heap.objs.size f cdv)) → sp vs H Q E →
      ∃ t, PSs (cxOf CX0 P w K mg base N qual (defScope st) f cdv A outer s H E).nox (defBody st) t ∧ t { nx := fun _ H' => Q .non H', rt := Q } (start N vs) H) : FnOk P w K mg base CX0 (k + 1) f fd ps sp := by
  obtain ⟨oc, od, kV, doc, pm, an, cdv, ct, osl, rfl, lk, hcd⟩ := F.ex
  refine fn_of lk hcd S len fun A outer s H vs Q E hr hsp => ?_
  obtain ⟨t, h, q⟩ := hbody cdv A outer s H vs Q E hr hsp
  exact ⟨t, h.nox, q⟩
theorem Fun.binds {x qual : Str} {st : Stmt} {f : Addr} {fd : FuncData} {ps : List Str} (F : Fun K x qual st f fd)
    (h : ∀ (kV doc pm : Value) (an : Option Addr) (cdv ct : Value) (us : List Value), us.length = ps.length → bindArgs (PySem.W.fnOf x qual (defArgs st) (defBody st) (defScope st) .none kV doc pm an cdv ct) ⟨us, []⟩ = pure (ps.zip us)) : Binds K fd ps [] := by
  obtain ⟨oc, od, kV, doc, pm, an, cdv, ct, osl, rfl, lk, hcd⟩ := F.ex
  exact .all (h kV doc pm an cdv ct)
theorem fun_mk {x qual : Str} {st : Stmt} {f : Addr} {oc : Value} {od an : Option Addr} {osl : Array (Option Value)} {kV doc pm cdv ct : Value} (l : K.lookup f = some ⟨oc, od, .func (PySem.W.fnOf x qual (defArgs st) (defBody st) (defScope st) .none kV doc pm an cdv ct), osl⟩)
    (c : PySem.W.codeIn K cdv qual = true) (k : PySem.W.keepIn K (.ref f) = true) : Fun K x qual st f (PySem.W.fnOf x qual (defArgs st) (defBody st) (defScope st) .none kV doc pm an cdv ct) := ⟨⟨oc, od, kV, doc, pm, an, cdv, ct, osl, rfl, l, c⟩, k⟩
end
section
variable {X : Cx}
theorem pv (i : Nat) {x : Str} {pos : Pos} (hN : autoParam (X.N[i]? = some x) L2.aRfl._auto_1) (hv : Vis X.env.scope x := by first | exact Or.inl rfl | exact Or.inr (Or.inl rfl) | exact Or.inr (Or.inr rfl)) (hd : autoParam ((x == ("__debug__" : Str)) = false) L2.aDec._auto_1)
    (hcd : autoParam ((x == ("__classdict__" : Str)) = false) L2.aDec._auto_1) : PE X (.Name x pos) (tVar i) := pe_var hN hv hd hcd
end
theorem iteF {A B : Prop} (h : B) : if false = true then A else B := by
  rw [if_neg Bool.false_ne_true]
  exact h
theorem iteT {A B : Prop} (h : A) : if true = true then A else B := by
  rw [if_pos rfl]
  exact h
theorem ite2 {c A B : Prop} [Decidable c] (h1 : c → A) (h2 : ¬ c → B) : if c then A else B := by
  by_cases h : c
  · rw [if_pos h]
    exact h1 h
  · rw [if_neg h]
    exact h2 h
noncomputable def Same (H H' : Hp) : Prop := ∀ b o, H b = some o → H' b = some o
theorem Same.refl (H : Hp) : Same H H := fun _ _ h => h
theorem Same.trans {H H1 H2 : Hp} (a : Same H H1) (b : Same H1 H2) : Same H H2 := fun c o h => b c o (a c o h)
theorem Same.seq {K : PySem.W.Frag} {H H' : Hp} {a : Addr} {xs : List V} (e : Same H H') (h : SqL K H a xs) : SqL K H' a xs := by
  rcases h with (h | ⟨o, h⟩) | h
  · exact .inl (.inl (e _ _ h))
  · exact .inl (.inr ⟨o, e _ _ h⟩)
  · exact .inr h
end L2
namespace L2
open PySem PySem.Spec PyProof.Rows
theorem compLoop_any {prog : Program} {w : World} {A : Around} {R : Result → Shared → Prop} {s : Shared} {elt target iter : Expr} {ifs : List Expr} {scope : Scope} {pos : Pos} {it acc : Value} {env : Env} (I : Nat → Shared → Prop)
    (turn : ∀ n s, I n s → wpAny (model prog w) A (pyNext it) (fun r s1 => match r with
      | none => R (.ok .next) s1
      | some v => wpAny (model prog w) A (letOwnedTupleGo target it v) (fun _ s1' => wpAny (model prog w) A (assign target env v) (fun _ s2 =>
          wpAny (model prog w) A (forIn ifs true fun c r => if r = true then do let ok ← isTrue c env (eval c env); pure (ForInStep.yield ok) else pure (ForInStep.yield r)) (fun ok s3 =>
            if ok = true then wpAny (model prog w) A (eval elt env) (fun x s4 =>
              wpAny (model prog w) A (call (.builtin "list.append") [acc, x]) (fun _ s5 => ∃ m, m < n ∧ I m s5) (fun _ _ => False) s4) (fun _ _ => False) s3
            else ∃ m, m < n ∧ I m s3) (fun _ _ => False) s2) (fun _ _ => False) s1') (fun _ _ => False) s1) (fun _ _ => False) s)
    (n : Nat) (h : I n s) :
    codeAny (model prog w) A (.compLoop (.ListComp elt [⟨target, iter, ifs, 0⟩] scope pos) 0 it acc env) R s := by
  refine codeAny_loop rfl I (fun n s hI => ?_) n h
  show wpAny _ A ((compTurn (.ListComp elt [⟨target, iter, ifs, 0⟩] scope pos) 0 it acc env).onRaise (fun x => do noteFrame x env; theTreesLotGoes x)) _ _ s
  refine wpAny_noted ?_
  rw [compTurn_list]
  refine wpAny_bind (wpAny_standAt (wpAny_bind (wpAny_mono (turn n s hI) (fun r s1 h1 => ?_) fun _ _ h' => h'.elim)))
  cases r with
  | none => exact wpAny_pure h1
  | some v =>
    refine wpAny_bind (wpAny_mono h1 (fun _ s1' h1' => ?_) fun _ _ h' => h'.elim)
    refine wpAny_bind (wpAny_mono h1' (fun _ s2 h2 => wpAny_bind (wpAny_mono h2 (fun ok s3 h3 => ?_) fun _ _ h' => h'.elim)) fun _ _ h' => h'.elim)
    cases ok with
    | false => exact wpAny_pure ⟨rfl, h3⟩
    | true =>
      exact wpAny_bind (wpAny_bind (wpAny_mono h3 (fun x s4 h4 => wpAny_bind (wpAny_mono h4 (fun _ s5 h5 => wpAny_pure (wpAny_pure ⟨rfl, h5⟩)) fun _ _ h' => h'.elim)) fun _ _ h' => h'.elim))
noncomputable def freeOk (sc : Scope) : List (Str × NameKind) → Bool
  | [] => true
  | (n, k) :: r => (k != .free || sc.names.lookup n == some .cell || sc.names.lookup n == some .free) && freeOk sc r
noncomputable def cellsIn (env : Env) : List (Str × NameKind) → List (Str × Addr) → List (Str × Addr)
  | [], cs => cs
  | (n, k) :: r, cs => cellsIn env r (if k = .free then (n, (env.cells.lookup n).getD 0) :: cs else cs)
theorem cellsIn_sub {env : Env} : ∀ (l : List (Str × NameKind)) (cs : List (Str × Addr)), (∀ n, (n, NameKind.free) ∈ l → ∃ c, env.cells.lookup n = some c) → (∀ x c, cs.lookup x = some c → env.cells.lookup x = some c) →
    ∀ x c, (cellsIn env l cs).lookup x = some c → env.cells.lookup x = some c
  | [], cs, _, h => h
  | (n, k) :: r, cs, hl, h => by
    refine cellsIn_sub r _ (fun m hm => hl m (List.mem_cons_of_mem _ hm)) fun x c e => ?_
    by_cases hk : k = .free
    · rw [if_pos hk] at e
      subst hk
      obtain ⟨c', hc⟩ := hl n List.mem_cons_self
      rw [List.lookup_cons] at e
      cases hx : x == n with
      | true =>
        rw [hx] at e
        have : x = n := by simpa using hx
        subst this
        rw [hc] at e
        simp at e
        rw [hc, e]
      | false => rw [hx] at e; exact h x c e
    · rw [if_neg hk] at e
      exact h x c e
theorem cellsIn_has {env : Env} : ∀ (l : List (Str × NameKind)) (cs : List (Str × Addr)) (x : Str), ((cs.lookup x).isSome = true ∨ (x, NameKind.free) ∈ l) → ((cellsIn env l cs).lookup x).isSome = true
  | [], cs, x, h => by
    rcases h with h | h
    · exact h
    · exact nomatch h
  | (n, k) :: r, cs, x, h => by
    refine cellsIn_has r _ x ?_
    rcases h with h | h
    · left
      split
      · rw [List.lookup_cons]
        split
        · rfl
        · exact h
      · exact h
    · rcases List.mem_cons.mp h with e | e
      · cases e
        left
        rw [if_pos rfl, List.lookup_cons]
        simp
      · exact .inr e
theorem closureFor_cells {scope : Scope} {env : Env} (h : ∀ n, (n, NameKind.free) ∈ scope.names → ∃ c, env.cells.lookup n = some c) : closureFor scope env = pure (cellsIn env scope.names []) := by
  unfold closureFor
  suffices ∀ (l : List (Str × NameKind)) (cs : List (Str × Addr)), (∀ n, (n, NameKind.free) ∈ l → ∃ c, env.cells.lookup n = some c) → (forIn l cs fun x r =>
      if (x.2 == NameKind.free) = true then do let a ← cellOf env x.1; pure (ForInStep.yield ((x.1, a) :: r)) else pure (ForInStep.yield r) : Sem _) = pure (cellsIn env l cs) by
    have := this scope.names [] h
    simp only at this ⊢
    rw [this]
    rfl
  intro l
  induction l with
  | nil => intro cs _; rfl
  | cons p r ih =>
    intro cs hl
    obtain ⟨n, k⟩ := p
    rw [List.forIn_cons]
    by_cases hk : k = .free
    · subst hk
      obtain ⟨c, hc⟩ := hl n List.mem_cons_self
      have e : cellOf env n = pure c := by unfold cellOf; rw [hc]
      have hb : (NameKind.free == NameKind.free) = true := rfl
      simp only [hb, if_true, e, cellsIn, hc, Option.getD_some]
      exact ih _ fun m hm => hl m (List.mem_cons_of_mem _ hm)
    · have hb : (k == NameKind.free) = false := by simpa using hk
      simp only [hb, Bool.false_eq_true, if_false, cellsIn, if_neg hk]
      exact ih _ fun m hm => hl m (List.mem_cons_of_mem _ hm)
theorem freeOk_mem {sc : Scope} : ∀ {l : List (Str × NameKind)}, freeOk sc l = true → ∀ n, (n, NameKind.free) ∈ l → sc.names.lookup n = some .cell ∨ sc.names.lookup n = some .free
  | [], _, n, h => nomatch h
  | (m, k) :: r, h, n, hm => by
    simp only [freeOk, Bool.and_eq_true] at h
    rcases List.mem_cons.mp hm with e | e
    · cases e
      have h1 := h.1
      have hb : (NameKind.free != NameKind.free) = false := rfl
      rw [hb] at h1
      simp only [Bool.false_or, Bool.or_eq_true, beq_iff_eq] at h1
      exact h1
    · exact freeOk_mem h.2 n e
theorem relabel_lookup {env : Env} : ∀ {names : List (Str × NameKind)} {x : Str} {k : NameKind}, (names.map fun (n, k) => if (k == NameKind.free && env.scope.kind == .function && env.kindOf n == some .cell) then (n, NameKind.cell) else (n, k)).lookup x = some k →
    ∃ k0, names.lookup x = some k0 ∧ (k = k0 ∨ (k = .cell ∧ k0 = .free))
  | [], _, _, h => by simp at h
  | (n, k0) :: r, x, k, h => by
    rw [List.map_cons] at h
    by_cases hc : (k0 == NameKind.free && env.scope.kind == .function && env.kindOf n == some .cell) = true
    · simp only [hc, if_true, List.lookup_cons] at h
      rw [List.lookup_cons]
      cases hx : x == n with
      | true =>
        rw [hx] at h
        refine ⟨k0, rfl, .inr ⟨(Option.some.inj h).symm, ?_⟩⟩
        simp only [Bool.and_eq_true, beq_iff_eq] at hc
        exact hc.1.1
      | false => rw [hx] at h; exact relabel_lookup h
    · simp only [hc, Bool.false_eq_true, if_false, List.lookup_cons] at h
      rw [List.lookup_cons]
      cases hx : x == n with
      | true => rw [hx] at h; exact ⟨k0, rfl, .inl (Option.some.inj h).symm⟩
      | false => rw [hx] at h; exact relabel_lookup h
theorem lookup_mem {α : Type} : ∀ {l : List (Str × α)} {x : Str} {k : α}, l.lookup x = some k → (x, k) ∈ l
  | [], _, _, h => by simp at h
  | (n, k0) :: r, x, k, h => by
    rw [List.lookup_cons] at h
    cases hx : x == n with
    | true =>
      rw [hx] at h
      have e1 : x = n := by simpa using hx
      have e2 : k0 = k := Option.some.inj h
      subst e1 e2
      exact List.mem_cons_self
    | false => rw [hx] at h; exact List.mem_cons_of_mem _ (lookup_mem h)
theorem HOk.but {P : Program} {w : World} {H : Hp} {h h' : Heap} {a : Addr} (x : HOk P w H h) (hn : H a = none) (hs : Heap.SameBut a h h') : HOk P w H h' := fun b ob e => by
  refine (x b ob e).stay (fun c w' hc q => (hs.2 c ?_).trans q) (fun _ q => q) fun _ _ q => q
  rintro rfl
  rcases hc with rfl | hc
  · rw [hn] at e; cases e
  · rw [hn] at hc; cases hc
noncomputable def capSt (cp : List (Option Nat)) (σ : St) : St := cp.map fun (o : Option Nat) => match o with
  | none => none
  | some j => match σ[(j : Nat)]? with
    | some v => v
    | none => none
noncomputable def capOk (X : Cx) (scope : Scope) : List Str → List (Option Nat) → Bool
  | [], [] => true
  | x :: N, o :: cp => (match o with | none => true | some j => X.N[j]? == some x && scope.names.lookup x == some .free) && capOk X scope N cp
  | _, _ => false
theorem capOk_len {X : Cx} {scope : Scope} : ∀ {N : List Str} {cp : List (Option Nat)}, capOk X scope N cp = true → cp.length = N.length
  | [], [], _ => rfl
  | _ :: N, _ :: cp, h => by
    simp only [capOk, Bool.and_eq_true] at h
    simp [capOk_len h.2]
  | [], _ :: _, h => by simp [capOk] at h
  | _ :: _, [], h => by simp [capOk] at h
theorem capOk_get {X : Cx} {scope : Scope} : ∀ {N : List Str} {cp : List (Option Nat)} {i : Nat} {x : Str} {v : V} {σ : St}, capOk X scope N cp = true → N[i]? = some x → (capSt cp σ)[i]? = some (some v) →
    ∃ j : Nat, X.N[j]? = some x ∧ σ[j]? = some (some v) ∧ scope.names.lookup x = some .free
  | [], [], i, x, v, σ, _, h, _ => by simp at h
  | y :: N, o :: cp, 0, x, v, σ, h, e, e2 => by
    simp only [capOk, Bool.and_eq_true] at h
    have e' : y = x := by simpa using e
    subst e'
    cases o with
    | none => simp [capSt] at e2
    | some j =>
      have h1 := h.1
      simp only [Bool.and_eq_true, beq_iff_eq] at h1
      refine ⟨j, h1.1, ?_, h1.2⟩
      simp only [capSt, List.map_cons, List.getElem?_cons_zero, Option.some.injEq] at e2
      cases q : σ[j]? with
      | none => rw [q] at e2; cases e2
      | some z => rw [q] at e2; exact congrArg some e2
  | y :: N, o :: cp, i + 1, x, v, σ, h, e, e2 => by
    simp only [capOk, Bool.and_eq_true] at h
    exact capOk_get (i := i) h.2 (by simpa using e) (by simpa [capSt] using e2)
  | [], _ :: _, _, _, _, _, h, _, _ => by simp [capOk] at h
  | _ :: _, [], _, _, _, _, h, _, _ => by simp [capOk] at h
noncomputable def cxBlock (X : Cx) (N : List Str) (scope : Scope) (fp : List Addr) (H : Hp) (s : Shared) : Cx :=
  { X with N := N, s₀ := s, H₀ := H, env := compEnvC scope (cellsIn X.env scope.names []) s.heap.objs.size X.env, outer := X.stack, stack := X.stack, ex := fp, fn := fun _ => false, pn := [], xe := fun _ _ => False }
section
variable {X : Cx}
theorem noCell_mem {l : List (Str × NameKind)} (h : (l.all fun p => p.2 != .cell) = true) : ∀ y ∈ l, y.2 ≠ .cell := fun y hy => by
  have := List.all_eq_true.mp h y hy
  simpa using this
theorem cxBlock_ok {pins : List (Addr × Obj)} {σ : St} {H : Hp} {s : Shared} {N : List Str} {scope : Scope} {fp : List Addr} (I : Inv X pins σ H s) (hf : ∀ b ∈ fp, FpOk X pins H b) (hlt : ∀ b ∈ fp, b < s.heap.objs.size) (hk : scope.kind = .function)
    (hcell : (scope.names.all fun p => p.2 != .cell) = true) (hfree : freeOk X.env.scope scope.names = true) : (cxBlock X N scope fp H s).Ok := by
  have has : ∀ n, (n, NameKind.free) ∈ scope.names → ∃ c, X.env.cells.lookup n = some c := fun n hn => I.ok.has n (freeOk_mem hfree n hn)
  have sub : ∀ x c, (cellsIn X.env scope.names []).lookup x = some c → X.env.cells.lookup x = some c := cellsIn_sub _ _ has fun x c e => by simp at e
  have fs : ∀ b ∈ fp, b ∉ frs X.stack := fun b hb z => by
    obtain ⟨_, f1, f2, _⟩ := hf b hb
    rcases List.mem_cons.mp (I.stkSub b z) with e | e
    · exact f1 e
    · exact f2 e
  refine ⟨I.ok.mod, hk, I.ok.glob, I.ok.blt, Nat.le_refl _, fun x y c h1 h2 => I.ok.inj x y c (sub x c h1) (sub y c h2), fun x hx => ?_, (fun x c h => nomatch h), I.ok.hd, I.ok.frames, .inl rfl, fun b hb => ⟨Nat.ne_of_lt (hlt b hb), fun x c e => (hf b hb).2.2.2.2.1 x c (sub x c e)⟩,
    I.bs, Nat.le_trans I.ok.bsz I.sz, fun b o e hb => ?_, fs, I.stack, I.stkFree⟩
  · have hx' : (scope.names.map fun (n, k) => if (k == NameKind.free && X.env.scope.kind == .function && X.env.kindOf n == some .cell) then (n, NameKind.cell) else (n, k)).lookup x = some .cell ∨
        (scope.names.map fun (n, k) => if (k == NameKind.free && X.env.scope.kind == .function && X.env.kindOf n == some .cell) then (n, NameKind.cell) else (n, k)).lookup x = some .free := hx
    have fr : (x, NameKind.free) ∈ scope.names := by
      rcases hx' with e | e
      · obtain ⟨k0, e0, z | z⟩ := relabel_lookup e
        · subst z
          exact absurd rfl (noCell_mem hcell _ (lookup_mem e0))
        · obtain ⟨_, z⟩ := z
          subst z
          exact lookup_mem e0
      · obtain ⟨k0, e0, z | z⟩ := relabel_lookup e
        · subst z
          exact lookup_mem e0
        · exact nomatch z.1
    exact Option.isSome_iff_exists.mp (cellsIn_has _ _ x (.inr fr))
  · obtain ⟨_, _, _, f3, _⟩ := hf b hb
    rcases f3 with z | z
    · exact I.ok.noex b o e z
    · exact absurd (Nat.lt_of_lt_of_le (Heap.lt_size (I.ok.bs b o e).1) z) (Nat.lt_irrefl _)
theorem block_inv {pins : List (Addr × Obj)} {σ : St} {H : Hp} {s : Shared} {N : List Str} {scope : Scope} {fp : List Addr} {cp : List (Option Nat)} {h' : Heap} {m : Str → Option Value} {t' : Nat} (I : Inv X pins σ H s) (hf : ∀ b ∈ fp, FpOk X pins H b) (hlt : ∀ b ∈ fp, b < s.heap.objs.size) (hk : scope.kind = .function)
    (hcell : (scope.names.all fun p => p.2 != .cell) = true) (hfree : freeOk X.env.scope scope.names = true) (hcap : capOk X scope N cp = true)
    (hns : h'.Ns s.heap.objs.size m) (hx : ∀ b o, s.heap.get? b = some o → h'.get? b = some o) : Inv (cxBlock X N scope fp H s) [] (capSt cp σ) H { s with heap := h', toks := t' } := by
  have has : ∀ n, (n, NameKind.free) ∈ scope.names → ∃ c, X.env.cells.lookup n = some c := fun n hn => I.ok.has n (freeOk_mem hfree n hn)
  have sub : ∀ x c, (cellsIn X.env scope.names []).lookup x = some c → X.env.cells.lookup x = some c := cellsIn_sub _ _ has fun x c e => by simp at e
  refine ⟨cxBlock_ok I hf hlt hk hcell hfree, rfl, I.bare, ⟨fun b o e n _ _ => hx b o e, fun b o e n _ _ => ⟨o.slots, hx b o e⟩, fun b o e n _ => n, fun b o e _ => ⟨o, hx b o e⟩, fun b xs e => e, fun b o xs e => e, fun b ps e => ⟨#[], by rw [Array.append_empty]; exact e⟩⟩, ⟨m, hns, fun i x v e1 e2 e3 => ?_⟩, fun x c e => ?_, I.hok.fresh (Nat.le_refl _), fun x c e => I.freeC x c (sub x c e), (fun p hp => nomatch hp), I.hok.kept hx, ?_⟩
  · obtain ⟨j, h1, h2, h3⟩ := capOk_get hcap e1 e2
    obtain ⟨m', _, hl⟩ := I.loc
    have hkx := freeOk_mem hfree x (lookup_mem h3)
    obtain ⟨u, r, l⟩ := hl j x v h1 h2 (.inr hkx)
    rcases l with ⟨l, _⟩ | ⟨_, c, hc, hcell'⟩
    · rcases hkx with z | z
      · exact nomatch (Option.some.inj (l.symm.trans z))
      · exact nomatch (Option.some.inj (l.symm.trans z))
    · obtain ⟨c', hc'⟩ := Option.isSome_iff_exists.mp (cellsIn_has (env := X.env) scope.names [] x (.inr (lookup_mem h3)))
      have ec := sub x c' hc'
      rw [hc] at ec
      cases ec
      refine ⟨u, r, .inr ⟨?_, c, hc', ?_⟩⟩
      · rcases e3 with z | z | z
        · obtain ⟨k0, e0, y | y⟩ := relabel_lookup (show (scope.names.map fun (n, k) => if (k == NameKind.free && X.env.scope.kind == .function && X.env.kindOf n == some .cell) then (n, NameKind.cell) else (n, k)).lookup x = some .local from z)
          · rw [h3] at e0; cases e0; cases y
          · exact nomatch y.1
        · exact .inl z
        · exact .inr z
      · obtain ⟨o, ho, hd⟩ := hcell'
        exact ⟨o, hx c o ho, hd⟩
  · obtain ⟨v, o, ho, hd⟩ := I.cell x c (sub x c e)
    exact ⟨v, o, hx c o ho, hd⟩
  · show (capSt cp σ).length = N.length
    unfold capSt
    rw [List.length_map]
    exact capOk_len hcap
theorem block_after {pins : List (Addr × Obj)} {σ σ' : St} {H H' : Hp} {s s' : Shared} {N : List Str} {scope : Scope} {fp : List Addr} {pins' : List (Addr × Obj)} (I : Inv X pins σ H s) (hf : ∀ b ∈ fp, FpOk X pins H b)
    (J : Inv (cxBlock X N scope fp H s) pins' σ' H' s') : Inv X pins σ H' s' :=
  I.call' (ch := fp) J.os J.base J.hok J.bare fun b hb => ⟨(hf b hb).2.2.2.1, (hf b hb).2.1, (hf b hb).2.2.2.2.1, (hf b hb).2.2.2.2.2⟩
noncomputable def PF (X : Cx) (ifs : List Expr) (t : TT) : Prop :=
  ∀ (pins : List (Addr × Obj)) (s : Shared) (σ : St) (H : Hp) (Q : Bool → Hp → Prop), Inv X pins σ H s → t σ H Q →
    wpAny (model X.prog X.w) X.A (forIn ifs true fun c r => if r = true then do let ok ← isTrue c X.env (eval c X.env); pure (ForInStep.yield ok) else pure (ForInStep.yield r)) (TP X pins σ Q) X.xe s
noncomputable def tYes : TT := fun _ H Q => Q true H
theorem pf_nil : PF X [] tYes := fun _ _ _ H _ I h => wpAny_tests_nil ⟨H, I, h⟩
theorem pf_one {c : Expr} {t : TT} (hc : PT X c t) : PF X [c] t := fun pins s σ H Q I h => wpAny_tests_one (hc pins s σ H Q I h)
noncomputable def LcW (J : It) (D : Addr) (τ0 : St) (H : Hp) (g : TG) (tt : TT) (te : TE) (Q : Addr → Hp → Prop) : Prop := ∃ W : Nat → Nat → St → List V → Hp → Prop, (∃ m, W 0 m τ0 [] (upd H D (.lst []))) ∧ ∀ i m τ ys H, W i m τ ys H →
  H D = some (.lst ys) ∧ ((J.stop i H ∧ Q D H) ∨ (J.go i H ∧ ys.length < sizeLine ∧ ∃ (N1 : St → V → Hp → Prop) (N2 : St → Hp → Prop), (∀ τ v H, N1 τ v H → ∃ m', m' < m ∧ W (i + 1) m' τ (ys ++ [v]) (upd H D (.lst (ys ++ [v])))) ∧ (∀ τ H, N2 τ H → ∃ m', m' < m ∧ W (i + 1) m' τ ys H) ∧
    ∀ x H', J.yld i H x H' → g x τ H' fun σ2 H2 => tt σ2 H2 fun ok H3 => if ok = true then te σ2 H3 fun v H4 => H4 D = some (.lst ys) ∧ N1 σ2 v H4 else N2 σ2 H3))
noncomputable def tLC (cp : List (Option Nat)) (wi : TI) (g : TG) (tt : TT) (te : TE) (σ : St) (H : Hp) (Q : Addr → Hp → Prop) : Prop := wi σ H fun J H1 => ∀ D, H1 D = none → LcW J D (capSt cp σ) H1 g tt te Q
theorem lc_block {elt iter target : Expr} {ifs : List Expr} {scope : Scope} {pos : Pos} {N : List Str} {cp : List (Option Nat)} {g : TG} {tt : TT} {te : TE} {pins : List (Addr × Obj)} {σ : St} {H : Hp} {s : Shared} {E : Value → Shared → Prop} {Q : Addr → Hp → Prop}
    {it : Addr} {fp : List Addr} {tn : Nat → Heap → Prop} {J : It} {RR : Value → Addr → Result → Shared → Prop} (hc : X.calm = true) (hk : scope.kind = .function) (hcell : (scope.names.all fun p => p.2 != .cell) = true) (hfree : freeOk X.env.scope scope.names = true) (hcap : capOk X scope N cp = true)
    (hg : ∀ fp H s, PG (cxBlock X N scope fp H s) target g) (ht : ∀ fp H s, PF (cxBlock X N scope fp H s) ifs tt) (he : ∀ fp H s, PE (cxBlock X N scope fp H s) elt te)
    (I : Inv X pins σ H s) (T : Turn X.prog X.w X.K target J fp it tn) (st : tn 0 s.heap) (hf : ∀ b ∈ fp, FpOk X pins H b)
    (h : ∀ D, H D = none → LcW J D (capSt cp σ) H g tt te Q)
    (hRR : ∀ D C s' H' m, Inv X pins σ H' s' → FpOk X pins H' C → s'.heap.Ns C m → Q D H' → RR (.ref D) C (.ok .next) s') :
    wpAny (model X.prog X.w) X.A (newList []) (fun acc s3 => wpAny (model X.prog X.w) X.A (newFunctionEnv scope X.env.globals (cellsIn X.env scope.names []) [] X.env.qual none .none (some X.env)) (fun cenv s4 =>
      codeAny (model X.prog X.w) X.A (.compStart (.ListComp elt [⟨target, iter, ifs, 0⟩] scope pos) 0 (.ref it) acc { cenv with scope := relabel scope X.env }) (RR acc cenv.locals) s4) E s3) E s := by
  have hlt : ∀ b ∈ fp, b < s.heap.objs.size := fun b hb => by
    obtain ⟨o, e, _⟩ := T.obj _ _ st b hb
    exact Heap.lt_size e
  refine wpAny_newObj_type (wpAny_newFunctionEnv (noCell_mem hcell) (by intro y hy; simp at hy) (fun h1 hns1 hsb1 => ?_) hk)
  dsimp only at hns1 hsb1 ⊢
  have hD : H s.heap.objs.size = none := I.hok.fresh (Nat.le_refl _)
  have I3 : Inv X pins σ (upd H s.heap.objs.size (.lst [])) { s with heap := s.heap.push { cls := .type "list", dict := none, data := .seq ([] : List Value).toArray } } :=
    I.laid (t' := s.toks) (fun b u e => Heap.get?_push_of_some _ e) (Nat.le_refl _) ⟨Nat.zero_le _, [], 0, .nil, Heap.get?_push_size _ rfl⟩
  have hf3 : ∀ b ∈ fp, FpOk X pins (upd H s.heap.objs.size (.lst [])) b := fun b hb => ⟨by rw [upd_ne (Nat.ne_of_lt (hlt b hb))]; exact (hf b hb).1, (hf b hb).2⟩
  have hlt3 : ∀ b ∈ fp, b < (s.heap.push { cls := .type "list", dict := none, data := .seq ([] : List Value).toArray }).objs.size := fun b hb => by rw [Heap.size_push]; exact Nat.lt_succ_of_lt (hlt b hb)
  generalize hH2 : s.heap.push { cls := .type "list", dict := none, data := .seq ([] : List Value).toArray } = H2 at hns1 hsb1 I3 hlt3 ⊢
  generalize hs3 : ({ s with heap := H2 } : Shared) = s3 at I3
  have hs3h : s3.heap = H2 := by rw [← hs3]
  have ext1 : ∀ b o, s3.heap.get? b = some o → h1.get? b = some o := fun b o e => by
    rw [hs3h] at e
    exact hsb1.extBut b o (Nat.ne_of_lt (Heap.lt_size e)) (Heap.get?_push_of_some _ e)
  have J0 : Inv (cxBlock X N scope fp (upd H s.heap.objs.size (.lst [])) s3) [] (capSt cp σ) (upd H s.heap.objs.size (.lst [])) { s3 with heap := h1, toks := s.toks + ([] : List (Str × Value)).length } :=
    block_inv I3 hf3 (by rw [hs3h]; exact hlt3) hk hcell hfree hcap (by rw [hs3h]; exact hns1) ext1
  have st1 : tn 0 h1 := T.keep _ _ _ st fun b hb o e => ext1 b o (by rw [hs3h, ← hH2]; exact Heap.get?_push_of_some _ e)
  obtain ⟨W, ⟨m0, w0⟩, turn⟩ := h s.heap.objs.size hD
  have stat : ∀ {H' : Hp}, (∀ b ∈ fp, H' b = none) → ∀ b ∈ fp, FpOk (cxBlock X N scope fp (upd H s.heap.objs.size (.lst [])) s3) [] H' b := fun {H'} hn b hb =>
    ⟨hn b hb, (J0.ok.exf b hb).1, J0.ok.exfs b hb, .inl hb, (J0.ok.exf b hb).2, fun p hp => nomatch hp⟩
  have loop : codeAny (model X.prog X.w) X.A (.compLoop (.ListComp elt [⟨target, iter, ifs, 0⟩] scope pos) 0 (.ref it) (.ref s.heap.objs.size) (compEnvC scope (cellsIn X.env scope.names []) H2.objs.size X.env))
      (RR (.ref s.heap.objs.size) H2.objs.size) { s3 with heap := h1, toks := s.toks + ([] : List (Str × Value)).length } := by
    have eEnv : compEnvC scope (cellsIn X.env scope.names []) H2.objs.size X.env = (cxBlock X N scope fp (upd H s.heap.objs.size (.lst [])) s3).env := by
      rw [← hs3h]; rfl
    rw [eEnv]
    refine compLoop_any (fun n s' => ∃ i τ ys H', Inv (cxBlock X N scope fp (upd H s.heap.objs.size (.lst [])) s3) [] τ H' s' ∧ tn i s'.heap ∧ (∀ b ∈ fp, H' b = none) ∧ W i n τ ys H') ?_ m0 ⟨0, capSt cp σ, [], _, J0, st1, fun b hb => (hf3 b hb).1, w0⟩
    rintro n s4 ⟨i, τ, ys, H4, I4, st4, fr4, w4⟩
    obtain ⟨hD4, hh⟩ := turn i n τ ys H4 w4
    rcases hh with ⟨stop, qn⟩ | ⟨go, hlen, N1, N2, hN1, hN2, step⟩
    · refine thn (T.done (cxBlock X N scope fp (upd H s.heap.objs.size (.lst [])) s3) rfl rfl rfl hc i [] s4 τ H4 _ I4 (stat fr4) st4 stop) fun r s5 ⟨hr, I5⟩ => ?_
      subst hr
      obtain ⟨m, hm, _⟩ := I5.loc
      have e5 : H2.objs.size = (cxBlock X N scope fp (upd H s.heap.objs.size (.lst [])) s3).env.locals := by rw [← eEnv]; rfl
      refine hRR _ _ s5 H4 m (block_after I3 hf3 I5) ?_ (by rw [e5]; exact hm) qn
      exact I3.fpOk (by rw [hs3h]; exact Nat.le_refl _) (by rw [e5]; exact I5.free)
    · refine thn (T.item (cxBlock X N scope fp (upd H s.heap.objs.size (.lst [])) s3) rfl rfl rfl hc i [] s4 τ H4 _ I4 (stat fr4) st4 go) fun r s5 ⟨u, hr, h5⟩ => ?_
      subst hr
      refine thn h5 fun _ s6 ⟨x, H6, I6, r6, y6, st6, fr6⟩ => ?_
      have I6' := I6.pinned (stat fr6) (T.obj _ _ st6)
      refine thn (hg fp _ _ _ s6 τ H6 x u _ I6' r6 (step x H6 y6)) fun _ s7 ⟨σ7, H7, I7, q7⟩ => ?_
      refine thn (ht fp _ _ _ s7 σ7 H7 _ I7 q7) fun ok s8 ⟨H8, I8, q8⟩ => ?_
      have back : ∀ {σ' : St} {H' : Hp} {s' : Shared}, Inv (cxBlock X N scope fp (upd H s.heap.objs.size (.lst [])) s3) ([] ++ pinsAt fp s6.heap) σ' H' s' → Inv (cxBlock X N scope fp (upd H s.heap.objs.size (.lst [])) s3) [] σ' H' s' ∧ tn (i + 1) s'.heap ∧ ∀ b ∈ fp, H' b = none := fun {σ' H' s'} I' => by
        refine ⟨I'.unpinned, T.keep _ _ _ st6 fun b hb o e => (I'.pin (b, o) (List.mem_append_right _ (List.mem_append_right _ (mem_pinsAt hb e)))).1, fun b hb => ?_⟩
        obtain ⟨o, e, d⟩ := T.obj _ _ st6 b hb
        exact (I'.pin (b, o) (List.mem_append_right _ (List.mem_append_right _ (mem_pinsAt hb e)))).2.1
      cases ok with
      | false =>
        rw [if_neg Bool.false_ne_true] at q8 ⊢
        obtain ⟨m', hm, w8⟩ := hN2 _ _ q8
        obtain ⟨b1, b2, b3⟩ := back I8
        exact ⟨m', hm, i + 1, σ7, ys, H8, b1, b2, b3, w8⟩
      | true =>
        rw [if_pos rfl] at q8 ⊢
        refine thn (he fp _ _ _ s8 σ7 H8 _ I8 q8) fun y s9 ⟨v, H9, I9, r9, hD9, n9⟩ => ?_
        obtain ⟨m', hm, w9⟩ := hN1 _ _ _ n9
        refine thn (mt_append _ s9 σ7 H9 (.ref s.heap.objs.size) [v] (.ref s.heap.objs.size) [y] (fun _ H' => H' = upd H9 s.heap.objs.size (.lst (ys ++ [v]))) I9 rfl (.cons r9 .nil) ⟨_, ys, v, rfl, rfl, hD9, hlen, rfl⟩) fun _ s10 ⟨_, H10, I10, _, e10⟩ => ?_
        subst e10
        obtain ⟨b1, b2, b3⟩ := back I10
        exact ⟨m', hm, i + 1, σ7, _, _, b1, b2, b3, w9⟩
  have e3 : ({ s with heap := h1, toks := s.toks + ([] : List (Str × Value)).length } : Shared) = { s3 with heap := h1, toks := s.toks + ([] : List (Str × Value)).length } := by rw [← hs3]
  rw [e3]
  exact codeAny_compStart_list loop (T.self _ 0 _ _ _ st1 loop)
theorem pe_lc {elt iter target : Expr} {ifs : List Expr} {scope : Scope} {pos : Pos} (N : List Str) (cp : List (Option Nat)) {wi : TI} {g : TG} {tt : TT} {te : TE} (hc : X.calm = true) (hi : PI X target iter wi)
    (hg : ∀ fp H s, PG (cxBlock X N scope fp H s) target g) (ht : ∀ fp H s, PF (cxBlock X N scope fp H s) ifs tt) (he : ∀ fp H s, PE (cxBlock X N scope fp H s) elt te)
    (hk : autoParam (scope.kind = .function) L2.aRfl._auto_1) (hcell : autoParam ((scope.names.all fun p => p.2 != .cell) = true) L2.aRfl._auto_1) (hfree : autoParam (freeOk X.env.scope scope.names = true) L2.aRfl._auto_1) (hcap : autoParam (capOk X scope N cp = true) L2.aRfl._auto_1)
    (hnames : autoParam ((scope.names.all fun p => p.2 != .local || scope.names.lookup p.1 == some .local) = true) L2.aRfl._auto_1) (hs : autoParam (∀ x, foldedSetIterable iter X.env x = pure x) L2.aIrf._auto_1) :
    PE X (.ListComp elt [⟨target, iter, ifs, 0⟩] scope pos) (fun σ H Q => tLC cp wi g tt te σ H fun D H' => Q (.ref D) H') := by
  intro pins s σ H Q I h
  rw [eval_ListComp]
  have has : ∀ n, (n, NameKind.free) ∈ scope.names → ∃ c, X.env.cells.lookup n = some c := fun n hn => I.ok.has n (freeOk_mem hfree n hn)
  refine wpAny_comprehension_free (use := none) rfl hs (closureFor_cells has) hk (fun x hx hl => ?_) (thn (hi pins s σ H _ I h) fun xv s1 h1 => thn h1 fun itv s2 h2 => ?_)
  · have := List.all_eq_true.mp hnames x hx
    simp only [Bool.or_eq_true, bne_iff_ne, beq_iff_eq] at this
    exact this.resolve_left fun z => z hl
  · obtain ⟨it, fp, tn, J, H2, e, I2, T, st2, f2, hW⟩ := h2
    subst e
    refine lc_block (N := N) (cp := cp) hc hk hcell hfree hcap hg ht he I2 T st2 f2 hW fun D C s' H' m I' fC hm q => ⟨m, hm, fun h' hsb => ?_⟩
    exact ⟨.ref D, H', I'.turned (t' := s'.toks) (fun b o hb e => hsb.extBut b o hb e) fC.1 fC.2.1 fC.2.2.2.1 fC.2.2.2.2.1 fC.2.2.2.2.2, rfl, q⟩
end
end L2
namespace L2
open PySem PySem.Spec PyProof.Rows
section
variable {P : Program} {w : World} {A : Around} {E : Value → Shared → Prop} {s : Shared}
end
section
variable {P : Program} {w : World} {A : Around} {E : Value → Shared → Prop} {s : Shared} {z u o i1 i2 l1 l2 : Addr} {st1 st2 : Nat → Heap → Prop} {src1 src2 : List Value → Heap → Prop} {k1 k2 : Nat} {xs ys : List Value} {a b : Value}
end
end L2
namespace L2
open PySem PySem.Spec PyProof.Rows
section
variable {X : Cx} {pins : List (Addr × Obj)} {σ : St} {H : Hp} {s : Shared}
end
section
variable {X : Cx}
end
end L2
namespace L2
open PySem PySem.Spec PyProof.Rows
section
variable {X : Cx}
theorem boolsAt {bs : List Bool} {its : List Value} (r : Vals (bs.map V.bl) its) {i : Nat} {v : Value} (h : its[i]? = some v) : ∃ b, bs[i]? = some b ∧ v = .bool b := by
  have hl := r.length
  obtain ⟨hi, _⟩ := List.getElem?_eq_some_iff.mp h
  rw [List.length_map] at hl
  have hb : bs[i]? = some bs[i] := List.getElem?_eq_getElem (by (exact Nat.lt_of_lt_of_eq (by with_reducible assumption) (Eq.symm (by with_reducible assumption))))
  obtain ⟨u, h1, h2⟩ := r.get (i := i) (x := .bl bs[i]) (by rw [List.getElem?_map, hb]; rfl)
  rw [h] at h1; cases h1
  exact ⟨_, hb, h2⟩
theorem rangeAll (bs : List Bool) : ((List.range bs.length).all fun i => (bs[i]?).getD true) = bs.all id := by
  rw [Bool.eq_iff_iff]
  simp only [List.all_eq_true, List.mem_range, id]
  constructor
  · intro h b hb
    obtain ⟨i, hi, e⟩ := List.getElem_of_mem hb
    have := h i hi
    rw [List.getElem?_eq_getElem hi] at this
    simpa [e] using this
  · intro h i hi
    rw [List.getElem?_eq_getElem hi]
    exact h _ (List.getElem_mem hi)
theorem keptNew {h h' : Heap} {o : Obj} (hk : ∀ b x, b ∉ [h.objs.size] → (h.push o).get? b = some x → h'.get? b = some x) : ∀ b x, h.get? b = some x → h'.get? b = some x := fun b x e =>
  hk b x (fun hm => by rw [List.mem_singleton.mp hm] at e; exact Nat.lt_irrefl _ (Heap.lt_size e)) (Heap.get?_push_of_some _ e)
theorem call_allB (hc : X.calm = true) : CallR X (.builtin "all") (fun xs H Q => ∃ (a : Addr) (bs : List Bool), xs = [.ref a] ∧ SqL X.K H a (bs.map V.bl) ∧ Q (.bl (bs.all id)) H) := by
  intro pins s σ H xs us Q I rv h
  obtain ⟨a, bs, rfl, hq, q⟩ := h
  obtain ⟨u, rfl, ru⟩ := rv.one
  cases ru
  obtain ⟨its, r, p, hz⟩ := I.list hq
  have hlt : a < s.heap.objs.size := by obtain ⟨_, e, _⟩ := p.isList; exact Heap.lt_size e
  have hl := r.length
  rw [List.length_map] at hl
  refine call_all_walk (wpAny_pyIter_list p.isList ?_)
  refine ⟨s.heap.objs.size, [s.heap.objs.size, a], [s.heap.objs.size], its.toArray.size, _, _, fun i => (bs[i]?).getD true, rfl, Walks.list (A := X.A.in1) (I.ok.hd hc) _ a (Nat.ne_of_lt hlt) its.toArray, ⟨⟨_, Heap.get?_push_size _ rfl, rfl, rfl⟩, p.isList.push _⟩, fun i v s' Q' E' hP hQ => ?_, fun h' tk hk => ?_⟩
  · obtain ⟨b, e, rfl⟩ := boolsAt r (by simpa using hP)
    simp only [e, Option.getD_some] at hQ
    exact wpAny_truthy_bool hQ
  · rw [List.size_toArray, ← hl, rangeAll]
    exact ⟨.bl (bs.all id), H, I.kept (keptNew hk), rfl, q⟩
end
inductive D where
  | non | bl (b : Bool) | int (i : Int) | tup (xs : List D) | lst (xs : List D)
inductive HasD (K : PySem.W.Frag) (H : Hp) : V → D → Prop
  | non : HasD K H .non .non
  | bl (b) : HasD K H (.bl b) (.bl b)
  | int (i) : HasD K H (.int i) (.int i)
  | tup {a vs xs} : SqT K H a vs → vs.length = xs.length → (∀ (i : Nat) v x, vs[i]? = some v → xs[i]? = some x → HasD K H v x) → HasD K H (.ref a) (.tup xs)
  | lst {a vs xs} : SqL K H a vs → vs.length = xs.length → (∀ (i : Nat) v x, vs[i]? = some v → xs[i]? = some x → HasD K H v x) → HasD K H (.ref a) (.lst xs)
inductive Alike : Nat → D → D → Prop
  | non {n} : Alike n .non .non
  | bl {n} (a b) : Alike n (.bl a) (.bl b)
  | int {n} (a b) : Alike n (.int a) (.int b)
  | tup {n xs ys} : (∀ (i : Nat) x y, xs[i]? = some x → ys[i]? = some y → Alike n x y) → Alike (n + 1) (.tup xs) (.tup ys)
  | lst {n xs ys} : (∀ (i : Nat) x y, xs[i]? = some x → ys[i]? = some y → Alike n x y) → Alike (n + 1) (.lst xs) (.lst ys)
section
variable {X : Cx} {pins : List (Addr × Obj)} {σ : St} {H : Hp} {s : Shared}
theorem ext_all {α : Type} {xs ys : List α} (hl : xs.length = ys.length) (h : ∀ (i : Nat) x y, xs[i]? = some x → ys[i]? = some y → x = y) : xs = ys := by
  refine List.ext_getElem? fun i => ?_
  by_cases hi : i < xs.length
  · rw [List.getElem?_eq_getElem hi, List.getElem?_eq_getElem (by (exact Nat.lt_of_lt_of_eq (by with_reducible assumption) (by with_reducible assumption)) : i < ys.length)]
    exact congrArg some (h i _ _ (List.getElem?_eq_getElem hi) (List.getElem?_eq_getElem (by (exact Nat.lt_of_lt_of_eq (by with_reducible assumption) (by with_reducible assumption)))))
  · rw [List.getElem?_eq_none (by omega), List.getElem?_eq_none (by omega)]
theorem Inv.noTL {a : Addr} {xs ys : List V} (I : Inv X pins σ H s) (h : SqT X.K H a xs) (h' : SqL X.K H a ys) : False := by
  obtain ⟨_, _, ⟨o, e, c, _⟩, _⟩ := I.tuple h
  obtain ⟨_, _, p, _⟩ := I.list h'
  obtain ⟨o', e', c', _⟩ := p.isList
  rw [e] at e'; cases e'
  rw [c] at c'
  injection c' with z
  exact absurd z (by decide)
theorem hasD_inj (I : Inv X pins σ H s) {x : V} {d : D} (h : HasD X.K H x d) : ∀ e, HasD X.K H x e → d = e := by
  induction h with
  | non => intro e h; cases h; rfl
  | bl b => intro e h; cases h; rfl
  | int i => intro e h; cases h; rfl
  | tup hq hl hs ih =>
    intro e h
    cases h with
    | tup hq' hl' hs' =>
      obtain rfl := I.tuple_inj hq hq'
      refine congrArg D.tup (ext_all (hl.symm.trans hl') fun i x y ex ey => ?_)
      have hi : i < _ := (List.getElem?_eq_some_iff.mp ex).1
      rw [← hl] at hi
      exact ih i _ x (List.getElem?_eq_getElem hi) ex y (hs' i _ y (List.getElem?_eq_getElem hi) ey)
    | lst hq' hl' hs' => exact (I.noTL hq hq').elim
  | lst hq hl hs ih =>
    intro e h
    cases h with
    | lst hq' hl' hs' =>
      obtain rfl := I.list_inj hq hq'
      refine congrArg D.lst (ext_all (hl.symm.trans hl') fun i x y ex ey => ?_)
      have hi : i < _ := (List.getElem?_eq_some_iff.mp ex).1
      rw [← hl] at hi
      exact ih i _ x (List.getElem?_eq_getElem hi) ex y (hs' i _ y (List.getElem?_eq_getElem hi) ey)
    | tup hq' hl' hs' => exact (I.noTL hq' hq).elim
theorem allRange {n : Nat} {e : Nat → Bool} : (List.range n).all e = true ↔ ∀ i, i < n → e i = true := by simp [List.all_eq_true]
open PySem.SeqAt Classical in
theorem eqAt_D {n : Nat} {d e : D} (h : Alike n d e) : ∀ {A : Around} {x y : V} {u v : Value}, A.units + n < cLine → Inv X pins σ H s → RelV x u → RelV y v → HasD X.K H x d → HasD X.K H y e →
    ∃ b : Bool, (b = true ↔ d = e) ∧ EqAt A s u v b ∧ (∀ a c, u = .ref a → v = .ref c → RcAt A s u v b ∧ RcNeAt A s u v (!b)) := by
  induction h with
  | non =>
    intro A x y u v hu I ru rv hd he
    cases hd
    cases he
    cases ru
    cases rv
    exact ⟨true, by simp, EqAt.same _, fun a c e _ => nomatch e⟩
  | bl a b =>
    intro A x y u v hu I ru rv hd he
    cases hd
    cases he
    cases ru
    cases rv
    exact ⟨a == b, by simp, EqAt.bool_bool a b, fun a c e _ => nomatch e⟩
  | int a b =>
    intro A x y u v hu I ru rv hd he
    cases hd
    cases he
    obtain ⟨t, rfl⟩ := ru
    obtain ⟨t', rfl⟩ := rv
    exact ⟨a == b, by simp, EqAt.int_int a t b t', fun a c e _ => nomatch e⟩
  | @tup m xs ys hs ih =>
    intro A x y u v hu I ru rv hd he
    have hd' := hd
    have he' := he
    cases hd with
    | @tup p vs _ hq hl hv =>
    cases he with
    | @tup q ws _ hq' hl' hv' =>
    cases ru
    cases rv
    obtain ⟨its, r, pt, _⟩ := I.tuple hq
    obtain ⟨its', r', pt', _⟩ := I.tuple hq'
    have l1 := r.length
    have l2 := r'.length
    have key : ∀ j (h1 : j < its.toArray.size) (h2 : j < its'.toArray.size), EqAt A.in1 s its.toArray[j] its'.toArray[j] (decide (xs[j]? = ys[j]?)) := fun j h1 h2 => by
      rw [List.size_toArray] at h1 h2
      have j1 : j < vs.length := by (clear h2 hl' hu l2; omega)
      have j2 : j < ws.length := by (clear h1 hl hu j1 l1; omega)
      have j3 : j < xs.length := by (clear h2 hl' hu j1 j2 l2; omega)
      have j4 : j < ys.length := by (clear h1 hl hu j1 j2 j3 l1; omega)
      obtain ⟨u1, e1, ru1⟩ := r.get (List.getElem?_eq_getElem j1)
      obtain ⟨u2, e2, ru2⟩ := r'.get (List.getElem?_eq_getElem j2)
      obtain ⟨b, hb, eq, _⟩ := ih j _ _ (List.getElem?_eq_getElem j3) (List.getElem?_eq_getElem j4) (A := A.in1) (by show A.units + 1 + m < cLine; (clear h1 h2 hl hl' j3 j4 l1 l2; omega)) I ru1 ru2 (hv j _ _ (List.getElem?_eq_getElem j1) (List.getElem?_eq_getElem j3)) (hv' j _ _ (List.getElem?_eq_getElem j2) (List.getElem?_eq_getElem j4))
      have z1 : its.toArray[j] = u1 := by rw [List.getElem?_eq_getElem (by (with_reducible assumption))] at e1; simpa using e1
      have z2 : its'.toArray[j] = u2 := by rw [List.getElem?_eq_getElem (by (with_reducible assumption))] at e2; simpa using e2
      rw [z1, z2]
      have : (decide (xs[j]? = ys[j]?)) = b := by
        rw [Bool.eq_iff_iff, decide_eq_true_iff, hb, List.getElem?_eq_getElem j3, List.getElem?_eq_getElem j4]
        exact ⟨fun z => Option.some.inj z, fun z => congrArg some z⟩
      rw [this]
      exact eq
    have hb : ((List.range (min its.toArray.size its'.toArray.size)).all (fun j => decide (xs[j]? = ys[j]?)) && its.toArray.size == its'.toArray.size) = true ↔ D.tup xs = D.tup ys := by
      rw [Bool.and_eq_true, allRange, List.size_toArray, List.size_toArray, beq_iff_eq]
      constructor
      · rintro ⟨z1, z2⟩
        refine congrArg D.tup (ext_all (by (clear hu; omega)) fun i x y ex ey => ?_)
        have hi := (List.getElem?_eq_some_iff.mp ex).1
        have := of_decide_eq_true (z1 i (by (clear hl' hu l2; omega)))
        rw [ex, ey] at this
        exact Option.some.inj this
      · intro z
        injection z with z
        subst z
        exact ⟨fun i _ => decide_eq_true rfl, by (clear hu; omega)⟩
    refine ⟨_, hb, ?_, fun a c _ _ => ⟨RcAt.tuples pt pt' (by (clear hb hl hl' l1 l2; omega)) key, RcNeAt.tuples pt pt' (by (clear hb hl hl' l1 l2; omega)) key⟩⟩
    by_cases hpq : p = q
    · subst hpq
      rw [hb.mpr (hasD_inj I hd' _ he')]
      exact EqAt.same _
    · exact EqAt.of_refs hpq (RcAt.tuples pt pt' (by (clear hb hl hl' hpq l1 l2; omega)) key)
  | @lst m xs ys hs ih =>
    intro A x y u v hu I ru rv hd he
    have hd' := hd
    have he' := he
    cases hd with
    | @lst p vs _ hq hl hv =>
    cases he with
    | @lst q ws _ hq' hl' hv' =>
    cases ru
    cases rv
    obtain ⟨its, r, pt, _⟩ := I.list hq
    obtain ⟨its', r', pt', _⟩ := I.list hq'
    have l1 := r.length
    have l2 := r'.length
    have key : ∀ j (h1 : j < its.toArray.size) (h2 : j < its'.toArray.size), EqAt A.in1 s its.toArray[j] its'.toArray[j] (decide (xs[j]? = ys[j]?)) := fun j h1 h2 => by
      rw [List.size_toArray] at h1 h2
      have j1 : j < vs.length := by (clear h2 hl' hu l2; omega)
      have j2 : j < ws.length := by (clear h1 hl hu j1 l1; omega)
      have j3 : j < xs.length := by (clear h2 hl' hu j1 j2 l2; omega)
      have j4 : j < ys.length := by (clear h1 hl hu j1 j2 j3 l1; omega)
      obtain ⟨u1, e1, ru1⟩ := r.get (List.getElem?_eq_getElem j1)
      obtain ⟨u2, e2, ru2⟩ := r'.get (List.getElem?_eq_getElem j2)
      obtain ⟨b, hb, eq, _⟩ := ih j _ _ (List.getElem?_eq_getElem j3) (List.getElem?_eq_getElem j4) (A := A.in1) (by show A.units + 1 + m < cLine; (clear h1 h2 hl hl' j3 j4 l1 l2; omega)) I ru1 ru2 (hv j _ _ (List.getElem?_eq_getElem j1) (List.getElem?_eq_getElem j3)) (hv' j _ _ (List.getElem?_eq_getElem j2) (List.getElem?_eq_getElem j4))
      have z1 : its.toArray[j] = u1 := by rw [List.getElem?_eq_getElem (by (with_reducible assumption))] at e1; simpa using e1
      have z2 : its'.toArray[j] = u2 := by rw [List.getElem?_eq_getElem (by (with_reducible assumption))] at e2; simpa using e2
      rw [z1, z2]
      have : (decide (xs[j]? = ys[j]?)) = b := by
        rw [Bool.eq_iff_iff, decide_eq_true_iff, hb, List.getElem?_eq_getElem j3, List.getElem?_eq_getElem j4]
        exact ⟨fun z => Option.some.inj z, fun z => congrArg some z⟩
      rw [this]
      exact eq
    by_cases hsz : its.toArray.size = its'.toArray.size
    · have hb : ((List.range its.toArray.size).all (fun j => decide (xs[j]? = ys[j]?))) = true ↔ D.lst xs = D.lst ys := by
        rw [List.size_toArray, List.size_toArray] at hsz
        rw [allRange, List.size_toArray]
        constructor
        · intro z1
          refine congrArg D.lst (ext_all (by (clear hu; omega)) fun i x y ex ey => ?_)
          have hi := (List.getElem?_eq_some_iff.mp ex).1
          have := of_decide_eq_true (z1 i (by (clear hl' hu l2; omega)))
          rw [ex, ey] at this
          exact Option.some.inj this
        · intro z
          injection z with z
          subst z
          exact fun i _ => decide_eq_true rfl
      refine ⟨_, hb, ?_, fun a c _ _ => ⟨RcAt.lists pt.isList pt'.isList hsz (by (clear hb hl hl' hsz l1 l2; omega)) key, RcNeAt.lists pt.isList pt'.isList hsz (by (clear hb hl hl' hsz l1 l2; omega)) key⟩⟩
      by_cases hpq : p = q
      · subst hpq
        rw [hb.mpr (hasD_inj I hd' _ he')]
        exact EqAt.same _
      · exact EqAt.of_refs hpq (RcAt.lists pt.isList pt'.isList hsz (by (clear hb hl hl' hpq hsz l1 l2; omega)) key)
    · have hne : (its.toArray.size != its'.toArray.size) = true := by simpa using hsz
      have hb : false = true ↔ D.lst xs = D.lst ys := by
        rw [List.size_toArray, List.size_toArray] at hsz
        constructor
        · intro z; cases z
        · intro z
          injection z with z
          subst z
          (clear hu; omega)
      refine ⟨false, hb, ?_, fun a c _ _ => ⟨RcAt.lists_lengths pt.isList pt'.isList hne (by (clear hb hl hl' hsz l1 l2; omega)), RcNeAt.lists_lengths pt.isList pt'.isList hne (by (clear hb hl hl' hsz l1 l2; omega))⟩⟩
      by_cases hpq : p = q
      · subst hpq
        obtain rfl := I.list_inj hq hq'
        rw [List.size_toArray, List.size_toArray] at hsz
        (clear hb hu; omega)
      · exact EqAt.of_refs hpq (RcAt.lists_lengths pt.isList pt'.isList hne (by (clear hb hl hl' hpq hsz l1 l2; omega)))
theorem op_neD {n : Nat} (hu : X.A.units + n < cLine) : OpR X (compareOp .NotEq) (fun x y H Q => ∃ a b d e, x = .ref a ∧ y = .ref b ∧ HasD X.K H x d ∧ HasD X.K H y e ∧ Alike n d e ∧ ∀ c : Bool, (c = true ↔ d = e) → Q (.bl (!c)) H) := by
  intro pins s σ H x y v u Q I rx ry h
  obtain ⟨a, b, d, e, rfl, rfl, h1, h2, al, q⟩ := h
  cases rx
  cases ry
  obtain ⟨c, hc, _, hr⟩ := eqAt_D al (A := X.A) (x := .ref a) (y := .ref b) (u := .ref a) (v := .ref b) hu I rfl rfl h1 h2
  exact (hr a b rfl rfl).2 _ _ _ _ ⟨.bl (!c), H, I, rfl, q c hc⟩
end
end L2
namespace L2
open PySem PySem.Spec PyProof.Rows
noncomputable def Fn (K : PySem.W.Frag) (mg : Str → Option Value) (x : Str) (st : Stmt) : Prop := ∃ f fd, Fun K x x st f fd ∧ mg x = some (.ref f)
theorem fn_mk {K : PySem.W.Frag} {h : Heap} {mg : Str → Option Value} {x : Str} {st : Stmt} {f : Addr} {oc : Value} {od an : Option Addr} {osl : Array (Option Value)} {kV doc pm cdv ct : Value} (X : K.In h) (G : h.Ns mainGlobals mg)
    (a : PySem.W.nsIn K mainGlobals x = some (some (.ref f))) (l : K.lookup f = some ⟨oc, od, .func (PySem.W.fnOf x x (defArgs st) (defBody st) (defScope st) .none kV doc pm an cdv ct), osl⟩) (c : PySem.W.codeIn K cdv x = true) (k : PySem.W.keepIn K (.ref f) = true) : Fn K mg x st :=
  ⟨f, _, fun_mk l c k, PySem.W.mg_of X G a⟩
structure Cal (P : Program) (w : World) (K : PySem.W.Frag) (mg : Str → Option Value) (base : Heap) (k : Nat) (x : Str) (ps : List Str) (sp : Sp) : Prop where
  ex : ∃ f fd, FnOk P w K mg base CX0 k f fd ps sp ∧ mg x = some (.ref f) ∧ PySem.W.keepIn K (.ref f) = true ∧ Binds K fd ps []
theorem cal_of {P : Program} {w : World} {K : PySem.W.Frag} {mg : Str → Option Value} {base : Heap} {k : Nat} {x : Str} {st : Stmt} {N ps : List Str} {sp : Sp} (F : Fn K mg x st) (S : FnScope N ps (defScope st))
    (hb : ∀ (kV doc pm : Value) (an : Option Addr) (cdv ct : Value) (us : List Value), us.length = ps.length → bindArgs (PySem.W.fnOf x x (defArgs st) (defBody st) (defScope st) .none kV doc pm an cdv ct) ⟨us, []⟩ = pure (ps.zip us)) (len : ∀ vs H Q E, sp vs H Q E → vs.length = ps.length)
    (hbody : ∀ (f : Addr) (cdv : Value) (A : Around) (outer : List Env) (s : Shared) (H : Hp) (vs : List V) (Q : VK) (E : XK), Room k (A.deeper (envOfC x (defScope st) s.heap.objs.size f cdv)) → sp vs H Q E →
      ∃ t, PSs (cxOf CX0 P w K mg base N x (defScope st) f cdv A outer s H E).nox (defBody st) t ∧ t { nx := fun _ H' => Q .non H', rt := Q } (start N vs) H) : Cal P w K mg base (k + 1) x ps sp := by
  obtain ⟨f, fd, F, m⟩ := F
  exact ⟨f, fd, F.ok S len (hbody f), m, F.kp, F.binds hb⟩
section
variable {X : Cx}
theorem pe_fn {k : Nat} {x : Str} {ps : List Str} {sp : Sp} {e : Expr} {es : List Expr} {t : TA} {p pos : Pos} (C : Cal X.prog X.w X.K X.mg X.base k x ps sp) (hr : Room k X.A) (ha : PA X (e :: es) t) (hg : autoParam (Gl X x) L2.aRfl._auto_1)
    (hdb : autoParam ((x == ("__debug__" : Str)) = false) L2.aDec._auto_1) (he : autoParam (starEach (e :: es) X.env = (false, eval e X.env) :: starEach es X.env) L2.aRfl._auto_1) (hpl : autoParam ((backTo pos (starEach es X.env)).any (·.1) = false) L2.aRfl._auto_1) :
    PE X (.Call (.Name x p) (e :: es) [] pos) (tCall sp [] E0 t) := by
  obtain ⟨f, fd, F, m, kp, b⟩ := C.ex
  exact pe_call F hr hg m kp b .nil pass0 ha hdb he hpl
theorem pe_ty {x : Str} {T : String} {pos : Pos} (hm : X.mg x = none) (hv : bootBuiltins x = some (.type T)) (hg : autoParam (Gl X x) L2.aRfl._auto_1) (hn : autoParam (x ≠ "__name__") L2.aDec._auto_1) (hd : autoParam ((x == ("__debug__" : Str)) = false) L2.aDec._auto_1) : PE X (.Name x pos) (tC (.ty T)) :=
  pe_bltn hg hm hv (v := .ty T) rfl hn hd
end
noncomputable def gPair (K : PySem.W.Frag) (i j : Nat) : TG := gTup K 2 (gCons (gName i) (gCons (gName j) gNil))
theorem pg_pair {X : Cx} {K : PySem.W.Frag} {i j : Nat} {x y : Str} {px py pos : Pos} {k : Nat} (hK : X.K = K) (hc : X.calm = true) (hN : X.N.Nodup) (hi : X.N[i]? = some x) (hj : X.N[j]? = some y) (hx : X.env.scope.names.lookup x = some .local) (hy : X.env.scope.names.lookup y = some .local) :
    PG X (.Tuple [.Name x px, .Name y py] k pos) (gPair K i j) := by
  subst hK
  exact pg_tup hc (pgs_cons (pg_name hN hi (.inl hx) (.inr hx)) (pgs_cons (pg_name hN hj (.inl hy) (.inr hy)) pgs_nil))
theorem bt_len : bootBuiltins "len" = some (.builtin "len") := by decide +kernel
theorem bt_all : bootBuiltins "all" = some (.builtin "all") := by decide +kernel
theorem bt_isinstance : bootBuiltins "isinstance" = some (.builtin "isinstance") := by decide +kernel
theorem bt_int : bootBuiltins "int" = some (.type "int") := by decide +kernel
theorem bt_bool : bootBuiltins "bool" = some (.type "bool") := by decide +kernel
theorem bt_tuple : bootBuiltins "tuple" = some (.type "tuple") := by decide +kernel
theorem bt_list : bootBuiltins "list" = some (.type "list") := by decide +kernel
theorem same_new' {H : Hp} {p : Addr} (h : H p = none) (o : HO) : Same H (upd H p o) := fun b u q => by rw [upd_ne (ne_of_none q h)]; exact q
theorem Same.tup {K : PySem.W.Frag} {H H' : Hp} {a : Addr} {xs : List V} (e : Same H H') (h : SqT K H a xs) : SqT K H' a xs := by
  rcases h with (h | ⟨o, h⟩) | h
  · exact .inl (.inl (e _ _ h))
  · exact .inl (.inr ⟨o, e _ _ h⟩)
  · exact .inr h
theorem sqT_new {K : PySem.W.Frag} {H : Hp} {a : Addr} {xs : List V} (h : H a = some (.tup xs)) : SqT K H a xs := .inl (.inl h)
theorem sqL_new {K : PySem.W.Frag} {H : Hp} {a : Addr} {xs : List V} (h : H a = some (.lst xs)) : SqL K H a xs := .inl (.inl h)
theorem lc_any {J : It} {n : Nat} {τ0 : St} {g : TG} {tt : TT} {te : TE} {H : Hp} {Q : Addr → Hp → Prop} {D : Addr} (Pv : Nat → St → List V → Hp → Prop)
    (h0 : Pv 0 τ0 [] (upd H D (.lst []))) (hD : ∀ i τ ys H, i ≤ n → Pv i τ ys H → H D = some (.lst ys) ∧ ys.length < sizeLine) (go : ∀ i τ ys H, i < n → Pv i τ ys H → J.go i H) (stop : ∀ τ ys H, Pv n τ ys H → J.stop n H)
    (hs : ∀ i τ ys H x H', i < n → Pv i τ ys H → J.yld i H x H' → g x τ H' fun σ2 H2 => tt σ2 H2 fun ok H3 => if ok = true then te σ2 H3 fun v H4 => H4 D = some (.lst ys) ∧ Pv (i + 1) σ2 (ys ++ [v]) (upd H4 D (.lst (ys ++ [v]))) else Pv (i + 1) σ2 ys H3)
    (hd : ∀ τ ys H, Pv n τ ys H → Q D H) :
    LcW J D τ0 H g tt te Q := by
  refine ⟨fun i m τ ys H => m = n - i ∧ i ≤ n ∧ Pv i τ ys H, ⟨n, by simp, Nat.zero_le _, h0⟩, ?_⟩
  rintro i m τ ys H ⟨rfl, hi, p⟩
  obtain ⟨z1, z2⟩ := hD i τ ys H hi p
  refine ⟨z1, ?_⟩
  by_cases hlt : i < n
  · refine .inr ⟨go i τ ys H hlt p, z2, fun τ v H => Pv (i + 1) τ (ys ++ [v]) (upd H D (.lst (ys ++ [v]))), fun τ H => Pv (i + 1) τ ys H, fun τ v H q => ⟨n - (i + 1), by (clear hi z2; omega), rfl, hlt, q⟩, fun τ H q => ⟨n - (i + 1), by (clear hi z2; omega), rfl, hlt, q⟩, fun x H' y => hs i τ ys H x H' hlt p y⟩
  · have e : i = n := by (clear z2; omega)
    subst e
    exact .inl ⟨stop τ ys H p, hd τ ys H p⟩
end L2
namespace L2
open PySem PySem.Spec PyProof.Rows
section
variable {X : Cx}
theorem ix_listK {K : PySem.W.Frag} (hK : X.K = K) : IxR X (rIxL K) := by subst hK; exact ix_list
theorem ix_tupK {K : PySem.W.Frag} (hK : X.K = K) : IxR X (rIxT K) := by subst hK; exact ix_tup
end
end L2
namespace Nb
open PySem L2
structure Mg (mg : Str → Option Value) : Prop where
  len : mg "len" = none
  min : mg "min" = none
  max : mg "max" = none
  sum : mg "sum" = none
  all : mg "all" = none
  any : mg "any" = none
  abs : mg "abs" = none
  isinstance : mg "isinstance" = none
  sorted : mg "sorted" = none
  range_ : mg "range" = none
  zip_ : mg "zip" = none
  tuple_ : mg "tuple" = none
  list_ : mg "list" = none
  int_ : mg "int" = none
  bool_ : mg "bool" = none
  dict_ : mg "dict" = none
  enumerate_ : mg "enumerate" = none
  reversed_ : mg "reversed" = none
  ValueError_ : mg "ValueError" = none
  set_ : mg "set" = none
  str_ : mg "str" = none
theorem SqT_upd {K : PySem.W.Frag} {H : Hp} {D a : Addr} {ys zs xs : List V} (hD : H D = some (.lst ys)) (h : SqT K H a xs) : SqT K (upd H D (.lst zs)) a xs := by
  rcases h with (h | ⟨o, h⟩) | h
  · exact .inl (.inl (by rw [upd_ne (ne_of h hD (by intro z; cases z))]; exact h))
  · exact .inl (.inr ⟨o, by rw [upd_ne (ne_of h hD (by intro z; cases z))]; exact h⟩)
  · exact .inr h
noncomputable def RowAt (K : PySem.W.Frag) (H : Hp) (t : Addr) (r : List Int × Int) : Prop := ∃ p, SqT K H t [.ref p, .int r.2] ∧ SqT K H p (r.1.map V.int)
theorem RowAt.same {K : PySem.W.Frag} {H H' : Hp} {t : Addr} {r : List Int × Int} (e : Same H H') (h : RowAt K H t r) : RowAt K H' t r := let ⟨p, h1, h2⟩ := h; ⟨p, e.tup h1, e.tup h2⟩
theorem RowAt.upd {K : PySem.W.Frag} {H : Hp} {D t : Addr} {ys zs : List V} {r : List Int × Int} (hD : H D = some (.lst ys)) (h : RowAt K H t r) : RowAt K (upd H D (.lst zs)) t r := let ⟨p, h1, h2⟩ := h; ⟨p, SqT_upd hD h1, SqT_upd hD h2⟩
noncomputable def RowsAre (K : PySem.W.Frag) (H : Hp) : List V → List (List Int × Int) → Prop := Paired fun v r => ∃ t, v = .ref t ∧ RowAt K H t r
theorem RowsAre.imp {K : PySem.W.Frag} {H H' : Hp} {vs : List V} {rs : List (List Int × Int)} (f : ∀ t r, RowAt K H t r → RowAt K H' t r) (h : RowsAre K H vs rs) : RowsAre K H' vs rs := by
  induction h with
  | nil => exact .nil
  | cons r t ih => obtain ⟨a, e, z⟩ := r; exact .cons ⟨a, e, f _ _ z⟩ ih
theorem RowsAre.snoc {K : PySem.W.Frag} {H : Hp} {vs : List V} {rs : List (List Int × Int)} {t : Addr} {r : List Int × Int} (h : RowsAre K H vs rs) (z : RowAt K H t r) : RowsAre K H (vs ++ [.ref t]) (rs ++ [r]) := by
  induction h with
  | nil => exact .cons ⟨t, rfl, z⟩ .nil
  | cons q t ih => exact .cons q ih
theorem RowsAre.get {K : PySem.W.Frag} {H : Hp} {vs : List V} {rs : List (List Int × Int)} (h : RowsAre K H vs rs) : ∀ {i : Nat} {v : V}, vs[i]? = some v → ∃ t r, v = .ref t ∧ rs[i]? = some r ∧ RowAt K H t r := by
  induction h with
  | nil => intro i v e; simp at e
  | cons q t ih =>
    intro i v e
    cases i with
    | zero => obtain ⟨a, e1, z⟩ := q; simp at e; subst e; exact ⟨a, _, e1, rfl, z⟩
    | succ i => obtain ⟨a, r, e1, e2, z⟩ := ih (i := i) (v := v) (by simpa using e); exact ⟨a, r, e1, by simpa using e2, z⟩
theorem RowsAre.length {K : PySem.W.Frag} {H : Hp} {vs : List V} {rs : List (List Int × Int)} (h : RowsAre K H vs rs) : vs.length = rs.length := Paired.length h
theorem at0 {x y : V} : atI [x, y] 0 = some x := by rfl
theorem at1 {x y : V} : atI [x, y] 1 = some y := by rfl
theorem takeS {α : Type} {l : List α} {i : Nat} {x : α} (h : l[i]? = some x) : l.take (i + 1) = l.take i ++ [x] := by rw [List.take_succ, h]; rfl
theorem getMapI {ns : List Int} {i : Nat} {v : V} (h : (ns.map V.int)[i]? = some v) : ∃ n, ns[i]? = some n ∧ v = .int n := by
  rw [List.getElem?_map] at h
  cases e : ns[i]? with
  | none => rw [e] at h; cases h
  | some n => rw [e] at h; exact ⟨n, rfl, (Option.some.inj h).symm⟩
noncomputable def rowD (r : List Int × Int) : D := .tup [.tup (r.1.map .int), .int r.2]
noncomputable def probD (rs : List (List Int × Int)) (cs : List Int) : D := .tup [.lst (rs.map rowD), .tup (cs.map .int)]
theorem intsD {K : PySem.W.Frag} {H : Hp} {a : Addr} {ns : List Int} (h : SqT K H a (ns.map V.int)) : HasD K H (.ref a) (.tup (ns.map .int)) := by
  refine .tup h (by rw [List.length_map, List.length_map]) fun i v x e1 e2 => ?_
  obtain ⟨n, en, rfl⟩ := getMapI e1
  rw [List.getElem?_map, en] at e2
  cases e2
  exact .int n
theorem pairD {K : PySem.W.Frag} {H : Hp} {a : Addr} {v w : V} {d e : D} (h : SqT K H a [v, w]) (h1 : HasD K H v d) (h2 : HasD K H w e) : HasD K H (.ref a) (.tup [d, e]) := by
  refine .tup h rfl fun i v x e1 e2 => ?_
  match i with
  | 0 => simp at e1 e2; subst e1 e2; exact h1
  | 1 => simp at e1 e2; subst e1 e2; exact h2
  | i + 2 => simp at e1
theorem RowAt.hasD {K : PySem.W.Frag} {H : Hp} {t : Addr} {r : List Int × Int} (h : RowAt K H t r) : HasD K H (.ref t) (rowD r) := by
  obtain ⟨p, h1, h2⟩ := h
  exact pairD h1 (intsD h2) (.int _)
theorem RowsAre.hasD {K : PySem.W.Frag} {H : Hp} {l : Addr} {vs : List V} {rs : List (List Int × Int)} (hl : SqL K H l vs) (h : RowsAre K H vs rs) : HasD K H (.ref l) (.lst (rs.map rowD)) := by
  refine .lst hl (by rw [List.length_map]; exact h.length) fun i v x e1 e2 => ?_
  obtain ⟨t, r, rfl, er, hr⟩ := h.get e1
  rw [List.getElem?_map, er] at e2
  cases e2
  exact hr.hasD
theorem alikeInts {n : Nat} (ns ms : List Int) : Alike (n + 1) (.tup (ns.map .int)) (.tup (ms.map .int)) := by
  refine .tup fun i x y e1 e2 => ?_
  rw [List.getElem?_map] at e1 e2
  obtain ⟨a, _, rfl⟩ := Option.map_eq_some_iff.mp e1
  obtain ⟨b, _, rfl⟩ := Option.map_eq_some_iff.mp e2
  exact .int a b
theorem alikePair {n : Nat} {a b c d : D} (h1 : Alike n a c) (h2 : Alike n b d) : Alike (n + 1) (.tup [a, b]) (.tup [c, d]) := by
  refine .tup fun i x y e1 e2 => ?_
  match i with
  | 0 => simp at e1 e2; subst e1 e2; exact h1
  | 1 => simp at e1 e2; subst e1 e2; exact h2
  | i + 2 => simp at e1
theorem alikeRow {n : Nat} (r r' : List Int × Int) : Alike (n + 2) (rowD r) (rowD r') := alikePair (alikeInts _ _) (.int _ _)
theorem alikeRows {n : Nat} (rs rs' : List (List Int × Int)) : Alike (n + 3) (.lst (rs.map rowD)) (.lst (rs'.map rowD)) := by
  refine .lst fun i x y e1 e2 => ?_
  rw [List.getElem?_map] at e1 e2
  obtain ⟨a, _, rfl⟩ := Option.map_eq_some_iff.mp e1
  obtain ⟨b, _, rfl⟩ := Option.map_eq_some_iff.mp e2
  exact alikeRow a b
theorem alikeProb {n : Nat} (rs rs' : List (List Int × Int)) (cs cs' : List Int) : Alike (n + 4) (probD rs cs) (probD rs' cs') := alikePair (alikeRows rs rs') (alikeInts _ _)
theorem atNat {α : Type} {xs : List α} {k : Nat} {x : α} (h : xs[k]? = some x) : atI xs (k : Int) = some x := atI_nat h
end Nb
namespace L2
open PySem PySem.Spec PyProof.Rows
end L2
namespace L2
open PySem PySem.Spec PyProof.Rows
section
variable (P : Program) (w : World)
end
section
variable {P : Program} {w : World} {H H' : Hp} {h h' : Heap} {a : Addr} {o : HO}
end
section
variable {P : Program} {w : World} {H : Hp} {h h' : Heap} {x e : Addr} {o' : HO}
end
section
variable {fs fs' ex ex' : List Addr} {H H1 H2 : Hp} {h h1 h2 h' : Heap} {a x e : Addr} {o : HO}
end
end L2
namespace L2
open PySem PySem.Spec PyProof.Rows
section
variable {X : Cx} {pins : List (Addr × Obj)} {σ : List (Option V)} {H H' : Hp} {s : Shared} {h' : Heap}
end
end L2
namespace L2
open PySem PySem.Spec PyProof.Rows
section
variable {X : Cx}
variable {a b : Expr} {ta tb : TE} {pos : Pos}
variable {tA tB' : TT} {rest : List Expr}
end
end L2
namespace L2
open PySem PySem.Spec PyProof.Rows
section
variable {X : Cx} {pins : List (Addr × Obj)} {σ : St} {H : Hp} {s : Shared} {a : Addr} {xs ys : List V}
end
section
variable {X : Cx} {pins : List (Addr × Obj)} {σ : St} {H : Hp} {s : Shared} {E : Value → Shared → Prop}
end
section
variable {X : Cx} {st : Stmt} {rest : List Stmt} {t u : TS} {e : Expr} {te : TE} {pos : Pos}
end
section
variable {X : Cx} {pos : Pos}
end
section
variable {X : Cx} {pos : Pos}
end
end L2
namespace L2
open PySem PySem.Spec PyProof.Rows
section
variable {X : Cx} {tg : Expr}
end
end L2
namespace L2
open PySem PySem.Spec PyProof.Rows
section
variable {X : Cx} {a b c : Expr} {ta tb tc : TE} {pos : Pos}
end
section
variable {X : Cx} {a b c : Expr} {ta tb tc : TE} {pos : Pos}
end
end L2
namespace L2
open PySem PySem.Spec PyProof.Rows
section
variable {prog : Program} {w : World} {A : Around} {E : Value → Shared → Prop} {s : Shared} {K : PySem.W.Frag} {x dx C f : Addr} {mA : Str → Option Value} {name : Str} {v : Value}
end
section
variable {P : Program} {w : World} {H H' : Hp} {h h' : Heap} {a C dx : Addr} {fs fs' : List (Str × V)}
end
section
variable {X : Cx} {pins : List (Addr × Obj)} {σ : St} {H : Hp} {s : Shared} {a C dx : Addr} {fs : List (Str × V)} {f : Str} {v : V} {A : Around} {E : Value → Shared → Prop}
end
section
variable {X : Cx} {o e value : Expr} {f : Str} {pos pos' tpos : Pos} {ta tv : TE}
end
section
variable {X : Cx} {pins : List (Addr × Obj)} {σ : St} {H : Hp} {s : Shared} {A : Around} {E : Value → Shared → Prop} {Q : Value → Shared → Prop} {c : Value} {b : Bool}
end
end L2
namespace L2
open PySem PySem.Spec PyProof.Rows
section
variable {X : Cx} {e : Expr} {es : List Expr} {te : TE} {t : TA} {pos : Pos}
end
section
variable {X : Cx} {pins : List (Addr × Obj)} {σ : St} {H : Hp} {s s' : Shared}
end
section
variable {X : Cx} {CX : CXT} {k : Nat} {f C : Addr} {fd : FuncData} {ps : List Str} {sp : Sp} {dvs : List V} {ds : List Value} {E : XK} {x m : Str} {p pos apos : Pos} {e o : Expr} {es : List Expr} {ta : TE} {t : TA}
end
section
variable {X : Cx} {CX : CXT} {k : Nat} {f C : Addr} {fd : FuncData} {ps ks : List Str} {sp : Sp} {E : XK} {x m : Str} {p pos apos kpos : Pos} {e o : Expr} {es : List Expr} {kws : List Keyword} {te ta : TE} {t tk : TA} {nm : Option Str}
variable {g : List Value → List Value → List Value} {gV : List V → List V → List V}
end
end L2
namespace L2
open PySem PySem.Spec PyProof.Rows
section
variable {X : Cx} {x : Str} {p pos : Pos} {e : Expr} {es : List Expr} {t : TA} {id T : String} {r : List V → Hp → VK → Prop}
end
end L2
namespace L2
open PySem PySem.Spec PyProof.Rows
section
variable {κ : Type} [DecidableEq κ]
end
section
variable {P : Program} {w : World} {H : Hp} {h : Heap} {a : Addr}
end
section
variable {X : Cx} {pins : List (Addr × Obj)} {σ : St} {H : Hp} {s : Shared} {a : Addr} {y v : V} {u r : Value} {o : Option V} {A : Around} {E : Value → Shared → Prop}
end
section
variable {X : Cx} {pins : List (Addr × Obj)} {σ : St} {H : Hp} {s : Shared} {a : Addr} {kvs : List (Key × V)} {k : Key} {u : Value} {A : Around} {E : Value → Shared → Prop}
end
section
variable {X : Cx} {o i e value : Expr} {pos pos' tpos : Pos} {td ty tv : TE}
end
section
variable {X : Cx} {pos : Pos}
end
section
variable {X : Cx} {pins : List (Addr × Obj)} {σ : St} {H : Hp} {s : Shared} {a : Addr} {y d : V} {u r : Value} {o : Option V} {A : Around} {E : Value → Shared → Prop}
end
section
variable {X : Cx} {o e f : Expr} {apos cpos : Pos} {td ty tx : TE}
end
section
variable {X : Cx} {pins : List (Addr × Obj)} {σ : St} {H : Hp} {s : Shared} {a : Addr} {kvs : List (Key × V)} {A : Around} {E : Value → Shared → Prop}
end
section
variable {X : Cx} {pins : List (Addr × Obj)} {σ : St} {H : Hp} {s : Shared} {a : Addr} {y : V} {u : Value} {A : Around} {E : Value → Shared → Prop}
end
end L2
namespace Att
open PySem PySem.W PySem.Calls PyProof.Rows
section
variable {prog : Program} {w : World} {A : Around} {E : Value → Shared → Prop} {s : Shared} {K : Frag}
end
end Att
namespace L2
open PySem PySem.Spec PyProof.Rows
end L2
namespace L2
open PySem PySem.Spec PyProof.Rows
end L2
namespace L2
open PySem PySem.Spec PyProof.Rows
section
variable {P : Program} {w : World} {K : PySem.W.Frag} {mg : Str → Option Value} {base : Heap}
end
section
variable {X : Cx}
end
section
variable {κ : Type} [DecidableEq κ]
end
end L2
namespace L2
open PySem PySem.Spec PyProof.Rows
section
variable {prog : Program} {w : World} {A : Around} {E : Value → Shared → Prop}
end
section
variable {X : Cx}
end
end L2
namespace L2
open PySem PySem.Spec PyProof.Rows
section
variable {P : Program} {w : World} {A : Around} {E : Value → Shared → Prop} {s : Shared} {e it l : Addr} {st : Nat → Heap → Prop} {src : List Value → Heap → Prop} {i : Nat} {xs : List Value} {old : Value}
end
section
variable {X : Cx}
end
end L2
namespace L2
open PySem PySem.Spec PyProof.Rows
section
variable {prog : Program} {w : World} {A : Around} {E : Value → Shared → Prop} {s : Shared}
end
section
variable {X : Cx}
end
end L2
namespace L2
open PySem PySem.Spec PyProof.Rows
section
variable {P : Program} {w : World} {A : Around} {E : Value → Shared → Prop} {s : Shared}
end
section
variable {P : Program} {w : World} {A : Around} {E : Value → Shared → Prop} {s : Shared} {z u o i1 i2 l1 l2 : Addr} {st1 st2 : Nat → Heap → Prop} {src1 src2 : List Value → Heap → Prop} {k1 k2 : Nat} {xs ys : List Value}
end
section
variable {X : Cx} {pins : List (Addr × Obj)} {σ : St} {H : Hp} {s : Shared} {m1 m2 : Bool} {z u o i1 i2 a b : Addr} {i : Nat} {xs ys : List V} {E : Value → Shared → Prop} {A : Around}
end
section
variable {X : Cx}
end
section
variable {X : Cx} {tg : Expr}
end
end L2
namespace L2
open PySem PySem.Spec PyProof.Rows PySem.W
theorem op_mulI {X : Cx} : OpR X (binaryOp .Mult) (rI IntMulOk fun i j => .int (i * j)) := opI fun _ _ _ _ _ _ _ hc q => mul_int q hc
inductive IsT : String → Prop
  | int : IsT "int"
  | bool : IsT "bool"
  | tuple : IsT "tuple"
  | list : IsT "list"
  | str : IsT "str"
noncomputable def isiW (K : PySem.W.Frag) (H : Hp) : V → String → Bool → Prop
  | .non, _, b => b = false
  | .int _, T, b => b = decide (T = "int")
  | .bl _, T, b => b = decide (T = "int" ∨ T = "bool")
  | .str _, T, b => b = decide (T = "str")
  | .ref a, T, b => ((∃ xs, SqT K H a xs) ∧ b = decide (T = "tuple")) ∨ ((∃ xs, SqL K H a xs) ∧ b = decide (T = "list"))
  | _, _, _ => False
theorem call_isiW {X : Cx} : CallR X (.builtin "isinstance") (fun xs H Q => ∃ x T b, xs = [x, .ty T] ∧ IsT T ∧ isiW X.K H x T b ∧ Q (.bl b) H) := by
  intro pins s σ H xs us Q I rv h
  obtain ⟨x, T, b, rfl, hT, hi, q⟩ := h
  obtain ⟨u, v, rfl, ru, rT⟩ := rv.two
  cases rT
  have fin : ∀ (tk : Nat), EP X pins σ Q (.bool b) { s with toks := tk } := fun tk => ⟨.bl b, H, I.tok tk, rfl, q⟩
  cases x with
  | int n =>
    obtain ⟨t, rfl⟩ := ru
    cases hT <;> (subst hi)
    · exact IsiPair.int_int (fin s.toks)
    · exact IsiPair.int_bool (fin _)
    · exact IsiPair.int_tuple (fin _)
    · exact IsiPair.int_list (fin _)
    · exact IsiPair.int_str (fin _)
  | bl n =>
    cases ru
    cases hT <;> (subst hi)
    · exact IsiPair.bool_int (fin s.toks)
    · exact IsiPair.bool_bool (fin s.toks)
    · exact IsiPair.bool_tuple (fin _)
    · exact IsiPair.bool_list (fin _)
    · exact IsiPair.bool_str (fin _)
  | str n =>
    obtain ⟨t, rfl⟩ := ru
    cases hT <;> (subst hi)
    · exact IsiPair.str_int (fin _)
    · exact IsiPair.str_bool (fin _)
    · exact IsiPair.str_tuple (fin _)
    · exact IsiPair.str_list (fin _)
    · exact IsiPair.str_str (fin s.toks)
  | non =>
    cases ru
    cases hT <;> (subst hi)
    · exact IsiPair.NoneType_int (fin _)
    · exact IsiPair.NoneType_bool (fin _)
    · exact IsiPair.NoneType_tuple (fin _)
    · exact IsiPair.NoneType_list (fin _)
    · exact IsiPair.NoneType_str (fin _)
  | ref a =>
    cases ru
    rcases hi with ⟨⟨xs, hq⟩, hi⟩ | ⟨⟨xs, hq⟩, hi⟩
    · obtain ⟨its, r, ⟨o, e, c, _⟩, _⟩ := I.tuple hq
      cases hT <;> (subst hi)
      · exact IsiPair.tuple_int e c (fin _)
      · exact IsiPair.tuple_bool e c (fin _)
      · exact IsiPair.tuple_tuple e c (fin s.toks)
      · exact IsiPair.tuple_list e c (fin _)
      · exact IsiPair.tuple_str e c (fin _)
    · obtain ⟨its, r, pl, _⟩ := I.list hq
      obtain ⟨o, e, c, _⟩ := pl.isList
      cases hT <;> (subst hi)
      · exact IsiPair.list_int e c (fin _)
      · exact IsiPair.list_bool e c (fin _)
      · exact IsiPair.list_tuple e c (fin _)
      · exact IsiPair.list_list e c (fin s.toks)
      · exact IsiPair.list_str e c (fin _)
  | byt _ => exact hi.elim
  | flt _ => exact hi.elim
  | ty _ => exact hi.elim
theorem bits_script {ns : List Int} (h : WData.layableAll [WData.list (ns.map WData.int)] = true) : ∀ n ∈ ns, Builtin.Int.intBits n ≤ 2 ^ 20 := by
  intro n hn
  have h0 := layableW_arg h _ (List.mem_singleton.mpr rfl)
  obtain ⟨h1, h2, h3⟩ := layableW_iff.mp h0
  simp only [WData.canLay] at h1
  simp only [WData.weight] at h3
  obtain ⟨_, _, c⟩ := items_part (d := WData.int n) (List.mem_map.mpr ⟨n, hn, rfl⟩) h1
  have h4 : (WData.int n).weight ≤ 2 ^ 20 := Nat.le_trans c h3
  simpa only [WData.weight, Builtin.Int.intBits] using h4
open Att in
theorem walk_ofB {l : PySem.W.OpenLaw} {n k : Nat} {q : Program} {loose : List Str} {XP : (Str → Option Value) → Heap → Prop} {YP : World → Heap → Prop} {d : DefRec} {K : Params → PySem.W.Frag} {CX : World → CXT} {sp : World → Sp} {x : Str}
    (hn : l.most = some n) (hn2 : n ≤ sizeLine) (hdf : d.params.defaults = []) (hr : Room k callerA)
    (hY : ∀ (w : World) (h : Heap), YP w h → (K w.params).In h)
    (F : ∀ (w : World) (mg : Str → Option Value) (fa : Addr) (h : Heap), (K w.params).In h → h.Ns mainGlobals mg → mg d.name = some (.ref fa) →
      ∃ fd : FuncData, (∀ (s : Shared) (u : Value), BindsTo s fd ⟨[u], []⟩ [(x, u)]) ∧
        ∀ base : Heap, (K w.params).In base → base.Ns mainGlobals mg → FnOk l.prog w (K w.params) mg base (CX w) k fa fd [x] (sp w))
    (hsp : ∀ (w : World) (H : Hp) (a : Addr) (ns : List Int), ns.length ≤ n → (∀ m ∈ ns, Builtin.Int.intBits m ≤ 2 ^ 20) → SqL (K w.params) H a (ns.map V.int) → sp w [.ref a] H (fun v _ => v = .bl true) fun _ _ _ => False)
    (hCX : ∀ (w : World) (H : Hp) (s : Shared) (e : Value) (s' : Shared), CX w [] H s (fun _ _ _ => False) e s' → False) :
    PySem.W.WalkO q loose XP YP l.row.toRowW d [] (fun f vs => PySem.call f vs) := by
  intro w s₀ s₁ mg mb G Y fa o pm cd doc dV kV ho hd hcd hD hmg hg args vals as hpre hlay hrd hwl hlo
  obtain rfl : dV = .none := Dflts.none hD hdf
  obtain rfl : kV = .none := Dflts.noKw hD
  obtain ⟨a, vs, ns, rfl, rfl, hobj, hints, hlen⟩ := script_of hn hpre hwl
  have KX := hY w _ Y
  obtain ⟨fd, hb, hF⟩ := F w mg fa _ KX G.T.g hmg
  refine enter_call (codeAny_mono (law_call KX G.T.g G.T.b G.T.builtins G.T.nolimit hg hobj hints (Nat.le_trans hlen hn2) hr hF hb (fun H hO hS => hsp w H a ns hlen (bits_script hlay) hS) fun H e s' => hCX w H s₁ e s') fun r s' hq => ?_)
  obtain ⟨rfl, h2, h3, h4⟩ := hq
  exact ⟨.inl ⟨.bool true, .bool true, [], rfl, fun _ => rfl, .bool true, post_true l _, fun _ => ⟨List.Pairwise.nil, fun _ hm => (nomatch hm)⟩⟩, h2, h3, h4⟩
section
variable {prog : Program} {w : World} {A : Around} {R : Result → Shared → Prop} {I : Addr} {fp wr : List Addr} {n : Nat} {P : Nat → Value → Prop} {St : Nat → Heap → Prop}
end
section
variable {prog : Program} {w : World} {A : Around} {E : Value → Shared → Prop} {s : Shared} {l : Addr} {xs : Array (Int × Tok)}
end
section
variable {X : Cx}
end
end L2
namespace L2
open PySem PySem.Spec PySem.Calls PyProof.Rows PySem.W
theorem ObjOk.ex {P : Program} {w : World} {H : Hp} {h : Heap} {a : Addr} {o : HO} (x : ObjOk P w H h a o) : ∃ ob, h.get? a = some ob := by
  cases o with
  | lst xs => obtain ⟨_, _, _, _, e⟩ := x; exact ⟨_, e⟩
  | tup xs => obtain ⟨_, _, _, ob, e, _⟩ := x; exact ⟨_, e⟩
  | dK kvs => obtain ⟨_, _, _, _, o, _, _, e, _⟩ := x; exact ⟨_, e⟩
  | dT kvs => obtain ⟨_, _, _, _, o, _, _, e, _⟩ := x; exact ⟨_, e⟩
  | set S n => obtain ⟨o, _, _, _, e, _⟩ := x; exact ⟨_, e⟩
  | ins C dx fs => obtain ⟨_, _, _, e, _⟩ := x; exact ⟨_, e⟩
  | own y => exact x
  | xd fs => obtain ⟨_, ⟨_, _, _, e, _⟩, _⟩ := x; exact ⟨_, e⟩
  | rng lo hi => obtain ⟨_, _, _, e⟩ := x; exact ⟨_, e⟩
  | frz ob u => exact ⟨_, x.1⟩
  | tbl ps => exact ⟨_, x⟩
  | met f y => exact ⟨_, x⟩
  | ext φ => exact x.2.1
noncomputable def CXe (P : Program) (w : World) (C : Addr) : CXT := fun outer H s E ev s' => ∃ (e : Addr) (H' : Hp) (B : Heap) (a0 : Value), ev = .ref e ∧ E (.ref C) none H' ∧ s'.os = s.os ∧ AllBare s'.gens ∧ Un (frs outer) [] H H' s.heap s'.heap ∧ HOk P w H' s'.heap ∧
  (∀ b, b ∉ frs outer → ((∃ o, s.heap.get? b = some o) ∨ H' b ≠ none) → ∃ o, B.get? b = some o) ∧ Heap.FlyingW B outer e (.ref C) a0 s'.heap
theorem un_up {fs : List Addr} {H H' : Hp} {h h1 h2 B : Heap} (u : Un fs [] H H' h h1) (c : ∀ b, b ∉ fs → ((∃ o, h.get? b = some o) ∨ H' b ≠ none) → ∃ o, B.get? b = some o) (b1 : B.StaysIn h1) (b2 : B.StaysIn h2) (up : h1.UpToSlots h2)
    (fr : ∀ b ∈ fs, ∃ o, h1.get? b = some o ∧ ∀ vs, o.data ≠ .fields vs) : Un fs [] H H' h h2 where
  keep := fun b o e n hb hx => by
    have e1 := u.keep b o e n hb hx
    obtain ⟨o', eB⟩ := c b hb (.inl ⟨o, e⟩)
    have e2 := b1 b o' eB
    rw [e1] at e2
    cases e2
    exact b2 b o eB
  slot := fun b o e n hb hx => by
    obtain ⟨sl, e1⟩ := u.slot b o e n hb hx
    obtain ⟨o', e', nf⟩ := fr b hb
    rw [e1] at e'
    cases e'
    obtain ⟨sl2, e2⟩ := up b _ e1 nf
    exact ⟨sl2, e2⟩
  free := u.free
  there := fun b o e hx => by
    by_cases hb : b ∈ fs
    · obtain ⟨o', e', nf⟩ := fr b hb
      obtain ⟨sl, e2⟩ := up b _ e' nf
      exact ⟨_, e2⟩
    · obtain ⟨o', eB⟩ := c b hb (.inl ⟨o, e⟩)
      exact ⟨o', b2 b o' eB⟩
  tups := u.tups
  frzs := u.frzs
  tbls := u.tbls
theorem hok_up {P : Program} {w : World} {fs : List Addr} {H' : Hp} {h h1 h2 B : Heap} (x : HOk P w H' h1) (c : ∀ b, b ∉ fs → ((∃ o, h.get? b = some o) ∨ H' b ≠ none) → ∃ o, B.get? b = some o) (b1 : B.StaysIn h1) (b2 : B.StaysIn h2) (ff : ∀ b ∈ fs, H' b = none) : HOk P w H' h2 := fun b ob e => by
  refine (x b ob e).stay (fun d u hd q => ?_) (fun _ q => q) fun _ _ q => q
  have hn : H' d ≠ none := by
    rcases hd with rfl | hd
    · rw [e]; exact fun z => nomatch z
    · rw [hd]; exact fun z => nomatch z
  obtain ⟨o', eB⟩ := c d (fun z => hn (ff d z)) (.inr hn)
  have e2 := b1 d o' eB
  rw [q] at e2
  cases e2
  exact b2 d u eB
theorem frames_there {h B : Heap} {l : List Env} (f : h.FunFrames B l) : ∀ b ∈ frs l, ∃ o, h.get? b = some o ∧ ∀ vs, o.data ≠ .fields vs := fun b hb => (f.mem hb).2
section
variable {P : Program} {w : World} {K : PySem.W.Frag} {mg : Str → Option Value} {base : Heap} {N : List Str} {qual : Str} {scope : Scope} {f : Addr} {cd : Value} {A : Around} {outer : List Env} {s₀ : Shared} {H₀ : Hp} {E : XK} {C : Addr}
  {pins : List (Addr × Obj)} {σ : St} {H : Hp} {s : Shared}
noncomputable abbrev cxE (P : Program) (w : World) (C : Addr) (K : PySem.W.Frag) (mg : Str → Option Value) (base : Heap) (N : List Str) (qual : Str) (scope : Scope) (f : Addr) (cd : Value) (A : Around) (outer : List Env) (s : Shared) (H : Hp) (E : XK) : Cx := cxOf (CXe P w C) P w K mg base N qual scope f cd A outer s H E
theorem old_ne (I : Inv (cxE P w C K mg base N qual scope f cd A outer s₀ H₀ E) pins σ H s) {b : Addr} {o : Obj} (e : s₀.heap.get? b = some o) (hb : b ∉ frs outer) : b ∉ frs (envOfC qual scope s₀.heap.objs.size f cd :: outer) := fun z => by
  have z' : b ∈ (envOfC qual scope s₀.heap.objs.size f cd :: outer).filterMap (·.frame) := z
  obtain ⟨env, he, hf⟩ := List.mem_filterMap.mp z'
  rcases List.mem_cons.mp he with rfl | he
  · have : s₀.heap.objs.size = b := Option.some.inj hf
    exact absurd (Heap.lt_size e) (by rw [← this]; exact Nat.lt_irrefl _)
  · exact hb (List.mem_filterMap.mpr ⟨env, he, hf⟩)
theorem throws {e : Addr} {h' : Heap} {args : List Value} (I : Inv (cxE P w C K mg base N qual scope f cd A outer s₀ H₀ E) pins σ H s) (hx : Heap.MadeExcOf s.heap h' e (.ref C) args) (q : E (.ref C) none H) :
    (cxE P w C K mg base N qual scope f cd A outer s₀ H₀ E).xe (.ref e) { s with heap := h' } := by
  show wpAny _ _ (leaving (envOfC qual scope s₀.heap.objs.size f cd) (.ref e)) _ _ _
  have ff : s.heap.FunFrames base (envOfC qual scope s₀.heap.objs.size f cd :: outer) := I.stack
  have sf : ∀ b ∈ frs (envOfC qual scope s₀.heap.objs.size f cd :: outer), H b = none := I.stkFree
  refine wpAny_leaves_madeW (base := hideAll s.heap (frs (envOfC qual scope s₀.heap.objs.size f cd :: outer))) I.ok.frames rfl (fun b o z => of_hideAll _ z) (funFrames_hide ff fun env he b hb => List.mem_filterMap.mpr ⟨env, he, hb⟩) hx fun h'' t fl tu nt up => ?_
  have st : (hideAll s.heap (frs (envOfC qual scope s₀.heap.objs.size f cd :: outer))).StaysIn s.heap := fun b o z => of_hideAll _ z
  have hc : ∀ b, b ∉ frs outer → ((∃ o, s₀.heap.get? b = some o) ∨ H b ≠ none) → ∃ o, (hideAll s.heap (frs (envOfC qual scope s₀.heap.objs.size f cd :: outer))).get? b = some o := fun b hb z => by
    rcases z with ⟨o, e0⟩ | z
    · obtain ⟨o', e1⟩ := I.base.there b o e0 (by intro z; cases z)
      exact ⟨o', hideAll_get _ e1 (old_ne I e0 hb)⟩
    · cases eH : H b with
      | none => exact absurd eH z
      | some ob =>
        obtain ⟨o', e1⟩ := (I.hok b ob eH).ex
        exact ⟨o', hideAll_get _ e1 fun y => z (sf b y)⟩
  have up2 : s.heap.UpToSlots h'' := (Heap.UpToSlots.of_keeps hx.keeps).trans up
  refine ⟨e, H, _, .ref t, rfl, q, I.os, I.bare, un_up I.base hc st fl.1 up2 fun b hb => ?_, hok_up I.hok hc st fl.1 fun b hb => ?_, hc, fl⟩
  · exact frames_there ff b (List.mem_filterMap.mpr (let ⟨env, he, hf⟩ := List.mem_filterMap.mp hb; ⟨env, List.mem_cons_of_mem _ he, hf⟩))
  · exact sf b (List.mem_filterMap.mpr (let ⟨env, he, hf⟩ := List.mem_filterMap.mp hb; ⟨env, List.mem_cons_of_mem _ he, hf⟩))
theorem passesE : Passes (CXe P w C) (cxE P w C K mg base N qual scope f cd A outer s₀ H₀ E) E := by
  intro pins σ H s ev s' I h
  obtain ⟨e, H', B, a0, rfl, q, os, bare, un, hok, hc, fl⟩ := h
  show wpAny _ _ (leaving (envOfC qual scope s₀.heap.objs.size f cd) (.ref e)) _ _ _
  refine wpAny_leaves_onW (M := model P w) I.ok.frames rfl fl fun h'' fl2 up => ?_
  have un' : Un (frs (envOfC qual scope s₀.heap.objs.size f cd :: outer)) [] H H' s.heap s'.heap := un
  have sub : ∀ b ∈ frs outer, b ∈ frs (envOfC qual scope s₀.heap.objs.size f cd :: outer) := fun b hb => List.mem_filterMap.mpr (let ⟨env, he, hf⟩ := List.mem_filterMap.mp hb; ⟨env, List.mem_cons_of_mem _ he, hf⟩)
  have hc' : ∀ b, b ∉ frs outer → ((∃ o, s₀.heap.get? b = some o) ∨ H' b ≠ none) → ∃ o, B.get? b = some o := fun b hb z => by
    rcases z with ⟨o, e0⟩ | z
    · obtain ⟨o', e1⟩ := I.base.there b o e0 (by intro z; cases z)
      exact hc b (old_ne I e0 hb) (.inl ⟨o', e1⟩)
    · refine hc b (fun y => ?_) (.inr z)
      obtain ⟨o1, e1, _⟩ := frames_there (show s.heap.FunFrames base (envOfC qual scope s₀.heap.objs.size f cd :: outer) from I.stack) b y
      exact z (un'.free b o1 e1 (I.stkFree b y) (by intro z; cases z))
  have big : Un (frs outer) [] H₀ H' s₀.heap s'.heap := by
    refine ⟨fun b o e0 n hb hx => ?_, fun b o e0 n hb hx => ?_, fun b o e0 n hx => ?_, fun b o e0 hx => ?_, fun b xs e0 => un'.tups b xs (I.base.tups b xs e0), fun b o u e0 => un'.frzs b o u (I.base.frzs b o u e0), fun b ps e0 => ?_⟩
    · exact un'.keep b o (I.base.keep b o e0 n hb hx) (I.base.free b o e0 n hx) (old_ne I e0 hb) hx
    · obtain ⟨sl, e1⟩ := I.base.slot b o e0 n hb hx
      obtain ⟨sl2, e2⟩ := un'.slot b _ e1 (I.base.free b o e0 n hx) (sub b hb) hx
      exact ⟨sl2, e2⟩
    · obtain ⟨o', e1⟩ := I.base.there b o e0 hx
      exact un'.free b o' e1 (I.base.free b o e0 n hx) hx
    · obtain ⟨o', e1⟩ := I.base.there b o e0 hx
      exact un'.there b o' e1 hx
    · obtain ⟨m1, e1⟩ := I.base.tbls b ps e0
      obtain ⟨m2, e2⟩ := un'.tbls b _ e1
      exact ⟨m1 ++ m2, by rw [e2, Array.append_assoc]⟩
  refine ⟨e, H', B, a0, rfl, q, os.trans I.os, bare, un_up big hc' fl.1 fl2.1 up fun b hb => frames_there fl.2.2.1 b (sub b hb), hok_up hok hc' fl.1 fl2.1 fun b hb => ?_, hc', fl2⟩
  obtain ⟨o1, e1, _⟩ := frames_there (show s.heap.FunFrames base (envOfC qual scope s₀.heap.objs.size f cd :: outer) from I.stack) b (sub b hb)
  exact un'.free b o1 e1 (I.stkFree b (sub b hb)) (by intro z; cases z)
end
end L2
namespace L2
open PySem PySem.Spec PySem.Calls PyProof.Rows PySem.W
noncomputable abbrev Cx.suite (X : Cx) (e : Addr) : Cx := { X with A := X.A.mark (some (.ref e)), calm := false, xe := fun _ _ => False }
theorem Cx.Ok.suite {X : Cx} (ok : X.Ok) (e : Addr) : (X.suite e).Ok :=
  ⟨ok.mod, ok.kind, ok.glob, ok.blt, ok.above, ok.inj, ok.has, ok.cab, (fun z => nomatch z), ok.frames, ok.stk, ok.exf, ok.bs, ok.bsz, ok.noex, ok.exfs, ok.funs, ok.frf⟩
section
variable {X : Cx} {pins : List (Addr × Obj)} {σ : St} {H H' : Hp} {s : Shared} {e : Addr}
theorem Inv.suite (I : Inv X pins σ H s) (e : Addr) : Inv (X.suite e) pins σ H s := ⟨I.ok.suite e, I.os, I.bare, I.base, I.loc, I.cell, I.free, I.freeC, I.pin, I.hok, I.len⟩
theorem Inv.unsuite (ok : X.Ok) (I : Inv (X.suite e) pins σ H s) : Inv X pins σ H s := ⟨ok, I.os, I.bare, I.base, I.loc, I.cell, I.free, I.freeC, I.pin, I.hok, I.len⟩
theorem Un.track {fs : List Addr} {h h' : Heap} {o : HO} (u : Un fs [] H H' h h') (hn : h.get? e = none) (he : H' e = none) : Un fs [] H (upd H' e o) h h' where
  keep := u.keep
  slot := u.slot
  free := fun b ob q n hx => by
    have ne : b ≠ e := fun z => by rw [z, hn] at q; cases q
    rw [upd_ne ne]
    exact u.free b ob q n hx
  there := u.there
  tups := fun b xs q => by have := u.tups b xs q; rw [upd_ne (ne_of_none this he)]; exact this
  frzs := fun b ob v q => by have := u.frzs b ob v q; rw [upd_ne (ne_of_none this he)]; exact this
  tbls := fun b ps q => by
    obtain ⟨m, e1⟩ := u.tbls b ps q
    exact ⟨m, by rw [upd_ne (ne_of_none e1 he)]; exact e1⟩
theorem HOk.track {P : Program} {w : World} {h : Heap} {o : HO} (x : HOk P w H' h) (he : H' e = none) (new : ObjOk P w (upd H' e o) h e o) : HOk P w (upd H' e o) h := fun b u q => by
  by_cases hb : b = e
  · subst hb; rw [upd_same] at q; cases q; exact new
  · rw [upd_ne hb] at q
    exact (x b u q).stay (fun _ _ _ q => q) (fun c q => by rw [upd_ne (ne_of_none q he)]; exact q) fun c xs q => by rw [upd_ne (ne_of_none q he)]; exact q
noncomputable def excO (e C : Addr) : HO := .ext fun h => ∃ ob, h.get? e = some ob ∧ ob.cls = .ref C
theorem unbind_ok {M : Model} {A : Around} {E : Value → Shared → Prop} {i : Nat} {x : Str} {v : V} {Q : Unit → Shared → Prop} (I : Inv X pins σ H s) (hN : X.N.Nodup) (hi : X.N[i]? = some x) (hk : X.env.scope.names.lookup x = some .local) (hv : σ[i]? = some (some v))
    (h : ∀ s', Inv X pins (σ.set i none) H s' → Q () s') : wpAny M A (unbindName X.env x) Q E s := by
  obtain ⟨m, hn, hl⟩ := id I.loc
  have hcls : (X.env.scope.kind == .class || (X.env.scope.kind == .module && X.env.locals != X.env.globals)) = false := by rw [I.ok.kind]; rfl
  have cne := I.cne
  obtain ⟨u, _, lk⟩ := hl i x v hi hv (.inl hk)
  have hm : m x = some u := by
    rcases lk with ⟨_, z⟩ | ⟨z, _⟩
    · exact z
    · rcases z with z | z
      · have := (show X.env.scope.names.lookup x = some .cell from z); rw [hk] at this; cases this
      · have := (show X.env.scope.names.lookup x = some .free from z); rw [hk] at this; cases this
  have hiσ : i < σ.length := by rw [I.len]; exact (List.getElem?_eq_some_iff.mp hi).1
  have tracked : ∀ {a : Addr} {h' : Heap}, (∃ o, s.heap.get? a = some o ∧ H a = none) → Heap.SameBut a s.heap h' → HOk X.prog X.w H h' := fun {a h'} ha hs => HOk.but I.hok ha.choose_spec.2 hs
  refine wpAny_unbindName_local hk hn hm hcls fun h' u' hn' hs => ?_
  obtain ⟨oL, _, _, hoL, _⟩ := id hn
  refine h _ ⟨I.ok, I.os, I.bare, ⟨fun b o e n hb hx => ?_, fun b o e n hb hx => ?_, I.base.free, fun b o e hx => ?_, I.base.tups, I.base.frzs, I.base.tbls⟩, ⟨_, hn', fun j y v' e1 e2 e3 => ?_⟩, fun y c e => ?_, I.free, I.freeC, fun p hp => ?_, tracked ⟨oL, hoL, I.free⟩ hs, by simpa using I.len⟩
  · exact (hs.2 b (Nat.ne_of_lt (Nat.lt_of_lt_of_le (Heap.lt_size e) I.ok.above))).trans (I.base.keep b o e n hb hx)
  · obtain ⟨sl, e1⟩ := I.base.slot b o e n hb hx
    exact ⟨sl, (hs.2 b (Nat.ne_of_lt (Nat.lt_of_lt_of_le (Heap.lt_size e) I.ok.above))).trans e1⟩
  · obtain ⟨o', e1⟩ := I.base.there b o e hx
    exact ⟨o', (hs.2 b (Nat.ne_of_lt (Nat.lt_of_lt_of_le (Heap.lt_size e) I.ok.above))).trans e1⟩
  · by_cases hj : j = i
    · subst hj
      rw [List.getElem?_set_self hiσ] at e2
      cases e2
    · rw [List.getElem?_set_ne (Ne.symm hj)] at e2
      obtain ⟨w', r', q⟩ := hl j y v' e1 e2 e3
      refine ⟨w', r', ?_⟩
      rcases q with ⟨k, e⟩ | ⟨k, c, e, z⟩
      · refine .inl ⟨k, ?_⟩
        have : y ≠ x := fun e => hj (nodup_ix hN e1 (e ▸ hi))
        simp [this, e]
      · exact .inr ⟨k, c, e, z.sameBut hs (cne y c e)⟩
  · obtain ⟨w', z⟩ := I.cell y c e
    exact ⟨w', z.sameBut hs (cne y c e)⟩
  · obtain ⟨e, n, ne, nf, d⟩ := I.pin p hp
    exact ⟨(hs.2 p.1 ne).trans e, n, ne, nf, d⟩
end
noncomputable def IsA (K : PySem.W.Frag) (C D : Addr) : Prop := ∀ (M : Model) (A : Around) (E : Value → Shared → Prop) (s : Shared) (e : Addr) (ob : Obj) (Q : Bool → Shared → Prop), K.In s.heap → s.heap.get? e = some ob → ob.cls = .ref C → Q true s → wpAny M A (excMatches (.ref e) (.ref D)) Q E s
section
variable {X : Cx} {k : Nat} {f C D : Addr} {fd : FuncData} {ps : List Str} {sp : Sp} {g x n c : Str} {p np pc pn cpos epos hpos apos pos : Pos} {a : Expr} {es : List Expr} {t : TA} {i j : Nat}
theorem ps_tryAs (hxe : X.xe = fun _ _ => False) (hst : X.stack = X.env :: X.outer) (hfm : X.env.frame = some X.env.locals) (F : FnOk X.prog X.w X.K X.mg X.base (CXe X.prog X.w C) k f fd ps sp) (hr : Room k X.A) (hm : X.mg g = some (.ref f)) (hk : PySem.W.keepIn X.K (.ref f) = true) (hb : Binds X.K fd ps [])
    (hmx : X.mg x = some (.ref D)) (hCD : IsA X.K C D) (hN : X.N.Nodup) (ha : PA X (a :: es) t) (hi : X.N[i]? = some c) (hj : X.N[j]? = some n) (hij : i ≠ j) (hic : X.env.scope.names.lookup c = some .local) (hjn : X.env.scope.names.lookup n = some .local)
    (hg : autoParam (Gl X g) L2.aRfl._auto_1) (hgx : autoParam (Gl X x) L2.aRfl._auto_1) (hdb : autoParam ((g == ("__debug__" : Str)) = false) L2.aDec._auto_1) (hdx : autoParam ((x == ("__debug__" : Str)) = false) L2.aDec._auto_1) (hdn : autoParam ((n == ("__debug__" : Str)) = false) L2.aDec._auto_1) (hcd : autoParam ((n == ("__classdict__" : Str)) = false) L2.aDec._auto_1)
    (he : autoParam (starEach (a :: es) X.env = (false, eval a X.env) :: starEach es X.env) L2.aRfl._auto_1) (hpl : autoParam ((backTo cpos (starEach es X.env)).any (·.1) = false) L2.aRfl._auto_1) (hs : autoParam (swapsWith (.Call (.Name g p) (a :: es) [] cpos) none epos.line X.env = pure false) L2.aRfl._auto_1) :
    PS X (.Try [.Expr (.Call (.Name g p) (a :: es) [] cpos) epos] [.ExceptHandler (some (.Name x np)) (some n) [.Assign [.Name c pc] (.Name n pn) apos] hpos] [] [] pos)
      (fun D σ H => t σ H fun vs H1 => sp vs H1 (fun _ H2 => D.nx σ H2) (fun _ _ H2 => ∀ e, H2 e = none → D.nx (((σ.set j (some (.ref e))).set i (some (.ref e))).set j none) (upd H2 e (excO e C)))) := by
  intro pins s σ H Ds I h
  refine wpAny_Try_except (wpAny_execs_cons (wpAny_Expr_any ?_ I.quiet hs))
  refine wpAny_Call_Name_kw (ld_glob I hg hm ?_ hdb)
  refine PySem.W.callWith_K (h₀ := X.base) I.ok.mod.kin hk (wpAny_mono (ha cpos pins s σ H _ I h) (fun us s1 ⟨vs, H1, I1, r, q⟩ => ⟨I1.kIn, ?_⟩) fun ev s1 z => by rw [hxe] at z; exact z.elim) he hpl
  have hl : us.length = ps.length := by rw [← r.length]; exact F.len _ _ _ _ q
  have bd := hb s1 us I1.kIn (by rw [List.append_nil]; exact hl)
  rw [List.append_nil] at bd
  refine wpAny_call (codeAny_mono (F.run X.A X.stack s1 H1 ⟨us, []⟩ us vs _ _ hr I1.env0 bd r q) fun rr s' hq => ?_)
  cases rr with
  | ok fl =>
    cases fl with
    | ret u =>
      obtain ⟨v, H', I', r', q'⟩ := I1.after hq
      exact wpAny_execs_nil (wpAny_execs_nil ⟨σ, H', I', q'⟩)
    | next => exact False.elim hq
    | brk => exact False.elim hq
    | cont => exact False.elim hq
  | error ev =>
    obtain ⟨e, H', B, a0, rfl, q, os, bare, un, hok, hc, fl⟩ := hq
    have fr1 := frames_there I1.stack
    have fH' : ∀ b ∈ frs X.stack, H' b = none := fun b hb => by
      obtain ⟨o1, e1, _⟩ := fr1 b hb
      exact un.free b o1 e1 (I1.stkFree b hb) (by intro z; cases z)
    have inv_at : ∀ h2 : Heap, B.StaysIn h2 → s'.heap.UpToSlots h2 → Inv X pins σ H' { s' with heap := h2 } := fun h2 b2 up =>
      I1.call' (ch := []) os (un_up un hc fl.1 b2 up (frames_there fl.2.2.1)) (hok_up hok hc fl.1 b2 fH') bare (fun b z => absurd z (by simp))
    have fl' : Heap.FlyingW B (X.env :: X.outer) e (.ref C) a0 s'.heap := hst ▸ fl
    have hfr : X.A.frames = some (X.env :: X.outer) := hst ▸ I.ok.frames
    refine wpAny_looks_onW hfr hfm fl' fun h4 held up4 => ?_
    refine wpAny_landsW held fun h5 fl5 up5 => ?_
    have I5 := inv_at h5 fl5.1 (up4.trans up5)
    refine wpAny_handleBy_cons (codeAny_handlers_test (ld_glob (I5.suite e) hgx hmx ?_ hdx)) (by intro z; cases z)
    obtain ⟨ob, hob, hobc⟩ := fl5.there
    refine hCD _ _ _ { s' with heap := h5 } e ob _ I5.kIn hob hobc (codeAny_handlers_suite_as ?_)
    refine lands_againW fl5 fun h6 fl6 up6 => ?_
    have hBe : B.get? e = none := fl.2.1
    have oldE : s1.heap.get? e = none := by
      cases q1 : s1.heap.get? e with
      | none => rfl
      | some o =>
        exfalso
        by_cases hf : e ∈ frs X.stack
        · obtain ⟨o1, e1, nf⟩ := frames_there fl.2.2.1 e hf
          obtain ⟨oe, ws, he1, _, hed, _⟩ := fl.first
          rw [e1] at he1
          cases he1
          exact nf _ hed
        · obtain ⟨o2, e2⟩ := hc e hf (.inl ⟨o, q1⟩)
          rw [hBe] at e2
          cases e2
    have newE : H' e = none := by
      cases q1 : H' e with
      | none => rfl
      | some o =>
        exfalso
        obtain ⟨o2, e2⟩ := hc e (fun z => by rw [fH' e z] at q1; cases q1) (.inr (by rw [q1]; simp))
        rw [hBe] at e2
        cases e2
    have I6 : Inv X pins σ (upd H' e (excO e C)) { s' with heap := h6 } := I1.call' (ch := []) os (Un.track (un_up un hc fl.1 fl6.1 ((up4.trans up5).trans up6) (frames_there fl.2.2.1)) oldE newE)
      (HOk.track (hok_up hok hc fl.1 fl6.1 fH') newE ⟨fl6.there, (let ⟨o, z, _⟩ := fl6.there; ⟨o, z⟩), fun h1 h2 ⟨o, z, c⟩ k => ⟨o, k o z, c⟩⟩) bare (fun b z => absurd z (by simp))
    have hjσ : j < σ.length := by rw [I.len]; exact (List.getElem?_eq_some_iff.mp hj).1
    refine store_ok I6 hN hj (.inl hjn) (v := .ref e) rfl (fun s7 I7' => ?_) (.inr hjn)
    have I7 := I7'.suite e
    have P := pss_one (ps_set (X := X.suite e) (i := i) (pos := apos) (pos' := pc) hN hi (.inl hic) (pe_var (pos := pn) hj (.inl hjn) hdn hcd) rfl (.inr hic))
    refine wpAny_mono (P pins s7 _ _ { nx := fun σ' H2 => σ' = (σ.set j (some (.ref e))).set i (some (.ref e)) ∧ H2 = upd H' e (excO e C), rt := fun _ _ => False } I7 ⟨.ref e, by rw [List.getElem?_set_self hjσ], rfl, rfl⟩) (fun fl8 s8 h8 => ?_) (fun _ _ z => z.elim)
    cases fl8 with
    | ret u => obtain ⟨_, _, _, _, _, z⟩ := h8; exact z.elim
    | brk => obtain ⟨_, _, _, z⟩ := h8; exact z.elim
    | cont => obtain ⟨_, _, _, z⟩ := h8; exact z.elim
    | next =>
      obtain ⟨σ8, H8, I8, rfl, rfl⟩ := h8
      have I8' := I8.unsuite I.ok
      show wpAny _ _ (bindName X.env n Value.none >>= fun _ => unbindBehindTheSuite X.env n hpos) _ _ _
      refine wpAny_bind ?_
      unfold bindName
      refine wpAny_bind (wpAny_holding (wpAny_point ?_))
      refine wpAny_bind (store_ok I8' hN hj (.inl hjn) (v := .non) rfl (fun s9 I9 => wpAny_point ?_) (.inr hjn))
      unfold unbindBehindTheSuite
      have hjσ' : j < (((σ.set j (some (.ref e))).set i (some (.ref e))).set j (some V.non)).length := by simp; exact hjσ
      refine wpAny_onRaise (unbind_ok I9 hN hj hjn (v := .non) (by rw [List.getElem?_set_self (by simp; exact hjσ)]) fun s10 I10 => ?_)
      rw [List.set_set] at I10
      exact ⟨_, _, I10, q e newE⟩
end
end L2
namespace L2
open PySem PySem.Spec PySem.Calls PyProof.Rows PySem.W
structure ExcIn (K : Frag) (C : Addr) : Prop where
  ga : findIn K (.ref C) "__getattribute__" = some (some (.builtin "BaseException.__getattribute__"))
  gn : findIn K (.ref C) "__getattr__" = some none
  cl : findIn K (.ref C) "__class__" = some (some (.builtin "object.__class__"))
  mo : mroIn K C (.type "object") = some true
  mb : mroIn K C (.type "BaseException") = some true
section
variable {prog : Program} {w : World} {A : Around} {E : Value → Shared → Prop} {h : Heap} {g : Array GenState} {d : Drawn} {t : Nat} {os : OsState} {a C : Addr} {o : Obj} {K : Frag}
theorem ex_type {M : Model} (hx : h.get? a = some o) (hc : o.cls = .ref C) : Looks M h (typeOf (.ref a)) (.ref C) := hc ▸ (Looks.ld hx).andThen .now
open Builtin Builtin.ObjectAttr Builtin.Getset_descriptor in
theorem ex_get {R : Result → Shared → Prop} {tp : Value} (X : K.In h) (Z : ExcIn K C) (hx : h.get? a = some o) (hc : o.cls = .ref C) (hq : R (.ok (.ret (.ref C))) ⟨h, g, d, t, os⟩) :
    codeAny (model prog w) A (.call (.builtin "getset_descriptor.__get__") ⟨[.builtin "object.__class__", .ref a, tp], []⟩) R ⟨h, g, d, t, os⟩ := by
  have L0 := ex_type (M := model prog w) hx hc
  have L1 := looks_mroIn (M := model prog w) X Z.mo
  refine codeAny_call_builtin KF.slot_gs.plain KF.entry_gs (KF.slot_gs.check _ _ _ _ _ _ _ _ KF.type_class (KF.args_gs _ _ _) ?_)
  unfold Builtin.«getset_descriptor.__get__» descrGet
  rw [dga_obj]
  refine wpAny_bind (wpAny_pure ?_)
  unfold descrGetter descrCheckInstance descrNameAndClass isInstance
  simp only [KF.owner_class]
  repeat lk
  refine ⟨Code.quiet_builtin _ (by decide +kernel), codeAny_builtin KF.entry_class ?_⟩
  unfold Builtin.«object.__class__» shownTypeOf
  repeat lk
  exact hq
theorem ex_entry {tk : Tok} {Q : Fin → Shared → Prop} (X : K.In h) (Z : ExcIn K C) (hx : h.get? a = some o) (hc : o.cls = .ref C) (hq : Q (.done (.ret (.ref C))) ⟨h, g, d, t, os⟩) :
    wpAny (model prog w) A (Builtin.«object.__getattribute__» ⟨[.ref a, .str "__class__" tk], []⟩) Q E ⟨h, g, d, t, os⟩ := by
  have L0 := ex_type (M := model prog w) hx hc
  have L1 := looks_findIn (M := model prog w) X Z.cl
  have hT5 : (⟨h, g, d, t, os⟩ : Shared).TypeIs (.builtin "object.__class__") "getset_descriptor" := F.typeOf_object_class
  have f5 := F.typeOf_object_class
  have f6 := F.slot_gs_get.lookup
  have f7 := F.slot_gs_set.lookup
  repeat (any_goals (first | assumption | (with_reducible refine wpAny_loadPart_at hx ?_; rw [hc]) | with_reducible refine Looks.at (by assumption) ?_ | wp_step))
  refine ex_get X Z hx hc ?_
  repeat (any_goals (first | assumption | wp_step))
theorem ex_call {tk : Tok} {R : Result → Shared → Prop} (X : K.In h) (Z : ExcIn K C) (hx : h.get? a = some o) (hc : o.cls = .ref C) (hq : R (.ok (.ret (.ref C))) ⟨h, g, d, t, os⟩) :
    codeAny (model prog w) A (.call (.builtin "BaseException.__getattribute__") ⟨[.ref a, .str "__class__" tk], []⟩) R ⟨h, g, d, t, os⟩ := by
  refine codeAny_call_builtin F.excAttr_ValueError.ga.plain F.entry_bexc_ga ?_
  have hk : builtinKind "BaseException.__getattribute__" = some .slot := by decide +kernel
  have hp : splitId "BaseException.__getattribute__" = some ("BaseException", "__getattribute__") := by decide +kernel
  have ha := F.args_bexc_ga (.ref a) (.str "__class__" tk)
  have L0 := ex_type (M := model prog w) hx hc
  have L1 := looks_mroIn (M := model prog w) X Z.mb
  have L2 : Looks (model prog w) h (isInstance (.ref a) (.type "BaseException")) true := L0.andThen L1
  simp only [checkBuiltinCall, hk, hp]
  refine wpAny_bind (L2.at ?_)
  repeat (first | exact ex_entry X Z hx hc hq | wp_step)
theorem ex_by {tk : Tok} {fill expr : Bool} {Q : Value → Shared → Prop} (X : K.In h) (Z : ExcIn K C) (hx : h.get? a = some o) (hc : o.cls = .ref C) (hq : Q (.ref C) ⟨h, g, d, t, os⟩) :
    wpAny (model prog w) A (getAttrBy (.ref a) (.str "__class__" tk) fill expr) Q E ⟨h, g, d, t, os⟩ := by
  have L0 := ex_type (M := model prog w) hx hc
  have L1 := looks_findIn (M := model prog w) X Z.ga
  have L2 := looks_findIn (M := model prog w) X Z.gn
  have f3 := F.excAttr_ValueError.ga.bind (.ref a)
  have hx0 : (expr && onTheHeap (Value.builtin "BaseException.__getattribute__")) = false := by cases expr <;> rfl
  have hx2 : (Value.builtin "BaseException.__getattribute__" == Value.builtin "object.__getattribute__") = false := by decide +kernel
  have hx1 : (onTheHeap (Value.ref C) && Value.builtin "BaseException.__getattribute__" == Value.builtin "object.__getattribute__") = false := by rw [hx2]; rfl
  repeat (any_goals (first | assumption | with_reducible refine Looks.at (by assumption) ?_ | wp_step))
  refine ex_call X Z hx hc ?_
  repeat (any_goals (first | assumption | wp_step))
theorem ex_attr {Q : Option Value → Shared → Prop} {s : Shared} (X : K.In s.heap) (Z : ExcIn K C) (hx : s.heap.get? a = some o) (hc : o.cls = .ref C) (hq : Q (some (.ref C)) { s with toks := s.toks + 1 }) :
    wpAny (model prog w) A (getAttr? (.ref a) "__class__") Q E s := by
  obtain ⟨h, g, d, t, os⟩ := s
  unfold getAttr? getAttrBy?
  repeat (any_goals (first | assumption | with_reducible refine ex_by X Z hx hc ?_ | wp_step))
end
end L2
namespace L2
open PySem PySem.Spec PySem.Calls PyProof.Rows PySem.W
abbrev vErr : List Value := [.type "ValueError", .type "Exception", .type "BaseException", .type "object"]
theorem cls_there {K : Frag} {C : Addr} {b : Value} {r : Bool} (e : mroIn K C b = some r) : ∃ c d cd sl, K.lookup C = some ⟨c, d, .cls cd, sl⟩ := by
  obtain ⟨cd, e1, _⟩ := Option.bind_eq_some_iff.mp e
  unfold clsIn at e1
  split at e1
  · rename_i c d cd' sl ho
    exact ⟨c, d, cd', sl, ho⟩
  · cases e1
theorem kitx_exc {K : Frag} {a C : Addr} (Z : ExcIn K C) : KitX K (.ref a) (.ref C) (fun h => ∃ o, h.get? a = some o ∧ o.cls = .ref C) where
  ty := fun M h X ⟨o, hx, hc⟩ => ex_type hx hc
  it := fun M h X _ => by
    obtain ⟨c, d, cd, sl, ho⟩ := cls_there Z.mo
    intro A Q E s k q
    unfold isType loadHead
    exact wpAny_bind (wpAny_loadPart (k _ _ (X _ _ ho)) (wpAny_pure q))
  ne := fun h tp dd its n sl X e => by
    obtain ⟨c, d, cd, sl', ho⟩ := cls_there Z.mo
    have hC := X _ _ ho
    refine beq_eq_false_iff_ne.mpr fun z => ?_
    cases z
    rw [hC] at e
    cases e
  ca := fun X ⟨o, hx, hc⟩ q => ex_attr X Z hx hc q
theorem refs_eq : ∀ {Ds : List Addr} {its : List Value}, Vals (Ds.map V.ref) its → its = Ds.map Value.ref
  | [], _, .nil => rfl
  | D :: r, _, .cons a b => by cases a; rw [List.map_cons, refs_eq b]
section
variable {X : Cx}
theorem call_isiE : CallR X (.builtin "isinstance") (fun xs H Q => ∃ (e C : Addr), H e = some (excO e C) ∧ ExcIn X.K C ∧ ((∃ D b, xs = [.ref e, .ref D] ∧ kitOne X.K (.ref C) (.ref D) = some b ∧ Q (.bl b) H) ∨ (∃ T b, xs = [.ref e, .ty T] ∧ kitOne X.K (.ref C) (.type T) = some b ∧ Q (.bl b) H) ∨
    ∃ (p : Addr) (Ds : List Addr) (b : Bool), xs = [.ref e, .ref p] ∧ H p = some (.tup (Ds.map V.ref)) ∧ kitAny X.K (.ref C) (Ds.map Value.ref) = some b ∧ Q (.bl b) H)) := by
  intro pins s σ H xs us Q I rv h
  obtain ⟨e, C, he, Z, h⟩ := h
  obtain ⟨φ, _⟩ := (show ObjOk X.prog X.w H s.heap e (excO e C) from I.hok e _ he)
  rcases h with ⟨D, b, rfl, hk, q⟩ | ⟨T, b, rfl, hk, q⟩ | ⟨p, Ds, b, rfl, hp, hk, q⟩
  · obtain ⟨u, v, rfl, ru, rT⟩ := rv.two
    cases ru
    cases rT
    exact kia_one (kitx_exc Z) I.kIn φ hk (fun z => nomatch z) fun tk => ⟨.bl b, H, I.tok tk, rfl, q⟩
  · obtain ⟨u, v, rfl, ru, rT⟩ := rv.two
    cases ru
    cases rT
    exact kia_one (kitx_exc Z) I.kIn φ hk (fun z => nomatch z) fun tk => ⟨.bl b, H, I.tok tk, rfl, q⟩
  · obtain ⟨u, v, rfl, ru, rT⟩ := rv.two
    cases ru
    cases rT
    obtain ⟨_, its, r, ob, e1, e2, e3⟩ := (show ObjOk X.prog X.w H s.heap p (.tup (Ds.map V.ref)) from I.hok p _ hp)
    have ei := refs_eq r
    subst ei
    obtain ⟨n, e3⟩ := e3
    obtain ⟨cls, dct, dat, sl⟩ := ob
    simp only at e2 e3
    subst e2 e3
    exact kia_tup (kitx_exc Z) I.kIn φ e1 hk (fun z => nomatch z) fun tk => ⟨.bl b, H, I.tok tk, rfl, q⟩
end
noncomputable def Big (i : Int) : Prop := i.natAbs < 2 ^ 4000
section
variable {X : Cx}
theorem op_fdivG : OpR X (binaryOp .FloorDiv) (rI (fun _ j => j ≠ 0 ∧ Big j) fun i j => .int (i.fdiv j)) := opI fun i j _ _ _ _ _ hc q => floordiv_int hc.1 q (.inl (PyProof.noPylong_of_log2 (Nat.lt_of_lt_of_le ((Nat.log2_lt (by have := hc.1; (clear hc; omega))).mpr hc.2) (by decide))))
end
structure ErrC (K : Frag) (mg : Str → Option Value) (x : Str) (C : Addr) : Prop where
  bound : mg x = some (.ref C)
  here : excIn K C vErr "ValueError.__new__" = true
theorem ErrC.own {K : Frag} {mg : Str → Option Value} {x : Str} {C : Addr} {h : Heap} (F : ErrC K mg x C) (X : K.In h) : OwnCls x C vErr "ValueError.__new__" mg h := by
  refine ⟨F.bound, ?_⟩
  have q := F.here
  unfold excIn at q
  split at q
  · rename_i d cd sl hl
    split at q
    · rename_i C' tl a0 a1 a2 a3 nw a5 hm hs
      simp only [Bool.and_eq_true, beq_iff_eq, Bool.not_eq_true'] at q
      obtain ⟨⟨⟨⟨⟨rfl, rfl⟩, nd⟩, ht⟩, hk⟩, hi⟩ := q
      obtain ⟨y1, y2, y3, y4, y5, y6, y7, y8, y9, y10, y11⟩ := cd
      dsimp only at hm nd hk hi
      subst hm nd
      obtain ⟨sl⟩ := sl
      simp only at hs
      subst hs
      exact ⟨tl, y4, y1, y5, y2, y6, y7, y8, y9, y10, d, a0, a1, a2, a3, a5, _, X _ _ hl, .of_isNs (isNs_of_in X hk), nsMap_none_of_in X hk hi, tail_of_in X ht⟩
    · cases q
  · cases q
section
variable {P : Program} {w : World} {K : PySem.W.Frag} {mg : Str → Option Value} {base : Heap} {N : List Str} {qual : Str} {scope : Scope} {f : Addr} {cd : Value} {A : Around} {outer : List Env} {s₀ : Shared} {H₀ : Hp} {E : XK} {C : Addr}
theorem ps_raise {x : Str} {np cpos pos : Pos} {a : Expr} {ta : TA} (F : ErrC K mg x C) (ha : PA (cxE P w C K mg base N qual scope f cd A outer s₀ H₀ E) [a] ta) (hg : autoParam (Gl (cxE P w C K mg base N qual scope f cd A outer s₀ H₀ E) x) L2.aRfl._auto_1) (hd : autoParam ((x == ("__debug__" : Str)) = false) L2.aDec._auto_1)
    (he : autoParam (starEach [a] (envOfC qual scope s₀.heap.objs.size f cd) = [(false, eval a (envOfC qual scope s₀.heap.objs.size f cd))]) L2.aRfl._auto_1) :
    PS (cxE P w C K mg base N qual scope f cd A outer s₀ H₀ E) (.Raise (some (.Call (.Name x np) [a] [] cpos)) none pos) (fun _ σ H => ta σ H fun vs H1 => vs.length ≤ 5 ∧ E (.ref C) none H1) := by
  intro pins s σ H D I h
  obtain ⟨tl, N', nm, q, bs, hdct, sn, sub, ab, col, dd, k0, k1, k2, k3, k5, mN, hC, hN, hni, T⟩ := (F.own I.ok.mod.kin).obj
  refine wpAny_Raise_call_subT (C := C) (nm := nm) (q := q) (N := N') (bs := bs) (bm := tl) (hdct := hdct) (sn := sn) (sub := sub) (ab := ab) (col := col) (dd := dd) (k0 := k0) (k1 := k1) (k2 := k2) (k3 := k3) (k5 := k5) PySem.F.excBase_ValueError (mN := mN) (T.hasType PySem.F.excBase_ValueError.hasBase) (I.ok.hd rfl)
    (by show (backTo cpos (starEach [a] (envOfC qual scope s₀.heap.objs.size f cd))).any (·.1) = false; rw [he]; rfl) hni (ld_glob I hg F.bound ⟨rfl, ?_⟩ hd)
  show wpAny _ _ (evalArgs _ _ (backTo cpos (starEach [a] (envOfC qual scope s₀.heap.objs.size f cd))) []) _ _ _
  have h2 := ha cpos pins s σ H _ I h
  have h2' : wpAny (model P w) (A.deeper (envOfC qual scope s₀.heap.objs.size f cd)) (spliced (backTo cpos (starEach [a] (envOfC qual scope s₀.heap.objs.size f cd)))) _ _ s := h2
  rw [he] at h2' ⊢
  refine Calls.evalArgs_plain (wpAny_mono h2' (fun us s2 ⟨vs, H1, I1, r, hl, q2⟩ => ?_) fun _ _ z => z)
  have bk : ∀ b o, base.get? b = some o → s2.heap.get? b = some o := fun b o e => (I1.bs b o e).1
  refine ⟨rfl, ?_, bk _ _ hC, hN.keeps bk, T.keeps bk, fun h' e hm => throws I1 hm q2⟩
  have : us.length ≤ 5 := by rw [← r.length]; exact hl
  exact Nat.le_trans this (by decide)
theorem Fun.okE {x qual : Str} {st : Stmt} {f : Addr} {fd : FuncData} {N ps : List Str} {k : Nat} {sp : Sp} (F : Fun K x qual st f fd) (S : FnScope N ps (defScope st)) (len : ∀ vs H Q E, sp vs H Q E → vs.length = ps.length)
    (hbody : ∀ (cdv : Value) (A : Around) (outer : List Env) (s : Shared) (H : Hp) (vs : List V) (Q : VK) (E : XK), Room k (A.deeper (envOfC qual (defScope st) s.heap.objs.size f cdv)) → sp vs H Q E →
      ∃ t, PSs (cxE P w C K mg base N qual (defScope st) f cdv A outer s H E) (defBody st) t ∧ t { nx := fun _ H' => Q .non H', rt := Q } (start N vs) H) : FnOk P w K mg base (CXe P w C) (k + 1) f fd ps sp := by
  obtain ⟨oc, od, kV, doc, pm, an, cdv, ct, osl, rfl, lk, hcd⟩ := F.ex
  exact fn_of lk hcd S len fun A outer s H vs Q E hr hsp => hbody cdv A outer s H vs Q E hr hsp
structure CalE (P : Program) (w : World) (K : PySem.W.Frag) (mg : Str → Option Value) (base : Heap) (C : Addr) (k : Nat) (x : Str) (ps : List Str) (sp : Sp) : Prop where
  ex : ∃ f fd, FnOk P w K mg base (CXe P w C) k f fd ps sp ∧ mg x = some (.ref f) ∧ PySem.W.keepIn K (.ref f) = true ∧ Binds K fd ps []
theorem CalE.calm {k : Nat} {x : Str} {ps : List Str} {sp : Sp} (c : CalE P w K mg base C k x ps sp) : Cal P w K mg base k x ps (fun vs H Q _ => sp vs H Q fun _ _ _ => False) := by
  obtain ⟨f, fd, F, m, kp, b⟩ := c.ex
  refine ⟨f, fd, ⟨fun vs H Q E h => F.len vs H Q _ h, fun A outer s H args us vs Q E hr he hb hv h => codeAny_mono (F.run A outer s H args us vs Q _ hr he hb hv h) fun r s' hq => ?_⟩, m, kp, b⟩
  cases r with
  | ok fl =>
    cases fl with
    | ret u => exact hq
    | next => exact False.elim hq
    | brk => exact False.elim hq
    | cont => exact False.elim hq
  | error e => obtain ⟨_, _, _, _, _, z, _⟩ := hq; exact z.elim
theorem calE_of {k : Nat} {x : Str} {st : Stmt} {N ps : List Str} {sp : Sp} (F : Fn K mg x st) (S : FnScope N ps (defScope st))
    (hb : ∀ (kV doc pm : Value) (an : Option Addr) (cdv ct : Value) (us : List Value), us.length = ps.length → bindArgs (PySem.W.fnOf x x (defArgs st) (defBody st) (defScope st) .none kV doc pm an cdv ct) ⟨us, []⟩ = pure (ps.zip us)) (len : ∀ vs H Q E, sp vs H Q E → vs.length = ps.length)
    (hbody : ∀ (f : Addr) (cdv : Value) (A : Around) (outer : List Env) (s : Shared) (H : Hp) (vs : List V) (Q : VK) (E : XK), Room k (A.deeper (envOfC x (defScope st) s.heap.objs.size f cdv)) → sp vs H Q E →
      ∃ t, PSs (cxE P w C K mg base N x (defScope st) f cdv A outer s H E) (defBody st) t ∧ t { nx := fun _ H' => Q .non H', rt := Q } (start N vs) H) : CalE P w K mg base C (k + 1) x ps sp := by
  obtain ⟨f, fd, F, m⟩ := F
  exact ⟨f, fd, Fun.okE F S len fun cdv => hbody f cdv, m, F.kp, F.binds hb⟩
end
end L2
namespace L2
open PySem PySem.Spec PySem.Calls PyProof.Rows PySem.W
theorem isA_of {K : Frag} {C D : Addr} (h1 : mroIn K C (.ref D) = some true) (h2 : mroIn K D (.type "BaseException") = some true) (h3 : typeIn K (.ref D) = some (.type "type")) : IsA K C D := by
  intro M A E s e ob Q X hx hc q
  have L0 := ex_type (M := M) hx hc
  have L1 := looks_mroIn (M := M) X h1
  have L2 := looks_mroIn (M := M) X h2
  have L3 := looks_typeIn (M := M) X h3
  have L4 : Looks M s.heap (isSubtype (.type "type") (.type "tuple")) false := Looks.of_pure tc_notTuple
  have L5 : Looks M s.heap (isInstance (.ref D) (.type "tuple")) false := L3.andThen L4
  have L6 : Looks M s.heap (isType (.ref D)) true := by
    obtain ⟨c, d, cd, sl, ho⟩ := cls_there h2
    intro A Q E s' k q
    unfold isType loadHead
    exact wpAny_bind (wpAny_loadPart (k _ _ (X _ _ ho)) (wpAny_pure q))
  unfold excMatches
  refine wpAny_bind (L5.at ?_)
  unfold isExcClass
  repeat (any_goals (first | exact q | with_reducible refine Looks.at (by assumption) ?_ | wp_step))
theorem pe_cls {X : Cx} {x : Str} {D : Addr} {pos : Pos} (hm : X.mg x = some (.ref D)) (hg : autoParam (Gl X x) L2.aRfl._auto_1) (hd : autoParam ((x == ("__debug__" : Str)) = false) L2.aDec._auto_1) : PE X (.Name x pos) (tC (.ref D)) := pe_glob (v := .ref D) hg hm rfl hd
end L2
namespace L2
open PySem PySem.Spec PyProof.Rows
section
variable {X : Cx}
end
end L2
namespace L2
open PySem PySem.Spec PyProof.Rows
noncomputable def rCatG (K : PySem.W.Frag) : R2 := fun x y H Q => ∃ a b xs ys, x = .ref a ∧ y = .ref b ∧ SqT K H a xs ∧ SqT K H b ys ∧ ys ≠ [] ∧ xs.length + ys.length ≤ sizeLine ∧ ∀ (p : Addr) (H' : Hp), Same H H' → SqT K H' p (xs ++ ys) → Q (.ref p) H'
theorem op_catG {X : Cx} : OpR X (binaryOp .Add) (rCatG X.K) := by
  intro pins s σ H x y v u Q I rx ry h
  obtain ⟨a, b, xs, ys, rfl, rfl, ha, hb, hy, hz, q⟩ := h
  by_cases hx : xs = []
  · subst hx
    cases rx
    cases ry
    obtain ⟨its, r1, p1, _⟩ := I.tuple ha
    obtain ⟨its2, r2, p2, _⟩ := I.tuple hb
    have e0 : its = [] := r1.nil_iff.mpr rfl
    subst e0
    obtain ⟨⟨c1, d1, da1, sl1⟩, ho, hc, n, hd⟩ := id p1
    obtain ⟨⟨c2, d2, da2, sl2⟩, ho2, hc2, n2, hd2⟩ := id p2
    simp only at hc hd hc2 hd2
    subst hc hd hc2 hd2
    exact concat_meets ⟨_, ho, rfl⟩ ⟨_, ho2, rfl⟩ noFill_tuple_add seq_tuple_add PySem.F.slot_tuple_add PySem.F.entry_tuple_add (PySem.F.args_tuple_add_2 _ _) (tuple_addW0 a b ([] : List Value).toArray its2.toArray n n2 d1 d2 sl1 sl2 (by simp)) ⟨ho, ho2, ⟨.ref b, H, I, rfl, q b H (Same.refl H) hb⟩⟩
  · exact op_catT pins s σ H (.ref a) (.ref b) v u Q I rx ry ⟨a, b, xs, ys, rfl, rfl, ha, hb, hx, hz, fun z => absurd z hy, fun _ p hp => q p _ (same_new' hp _) (sqT_new upd_same)⟩
theorem op_catGK {X : Cx} {K : PySem.W.Frag} (hK : X.K = K) : OpR X (binaryOp .Add) (rCatG K) := by subst hK; exact op_catG
end L2
namespace L2
open PySem PySem.W PyProof.Rows
section
variable {r : Nat → Int} {n : Nat}
end
end L2
namespace L2
open PySem PySem.Spec PySem.W PyProof.Rows
open PySem.SeqAt
section
variable {prog : Program} {w : World} {A : Around} {E : Value → Shared → Prop} {s : Shared}
end
section
variable {prog : Program} {w : World} {A : Around} {E : Value → Shared → Prop} {s : Shared}
end
end L2
namespace L2
open PySem PySem.Spec PySem.W PyProof.Rows
open PySem.SeqAt
section
variable {prog : Program} {w : World} {A : Around} {E : Value → Shared → Prop} {s : Shared}
end
section
variable {X : Cx}
end
end L2
namespace L2
open PySem PySem.Spec PyProof.Rows PySem.W
structure Tab (w : World) (K : Frag) (mg : Str → Option Value) (x : Str) (a : Addr) (f : Str → Option Value) : Prop where
  bound : mg x = some (.ref a)
  map : ∀ (P : Program) (h : Heap), K.In h → h.MapOf (strKind P w) a f
  low : (a == sysModules) = false
theorem tab_mk {w : World} {K : Frag} {mg : Str → Option Value} {x : Str} {a : Addr} {es : Array DictEntry} {n : Nat} (hb : mg x = some (.ref a)) (hl : K.lookup a = some ⟨.type "dict", none, .dict es n, #[]⟩) (hk : KeysLit w.params es.toList) (lo : (a == sysModules) = false) :
    Tab w K mg x a (fun k => findBy Value.isStrOf es k) := ⟨hb, fun P h X => mapOf_K (prog := P) X hl hk, lo⟩
noncomputable def rTab (a : Addr) (f : Str → Option Value) : R2 := fun x y H Q => ∃ s v z, x = .ref a ∧ y = .str s ∧ f s = some v ∧ RelV z v ∧ Q z H
section
variable {X : Cx}
theorem pc_tabNot {x : Str} {a : Addr} {f : Str → Option Value} {i : Expr} {ti : TE} {p : Pos} (T : Tab X.w X.K X.mg x a f) (hi : PE X i ti) (hg : autoParam (Gl X x) L2.aRfl._auto_1) (hd : autoParam ((x == ("__debug__" : Str)) = false) L2.aDec._auto_1) :
    PC X .NotIn i (.Name x p) (fun σ H Q => ti σ H fun y H1 => ∃ s, y = .str s ∧ Q (.bl (!(f s).isSome)) H1) := by
  intro pins s σ H Q I h
  refine thn (hi pins s σ H _ I h) fun iv s1 ⟨y, H1, I1, ry, z, ey, q1⟩ => thn (pe_glob (v := .ref a) hg T.bound rfl hd pins s1 σ H1 (fun v H2 => v = .ref a ∧ H2 = H1) I1 ⟨rfl, rfl⟩) fun u s2 ⟨x2, H2, I2, rx, e1, e2⟩ => ?_
  subst ey e1 e2
  cases rx
  obtain ⟨t, rfl⟩ := ry
  exact wpAny_notIn_of (knd := strKind X.prog X.w) (strKind_is X.prog X.w z t) T.low (T.map X.prog _ I2.kIn) ⟨.bl _, H2, I2.tok _, rfl, q1⟩
theorem ix_tab {x : Str} {a : Addr} {f : Str → Option Value} (T : Tab X.w X.K X.mg x a f) : IxR X (rTab a f) := by
  intro value slice pins s σ H x y v u Q I rx ry h hs
  obtain ⟨z, w', r, rfl, rfl, hf, rv, q⟩ := h
  cases rx
  obtain ⟨t, rfl⟩ := ry
  have hm := T.map X.prog _ I.kIn
  exact tail_any hm.typeIs slot_dict_getitem.lookup (wpAny_getItem_of (strKind_is X.prog X.w z t) hm hf ⟨r, H, I.tok _, rv, q⟩) hs
end
theorem bt_str : bootBuiltins "str" = some (.type "str") := by decide +kernel
end L2
namespace L2
open PySem PySem.Spec PySem.W PyProof.Rows
open PySem.SeqAt
section
variable {A : Around} {s : Shared}
end
section
variable {X : Cx}
open Classical in
open Classical in
end
end L2
namespace L2
open PySem PySem.Spec PySem.W PyProof.Rows
open PySem.SeqAt
theorem noFill_tuple_mul : fillsNumberSlot (.type "tuple") "mul" = pure false :=
  PySem.fillsNumberSlot_seq (id := "tuple.__mul__") (r := some (.builtin "tuple.__rmul__")) F.slot_tuple_mul.lookup (by decide +kernel) F.slot_tuple_rmul.lookup (by decide +kernel)
theorem repeat_tuple : seqRepeat? (.type "tuple") = pure (some (.builtin "tuple.__mul__")) := by
  unfold seqRepeat?
  rw [PySem.seqSlot_of (T := "tuple") (name := "__mul__") (id := "tuple.__mul__") F.slot_tuple_mul.lookup (by decide +kernel), PySem.seqSlot_of (T := "tuple") (name := "__rmul__") (id := "tuple.__rmul__") F.slot_tuple_rmul.lookup (by decide +kernel)]
  rfl
theorem int_rmul_tuple (a : Int) (t : Tok) (l : Addr) (items : Array Value) (n : Nat) (dd : Option Addr) (sl : Array (Option Value)) :
    Meets (Builtin.«int.__rmul__» ⟨[.int a t, .ref l], []⟩) (fun _ R s => s.heap.get? l = some { cls := .type "tuple", dict := dd, data := .seq items n, slots := sl } ∧ R (.ok (.ret Value.notImplemented)) s) :=
  .of_wp fun prog w A R s h => by obtain ⟨hp, g, d, tk, os⟩ := s; obtain ⟨hl, h⟩ := h; wp_walk; exact ⟨_, rfl, h⟩
theorem tuple_mul_same (l : Addr) (items : Array Value) (n : Nat) (dd : Option Addr) (sl : Array (Option Value)) (x : Int) (u : Tok) (h0 : ¬ ((decide (x < -(2 ^ 63)) || decide (x ≥ 2 ^ 63)) = true)) (h1 : (items.isEmpty || x == 1) = true) :
    Meets (Builtin.«tuple.__mul__» ⟨[.ref l, .int x u], []⟩) (fun _ R s => s.heap.get? l = some { cls := .type "tuple", dict := dd, data := .seq items n, slots := sl } ∧ R (.ok (.ret (.ref l))) s) :=
  .of_wp fun prog w A R s h => by
    obtain ⟨hp, g, d, tk, os⟩ := s; obtain ⟨hl, h⟩ := h
    wp_walk; refine wpAny_ite_false (decide_eq_false h0) ?_; wp_walk
    exact ⟨_, rfl, h⟩
theorem tuple_mul_none (l : Addr) (items : Array Value) (n : Nat) (dd : Option Addr) (sl : Array (Option Value)) (x : Int) (u : Tok) (h0 : ¬ ((decide (x < -(2 ^ 63)) || decide (x ≥ 2 ^ 63)) = true)) (h1 : ¬ (items.isEmpty || x == 1) = true) (h2 : (decide (x ≤ 0) || items.isEmpty) = true) :
    Meets (Builtin.«tuple.__mul__» ⟨[.ref l, .int x u], []⟩) (fun _ R s => s.heap.get? l = some { cls := .type "tuple", dict := dd, data := .seq items n, slots := sl } ∧ R (.ok (.ret (.ref s.heap.objs.size))) { s with heap := s.heap.push { cls := .type "tuple", data := .seq #[] }, toks := s.toks }) :=
  .of_wp fun prog w A R s h => by
    obtain ⟨hp, g, d, tk, os⟩ := s; obtain ⟨hl, h⟩ := h
    wp_walk; refine wpAny_ite_false (decide_eq_false h0) ?_; wp_walk
    exact ⟨_, rfl, h⟩
theorem tuple_mul_new (l : Addr) (items : Array Value) (n : Nat) (dd : Option Addr) (sl : Array (Option Value)) (x : Int) (u : Tok) (h0 : ¬ ((decide (x < -(2 ^ 63)) || decide (x ≥ 2 ^ 63)) = true)) (h1 : ¬ (items.isEmpty || x == 1) = true) (h2 : ¬ (decide (x ≤ 0) || items.isEmpty) = true)
    (h3 : ¬ ((items.size : Int) * x > (2 ^ 63 - 1) / 8)) (h4 : ¬ Builtin.Tuple.tupleTooMany ((items.size : Int) * x) = true) (h5 : (List.foldl (fun x1 x2 => x1 ++ x2) #[] (List.replicate x.toNat items)).size ≤ sizeLine) :
    Meets (Builtin.«tuple.__mul__» ⟨[.ref l, .int x u], []⟩) (fun _ R s => s.heap.get? l = some { cls := .type "tuple", dict := dd, data := .seq items n, slots := sl } ∧ R (.ok (.ret (.ref s.heap.objs.size))) { s with heap := s.heap.push { cls := .type "tuple", data := .seq (List.foldl (fun x1 x2 => x1 ++ x2) #[] (List.replicate x.toNat items)) }, toks := s.toks }) :=
  .of_wp fun prog w A R s h => by
    obtain ⟨hp, g, d, tk, os⟩ := s; obtain ⟨hl, h⟩ := h
    wp_walk; refine wpAny_ite_false (decide_eq_false h0) ?_; wp_walk; refine wpAny_ite_false (decide_eq_false h3) ?_; wp_walk
    exact ⟨_, rfl, h⟩
section
variable {X : Cx}
noncomputable def rRepT (K : PySem.W.Frag) : R2 := fun x y H Q => ∃ l k xs, x = .ref l ∧ y = .int k ∧ SqT K H l xs ∧ 0 ≤ k ∧ k < 2 ^ 31 ∧ xs.length * k.toNat ≤ sizeLine ∧
  ∀ p H', Same H H' → SqT K H' p (List.replicate k.toNat xs).flatten → Q (.ref p) H'
theorem op_repT : OpR X (binaryOp .Mult) (rRepT X.K) := by
  intro pins s σ H x y v u Q I rx ry h
  obtain ⟨l, k, xs, rfl, rfl, hl, h1, h2, hz, q⟩ := h
  cases rx
  obtain ⟨t, rfl⟩ := ry
  obtain ⟨its, r, p1, hz1⟩ := I.tuple hl
  have hlen : its.length = xs.length := r.length.symm
  obtain ⟨⟨c1, d1, da1, sl1⟩, ho, hc, n, hd⟩ := id p1
  simp only at hc hd
  subst hc hd
  have h0 : ¬ ((decide (k < -(2 ^ 63)) || decide (k ≥ 2 ^ 63)) = true) := by
    rw [Bool.or_eq_true, decide_eq_true_iff, decide_eq_true_iff]
    (clear hlen hz hz1; omega)
  refine wpAny_binaryOp_repeat_ref (T := "tuple") (U := "int") (by decide) ⟨_, ho, rfl⟩ (fun s' => typeIs_int s' k t) noFill_tuple_mul F.fills_int_mul F.slot_int_rmul repeat_tuple F.slot_int_index.lookup
    (call_meets F.slot_int_rmul (typeIs_int s k t) F.entry_int_rmul (F.args_int_rmul_2 _ _) (int_rmul_tuple k t l its.toArray n d1 sl1)
      ⟨ho, rfl, ⟨_, ho, rfl⟩, ?_⟩)
  by_cases c1 : (its.toArray.isEmpty || k == 1) = true
  · refine call_meets F.slot_tuple_mul ⟨_, ho, rfl⟩ F.entry_tuple_mul (F.args_tuple_mul_2 _ _) (tuple_mul_same l its.toArray n d1 sl1 k t h0 c1) ⟨ho, ?_⟩
    refine ⟨.ref l, H, I, rfl, q l H (Same.refl H) ?_⟩
    have : (List.replicate k.toNat xs).flatten = xs := by
      rcases (Bool.or_eq_true _ _).mp c1 with c | c
      · have : its = [] := by simpa using c
        subst this
        have : xs = [] := List.eq_nil_of_length_eq_zero hlen.symm
        subst this
        simp
      · have : k = 1 := by simpa using c
        subst this
        simp
    rw [this]
    exact hl
  · by_cases c2 : (decide (k ≤ 0) || its.toArray.isEmpty) = true
    · refine call_meets F.slot_tuple_mul ⟨_, ho, rfl⟩ F.entry_tuple_mul (F.args_tuple_mul_2 _ _) (tuple_mul_none l its.toArray n d1 sl1 k t h0 c1 c2) ⟨ho, ?_⟩
      have hk : k = 0 := by
        rcases (Bool.or_eq_true _ _).mp c2 with c | c
        · have := of_decide_eq_true c; (clear c1 h0 hlen hz hz1; omega)
        · exact absurd (by rw [c]; rfl) c1
      subst hk
      exact ⟨.ref _, _, I.laid (t' := s.toks) (o := .tup []) (fun b ob q => Heap.get?_push_of_some _ q) (Nat.le_refl _) ⟨by decide, _, .nil, IsTup.new _ _⟩, rfl, q _ _ (same_new' I.fresh _) (sqT_new upd_same)⟩
    · have hx : its.length * k.toNat ≤ sizeLine := by rw [hlen]; exact hz
      have hk0 : 0 < k := by
        have : ¬ k ≤ 0 := fun z => c2 (by rw [decide_eq_true z]; rfl)
        (clear c1 c2 h0 hlen hx hz hz1; omega)
      have hmul : ((its.toArray.size : Nat) : Int) * k = ((its.length * k.toNat : Nat) : Int) := by
        rw [List.size_toArray, Int.natCast_mul]
        congr 1
        (clear c1 c2 h0 hlen hx hz hz1; omega)
      have hs : (sizeLine : Nat) ≤ (2 ^ 63 - 1) / 8 := by decide
      have f0 : ∀ m : Nat, List.foldl (fun x1 x2 => x1 ++ x2) #[] (List.replicate m its.toArray) = (List.replicate m its).flatten.toArray := fun m => by
        have := foldl_rep its m []
        rw [List.nil_append] at this
        exact this
      have hfl : (List.replicate k.toNat its).flatten.length = k.toNat * its.length := len_rep its k.toNat
      refine call_meets F.slot_tuple_mul ⟨_, ho, rfl⟩ F.entry_tuple_mul (F.args_tuple_mul_2 _ _) (tuple_mul_new l its.toArray n d1 sl1 k t h0 c1 c2 ?_ ?_ ?_) ⟨ho, ?_⟩
      · rw [hmul]; (clear c1 c2 h0 h1 h2 hfl hk0 hlen hz hz1; omega)
      · rw [hmul]
        unfold Builtin.Tuple.tupleTooMany
        rw [decide_eq_true_iff]
        (clear c1 c2 h0 h1 h2 hfl hk0 hlen hs hz hz1; omega)
      · rw [f0, List.size_toArray, hfl, Nat.mul_comm]; exact hx
      · rw [f0]
        exact ⟨.ref _, _, I.laid (t' := s.toks) (o := .tup (List.replicate k.toNat xs).flatten) (fun b ob q => Heap.get?_push_of_some _ q) (Nat.le_refl _) ⟨by rw [len_rep, Nat.mul_comm, ← hlen]; exact hx, _, r.rep k.toNat, IsTup.new _ _⟩, rfl, q _ _ (same_new' I.fresh _) (sqT_new upd_same)⟩
open Classical in
end
end L2
namespace HT
open PySem PySem.Spec PyProof.Rows
section
variable {prog : Program} {w : World} {A : Around} {E : Value → Shared → Prop} {s : Shared}
theorem getItem_tuple_whole {t sl : Addr} {items : Array Value} {vl vu : Value} {lo hi : Option Int} {Q : Value → Shared → Prop} (ht : IsTup s.heap t items) (hs : s.heap.IsSliceOf sl vl vu .none) (pl : IsPart vl lo) (pu : IsPart vu hi)
    (hw : sIx items.size 0 lo = 0 ∧ sIx items.size items.size hi = items.size) (h : Q (.ref t) s) : wpAny (model prog w) A (getItem (.ref t) (.ref sl)) Q E s := by
  obtain ⟨os, hos, hcs, hds⟩ := id hs
  have hTs : s.TypeIs (.ref sl) "slice" := ⟨os, hos, hcs⟩
  unfold getItem
  try with_reducible refine wpAny_holding ?_
  first | refine wpAny_bind (wpAny_pure ?_) | skip
  refine wpAny_bind (wpAny_sequenceKey ht.typeIs (by decide) ?_)
  refine wpAny_bind (wpAny_callSpecial?_slot (name := Str.ofString "__getitem__") ht.typeIs PyProof.Rows.slot_tuple_getitem
    (wpAny_call_entry PyProof.Rows.slot_tuple_getitem ht.typeIs entry_tuple_getitem ?_ (args_tuple_getitem _ _)))
  show wpAny _ _ (Builtin.Tuple.tupleItemsOf (.ref t) >>= _) _ _ s
  refine wpAny_bind (tupleItemsOf_ ht ?_)
  refine wpAny_bind (wpAny_typeOf hTs ?_)
  rw [if_pos (by decide)]
  refine wpAny_bind (sliceApplied_gen hs pl pu ?_)
  have hyes : ((((sIx items.size 0 lo : Nat) : Int) == 0 && (1 : Int) == 1 && (sIx items.size items.size hi - sIx items.size 0 lo) == items.size) = true) := by
    rw [hw.1, hw.2]
    simp
  show wpAny _ _ (if (((sIx items.size 0 lo : Nat) : Int) == 0 && (1 : Int) == 1 && (sIx items.size items.size hi - sIx items.size 0 lo) == items.size) = true then _ else _) _ _ s
  rw [if_pos hyes]
  unfold Builtin.Tuple.tupleIsExact
  refine wpAny_bind (wpAny_bind (wpAny_typeOf ht.typeIs (wpAny_pure ?_)))
  rw [if_pos (by decide)]
  refine wpAny_bind (wpAny_rule ?_)
  first
    | exact wpAny_pure ⟨_, rfl, wpAny_pure h⟩
    | exact wpAny_bind (wpAny_pure ⟨_, rfl, wpAny_pure h⟩)
    | exact wpAny_bind (wpAny_pure (wpAny_pure ⟨_, rfl, wpAny_pure h⟩))
end
end HT
namespace L2
open PySem PySem.Spec PySem.W PyProof.Rows
open PySem.SeqAt
section
variable {X : Cx}
noncomputable def rSlG (K : PySem.W.Frag) : V → Option Int → Option Int → Hp → VK → Prop := fun x lo hi H Q => ∃ a xs, x = .ref a ∧ SqT K H a xs ∧ ∀ p H', Same H H' → SqT K H' p (cutV xs lo hi) → Q (.ref p) H'
theorem sl_tupG : SlR X (rSlG X.K) := by
  intro pins s σ H x v vl vu lo hi sl Q I rx hs pl pu h
  obtain ⟨a, xs, rfl, hx, q⟩ := h
  by_cases hw : HT.sIx xs.length 0 lo = 0 ∧ HT.sIx xs.length xs.length hi = xs.length
  · have e : cutV xs lo hi = xs := by unfold cutV; rw [hw.1, hw.2]; simp
    rw [e] at q
    cases rx
    obtain ⟨its, r, ht, hz⟩ := I.tuple hx
    have hlen : its.toArray.size = xs.length := by rw [List.size_toArray]; exact r.length.symm
    refine ⟨"tuple", _, PyProof.Rows.slot_tuple_getitem.lookup, ht.typeIs, ?_⟩
    exact HT.getItem_tuple_whole ht hs pl pu (by rw [hlen]; exact hw) ⟨.ref a, H, I, rfl, q a H (Same.refl H) hx⟩
  · exact sl_tup pins s σ H (.ref a) v vl vu lo hi sl Q I rx hs pl pu ⟨a, xs, rfl, hx, hw, fun p hp => q p _ (same_new' hp _) (sqT_new upd_same)⟩
end
end L2
namespace L2
open PySem
section
variable {X : Cx}
end
end L2
namespace L2
open PySem PySem.Spec PyProof.Rows
section
variable {X : Cx}
theorem lenS {α : Type} {l : List α} {n : Nat} (h : l.length = n + 1) : ∃ a t, l = a :: t ∧ t.length = n := by
  cases l with
  | nil => exact absurd h (Nat.succ_ne_zero n).symm
  | cons a t => exact ⟨a, t, rfl, Nat.succ.inj h⟩
theorem len1 {α : Type} {l : List α} (h : l.length = 1) : ∃ a, l = [a] := by
  obtain ⟨a, t, rfl, h'⟩ := lenS h
  exact ⟨a, congrArg _ (List.length_eq_zero_iff.mp h')⟩
theorem len2 {α : Type} {l : List α} (h : l.length = 2) : ∃ a b, l = [a, b] := by
  obtain ⟨a, t, rfl, h'⟩ := lenS h
  obtain ⟨b, rfl⟩ := len1 h'
  exact ⟨a, b, rfl⟩
theorem len3 {α : Type} {l : List α} (h : l.length = 3) : ∃ a b c, l = [a, b, c] := by
  obtain ⟨a, t, rfl, h'⟩ := lenS h
  obtain ⟨b, c, rfl⟩ := len2 h'
  exact ⟨a, b, c, rfl⟩
theorem bind1 {F : List Value → Prop} (h : ∀ a, F [a]) : ∀ us : List Value, us.length = 1 → F us := fun us hl => by
  obtain ⟨a, rfl⟩ := len1 hl
  exact h a
theorem bind2 {F : List Value → Prop} (h : ∀ a b, F [a, b]) : ∀ us : List Value, us.length = 2 → F us := fun us hl => by
  obtain ⟨a, b, rfl⟩ := len2 hl
  exact h a b
theorem bind3 {F : List Value → Prop} (h : ∀ a b c, F [a, b, c]) : ∀ us : List Value, us.length = 3 → F us := fun us hl => by
  obtain ⟨a, b, c, rfl⟩ := len3 hl
  exact h a b c
theorem seq_let3 {s1 s2 s3 : TS} {D : Ends} {σ : St} {H : Hp} (h : let r3 : TS := s3; let r2 : TS := tSeq s2 r3; tSeq s1 r2 D σ H) : (tSeq s1 (tSeq s2 (s3))) D σ H := h
theorem seq_let4 {s1 s2 s3 s4 : TS} {D : Ends} {σ : St} {H : Hp} (h : let r4 : TS := s4; let r3 : TS := tSeq s3 r4; let r2 : TS := tSeq s2 r3; tSeq s1 r2 D σ H) : (tSeq s1 (tSeq s2 (tSeq s3 (s4)))) D σ H := h
theorem seq_let5 {s1 s2 s3 s4 s5 : TS} {D : Ends} {σ : St} {H : Hp} (h : let r5 : TS := s5; let r4 : TS := tSeq s4 r5; let r3 : TS := tSeq s3 r4; let r2 : TS := tSeq s2 r3; tSeq s1 r2 D σ H) : (tSeq s1 (tSeq s2 (tSeq s3 (tSeq s4 (s5))))) D σ H := h
theorem seq_let7 {s1 s2 s3 s4 s5 s6 s7 : TS} {D : Ends} {σ : St} {H : Hp} (h : let r7 : TS := s7; let r6 : TS := tSeq s6 r7; let r5 : TS := tSeq s5 r6; let r4 : TS := tSeq s4 r5; let r3 : TS := tSeq s3 r4; let r2 : TS := tSeq s2 r3; tSeq s1 r2 D σ H) : (tSeq s1 (tSeq s2 (tSeq s3 (tSeq s4 (tSeq s5 (tSeq s6 (s7))))))) D σ H := h
theorem seq_let8 {s1 s2 s3 s4 s5 s6 s7 s8 : TS} {D : Ends} {σ : St} {H : Hp} (h : let r8 : TS := s8; let r7 : TS := tSeq s7 r8; let r6 : TS := tSeq s6 r7; let r5 : TS := tSeq s5 r6; let r4 : TS := tSeq s4 r5; let r3 : TS := tSeq s3 r4; let r2 : TS := tSeq s2 r3; tSeq s1 r2 D σ H) : (tSeq s1 (tSeq s2 (tSeq s3 (tSeq s4 (tSeq s5 (tSeq s6 (tSeq s7 (s8)))))))) D σ H := h
end
end L2
namespace L2
open PySem PySem.Spec PySem.Calls PyProof.Rows PySem.W
section
variable {X : Cx}
theorem mt_upper : MtR X "str.upper" (fun x xs H Q => ∃ a : Str, x = .str a ∧ xs = [] ∧ Builtin.Str.tooLong (Txt.upper a).length = false ∧ Q (.str (Txt.upper a)) H) := by
  intro pins s σ H x xs v us Q I rx rv h
  obtain ⟨a, rfl, rfl, hf, q⟩ := h
  obtain ⟨t, rfl⟩ := rx
  cases rv
  exact call_gives F.slot_str_upper (typeIs_str s a t) F.entry_str_upper (F.args_str_upper_1 _) (gives_str_upper a t hf) ⟨fit_le hf, .str _, H, I.tok _, ⟨_, rfl⟩, q⟩
end
section
variable {P : Program} {w : World} {K : PySem.W.Frag} {mg : Str → Option Value} {base : Heap} {N : List Str} {qual : Str} {scope : Scope} {f0 : Addr} {cd : Value} {A : Around} {outer : List Env} {s₀ : Shared} {H₀ : Hp} {E : XK} {C : Addr}
noncomputable def TabOkE (P : Program) (w : World) (K : Frag) (mg : Str → Option Value) (base : Heap) (C : Addr) (k : Nat) (f : Str → Option Value) (ps : List Str) (sp : Str → Sp) : Prop :=
  ∀ s v, f s = some v → ∃ fa fd, v = .ref fa ∧ FnOk P w K mg base (CXe P w C) k fa fd ps (sp s) ∧ keepIn K (.ref fa) = true ∧ Binds K fd ps []
theorem pe_tabCallE {x : Str} {a : Addr} {f : Str → Option Value} {i e : Expr} {es : List Expr} {ti : TE} {t : TA} {k : Nat} {ps : List Str} {sp : Str → Sp} {p p2 pos : Pos} (T : Tab w K mg x a f) (hF : TabOkE P w K mg base C k f ps sp) (hr : Room k (A.deeper (envOfC qual scope s₀.heap.objs.size f0 cd)))
    (hi : PE (cxE P w C K mg base N qual scope f0 cd A outer s₀ H₀ E) i ti) (hs : PlainIx i) (ha : PA (cxE P w C K mg base N qual scope f0 cd A outer s₀ H₀ E) (e :: es) t)
    (hg : autoParam (Gl (cxE P w C K mg base N qual scope f0 cd A outer s₀ H₀ E) x) L2.aRfl._auto_1) (hd : autoParam ((x == ("__debug__" : Str)) = false) L2.aDec._auto_1) (he : autoParam (starEach (e :: es) (cxE P w C K mg base N qual scope f0 cd A outer s₀ H₀ E).env = (false, eval e (cxE P w C K mg base N qual scope f0 cd A outer s₀ H₀ E).env) :: starEach es (cxE P w C K mg base N qual scope f0 cd A outer s₀ H₀ E).env) L2.aRfl._auto_1)
    (hpl : autoParam ((backTo pos (starEach es (cxE P w C K mg base N qual scope f0 cd A outer s₀ H₀ E).env)).any (·.1) = false) L2.aRfl._auto_1)
    (hcl : autoParam (eval (.Call (.Subscript (.Name x p) i p2) (e :: es) [] pos) (cxE P w C K mg base N qual scope f0 cd A outer s₀ H₀ E).env = (do callWith pos (← eval (.Subscript (.Name x p) i p2) (cxE P w C K mg base N qual scope f0 cd A outer s₀ H₀ E).env) [] (backTo pos (starEach (e :: es) (cxE P w C K mg base N qual scope f0 cd A outer s₀ H₀ E).env)) (backToKw pos (keywordEach [] (cxE P w C K mg base N qual scope f0 cd A outer s₀ H₀ E).env)))) L2.aRfl._auto_1) :
    PE (cxE P w C K mg base N qual scope f0 cd A outer s₀ H₀ E) (.Call (.Subscript (.Name x p) i p2) (e :: es) [] pos) (fun σ H Q => tOp (rTab a f) (tC (.ref a)) ti σ H fun z H1 => ∃ s fa, z = .ref fa ∧ f s = some (.ref fa) ∧ tCall (sp s) [] E t σ H1 Q) := by
  intro pins s σ H Q I h
  refine Call_ (thn ((pe_ix (pos := p2) (ix_tab T) (pe_glob (pos := p) (v := .ref a) hg T.bound rfl hd) hi hs) pins s σ H _ I h) fun fv s1 ⟨z, H1, I1, rz, sx, fa, ez, ef, q⟩ => ?_) hcl
  subst ez
  cases rz
  obtain ⟨fa', fd, e', F, kp, b⟩ := hF sx _ ef
  cases e'
  exact callWith_K (h₀ := base) I.ok.mod.kin kp (thn (ha pos pins s1 σ H1 _ I1 q) fun us s2 ⟨vs, H2, I2, r, q2⟩ => ⟨I2.kIn, run_fn F hr b .nil passesE I2 r q2⟩) he hpl
end
end L2
namespace Nb
open PySem L2
noncomputable def top (i : Nat) : Stmt := PySem.Challenge.pw_nonebetter_k70_problems_changed.main.body.getD i (.Pass ⟨0, 0, 0, 0⟩)
noncomputable abbrev sIsWhole : Stmt := top 6
noncomputable abbrev sIsNum : Stmt := top 7
noncomputable abbrev sIsPair : Stmt := top 8
inductive Dt
  | non
  | bl (b : Bool)
  | int (i : Int)
  | str (s : Str)
  | tup (xs : List Dt)
  | lst (xs : List Dt)
inductive HasT (K : PySem.W.Frag) (H : Hp) : V → Dt → Prop
  | non : HasT K H .non .non
  | bl (b) : HasT K H (.bl b) (.bl b)
  | int (i) : HasT K H (.int i) (.int i)
  | str (s) : HasT K H (.str s) (.str s)
  | tup {a vs xs} : SqT K H a vs → vs.length = xs.length → (∀ (i : Nat) v x, vs[i]? = some v → xs[i]? = some x → HasT K H v x) → HasT K H (.ref a) (.tup xs)
  | lst {a vs xs} : SqL K H a vs → vs.length = xs.length → (∀ (i : Nat) v x, vs[i]? = some v → xs[i]? = some x → HasT K H v x) → HasT K H (.ref a) (.lst xs)
theorem HasT.same {K : PySem.W.Frag} {H H' : Hp} (e : Same H H') {x : V} {d : Dt} (h : HasT K H x d) : HasT K H' x d := by
  induction h with
  | non => exact .non
  | bl b => exact .bl b
  | int i => exact .int i
  | str s => exact .str s
  | tup h1 h2 _ ih => exact .tup (e.tup h1) h2 ih
  | lst h1 h2 _ ih => exact .lst (e.seq h1) h2 ih
theorem HasT.tup_inv {K : PySem.W.Frag} {H : Hp} {v : V} {xs : List Dt} (h : HasT K H v (.tup xs)) : ∃ a vs, v = .ref a ∧ SqT K H a vs ∧ vs.length = xs.length ∧ ∀ (i : Nat) v x, vs[i]? = some v → xs[i]? = some x → HasT K H v x := by
  cases h with | tup h1 h2 h3 => exact ⟨_, _, rfl, h1, h2, h3⟩
theorem HasT.pair_inv {K : PySem.W.Frag} {H : Hp} {v : V} {d e : Dt} (h : HasT K H v (.tup [d, e])) : ∃ a x y, v = .ref a ∧ SqT K H a [x, y] ∧ HasT K H x d ∧ HasT K H y e := by
  obtain ⟨a, vs, rfl, h1, h2, h3⟩ := h.tup_inv
  obtain ⟨x, y, rfl⟩ := len2 (l := vs) h2
  exact ⟨a, x, y, rfl, h1, h3 0 x d rfl rfl, h3 1 y e rfl rfl⟩
theorem HasT.isi {K : PySem.W.Frag} {H : Hp} {v : V} {d : Dt} (h : HasT K H v d) (T : String) : isiW K H v T (match d with | .non => false | .int _ => decide (T = "int") | .bl _ => decide (T = "int" ∨ T = "bool") | .str _ => decide (T = "str") | .tup _ => decide (T = "tuple") | .lst _ => decide (T = "list")) := by
  cases h with
  | non => rfl
  | bl b => rfl
  | int i => rfl
  | str s => rfl
  | tup h1 => exact .inl ⟨⟨_, h1⟩, rfl⟩
  | lst h1 => exact .inr ⟨⟨_, h1⟩, rfl⟩
noncomputable def wholeT : Dt → Bool
  | .int _ => true
  | _ => false
noncomputable def numT (n : Nat) : Dt → Option Nat
  | .int i => if 0 ≤ i ∧ i < (n : Int) then some i.toNat else none
  | _ => none
noncomputable def pairT : Dt → Bool
  | .tup [_, _] => true
  | _ => false
noncomputable def holdT (n : Nat) : Dt → Option (Int × Int)
  | .tup [d, e] => match numT n d, numT 2 e with
    | some k, some w => some (((k : Nat) : Int), ((w : Nat) : Int))
    | _, _ => none
  | _ => none
noncomputable def allT {α : Type} (f : Dt → Option α) : List Dt → Option (List α)
  | [] => some []
  | d :: r => match f d, allT f r with
    | some x, some t => some (x :: t)
    | _, _ => none
theorem allT_isSome {α : Type} (f : Dt → Option α) (ds : List Dt) : (allT f ds).isSome = ds.all fun d => (f d).isSome := by
  induction ds with
  | nil => rfl
  | cons d r ih =>
    show (match f d, allT f r with | some x, some t => some (x :: t) | _, _ => none).isSome = _
    rw [List.all_cons, ← ih]
    cases f d <;> cases allT f r <;> rfl
theorem allT_cons {α : Type} {f : Dt → Option α} {d : Dt} {r : List Dt} {xs : List α} (h : allT f (d :: r) = some xs) : ∃ x t, f d = some x ∧ allT f r = some t ∧ xs = x :: t := by
  have h' : (match f d, allT f r with | some x, some t => some (x :: t) | _, _ => none) = some xs := h
  cases e1 : f d with
  | none => rw [e1] at h'; cases h'
  | some x =>
    cases e2 : allT f r with
    | none => rw [e1, e2] at h'; cases h'
    | some t =>
      rw [e1, e2] at h'
      cases h'
      exact ⟨x, t, rfl, rfl, rfl⟩
noncomputable def spIsWhole (K : PySem.W.Frag) : Sp := fun vs H Q _ => ∃ (v : V) (d : Dt), vs = [v] ∧ HasT K H v d ∧ Q (.bl (wholeT d)) H
noncomputable def spIsNum (K : PySem.W.Frag) : Sp := fun vs H Q _ => ∃ (v : V) (d : Dt) (n : Nat), vs = [v, .int (n : Int)] ∧ HasT K H v d ∧ Q (.bl (numT n d).isSome) H
noncomputable def spIsPair (K : PySem.W.Frag) : Sp := fun vs H Q _ => ∃ (v : V) (d : Dt), vs = [v] ∧ HasT K H v d ∧ Q (.bl (pairT d)) H
theorem numT_some {n : Nat} {d : Dt} {k : Nat} (h : numT n d = some k) : d = .int ((k : Nat) : Int) ∧ k < n := by
  unfold numT at h
  split at h
  · rename_i i
    split at h
    · rename_i hi
      cases h
      exact ⟨by congr 1; omega, by omega⟩
    · cases h
  · cases h
structure Errs (K : PySem.W.Frag) (mg : Str → Option Value) (C D B1 B2 B3 : Addr) : Prop where
  err_NoStep : ErrC K mg "NoStep" C
  PlanError : mg "PlanError" = some (.ref D)
  isA : IsA K C D
  exc : ExcIn K C
  NoStep : mg "NoStep" = some (.ref C)
  NoBook : mg "NoBook" = some (.ref B1)
  NoNumber : mg "NoNumber" = some (.ref B2)
  isN : PySem.W.kitOne K (.ref C) (.ref C) = some true
  isV : PySem.W.kitOne K (.ref C) (.type "ValueError") = some true
  notB : PySem.W.kitAny K (.ref C) [.ref B1, .ref B2] = some false
  b3 : B3 = C
  divmod : mg "divmod" = none
theorem bt_ValueError : bootBuiltins "ValueError" = some (.type "ValueError") := by decide +kernel
theorem bt_divmod : bootBuiltins "divmod" = some (.builtin "divmod") := by decide +kernel
section
variable {P : Program} {w : World} {K : PySem.W.Frag} {mg : Str → Option Value} {base : Heap} {C D B1 B2 B3 : Addr} {aT aL : Addr} {fT fL : Str → Option Value}
theorem scIsWhole : FnScope ["thing"] ["thing"] (defScope sIsWhole) := ⟨rfl, rfl, rfl, by decide +kernel, rfl, by decide +kernel, by decide +kernel⟩
theorem okIsWhole (F : Fn K mg "is_whole" sIsWhole) (M : Mg mg) : Cal P w K mg base 1 "is_whole" ["thing"] (spIsWhole K) := by
  refine cal_of F scIsWhole (fun _ _ _ _ _ _ => bind1 (fun _ => rfl)) (fun vs H Q E h => ?_) (fun f cdv A outer s H vs Q E hr h => ?_)
  · obtain ⟨v, d, rfl, _⟩ := h
    rfl
  obtain ⟨v, d, rfl, hv, q⟩ := h
  refine ⟨_, (pss_one (ps_ret (pe_and (pe_callB call_isiW rfl M.isinstance bt_isinstance (pa_cons (pv 0) (pa_cons (pe_ty M.int_ bt_int) pa_nil))) (pe_one (pe_not (pe_callB call_isiW rfl M.isinstance bt_isinstance (pa_cons (pv 0) (pa_cons (pe_ty M.bool_ bt_bool) pa_nil)))))))), ?_⟩
  cases d with
  | int i => exact ⟨_, rfl, _, "int", _, rfl, .int, hv.isi _, true, rfl, iteT ⟨_, rfl, _, "bool", _, rfl, .bool, hv.isi _, false, rfl, q⟩⟩
  | bl b => exact ⟨_, rfl, _, "int", _, rfl, .int, hv.isi _, true, rfl, iteT ⟨_, rfl, _, "bool", _, rfl, .bool, hv.isi _, true, rfl, q⟩⟩
  | non => exact ⟨_, rfl, _, "int", _, rfl, .int, hv.isi _, false, rfl, iteF q⟩
  | str s => exact ⟨_, rfl, _, "int", _, rfl, .int, hv.isi _, false, rfl, iteF q⟩
  | tup xs => exact ⟨_, rfl, _, "int", _, rfl, .int, hv.isi _, false, rfl, iteF q⟩
  | lst xs => exact ⟨_, rfl, _, "int", _, rfl, .int, hv.isi _, false, rfl, iteF q⟩
theorem scIsNum : FnScope ["thing", "count"] ["thing", "count"] (defScope sIsNum) := ⟨rfl, rfl, rfl, by decide +kernel, rfl, by decide +kernel, by decide +kernel⟩
theorem okIsNum (F : Fn K mg "is_number_of" sIsNum) (M : Mg mg) (c_is_whole : Cal P w K mg base 1 "is_whole" ["thing"] (spIsWhole K)) : Cal P w K mg base 2 "is_number_of" ["thing", "count"] (spIsNum K) := by
  refine cal_of F scIsNum (fun _ _ _ _ _ _ => bind2 (fun _ _ => rfl)) (fun vs H Q E h => ?_) (fun f cdv A outer s H vs Q E hr h => ?_)
  · obtain ⟨v, d, n, rfl, _⟩ := h
    rfl
  obtain ⟨v, d, n, rfl, hv, q⟩ := h
  refine ⟨_, (pss_one (ps_ret (pe_and (pe_fn c_is_whole (hr.mono (by decide)) (pa_cons (pv 0) pa_nil)) (pe_one (pe_chain op_le op_lt pe_int (pv 0) (pv 1)))))), ?_⟩
  cases d with
  | int i =>
    cases hv
    refine ⟨_, rfl, _, _, rfl, .int i, true, rfl, iteT ⟨_, rfl, _, _, rfl, rfl, _, rfl, ite2 (fun c => ⟨_, rfl, _, _, rfl, rfl, ?_⟩) (fun c => ?_)⟩⟩
    · have c' : 0 ≤ i := of_decide_eq_true c
      by_cases h : i < (n : Int)
      · have e : numT n (.int i) = some i.toNat := if_pos ⟨c', h⟩
        rw [e] at q
        show Q (.bl (decide (i < (n : Int)))) H
        rw [decide_eq_true h]
        exact q
      · have e : numT n (.int i) = none := if_neg fun z => h z.2
        rw [e] at q
        show Q (.bl (decide (i < (n : Int)))) H
        rw [decide_eq_false h]
        exact q
    · have c' : ¬ 0 ≤ i := fun z => c (decide_eq_true z)
      have e : numT n (.int i) = none := if_neg fun z => c' z.1
      rw [e] at q
      exact q
  | non => exact ⟨_, rfl, _, _, rfl, hv, false, rfl, iteF q⟩
  | bl b => exact ⟨_, rfl, _, _, rfl, hv, false, rfl, iteF q⟩
  | str s => exact ⟨_, rfl, _, _, rfl, hv, false, rfl, iteF q⟩
  | tup xs => exact ⟨_, rfl, _, _, rfl, hv, false, rfl, iteF q⟩
  | lst xs => exact ⟨_, rfl, _, _, rfl, hv, false, rfl, iteF q⟩
theorem scIsPair : FnScope ["thing"] ["thing"] (defScope sIsPair) := ⟨rfl, rfl, rfl, by decide +kernel, rfl, by decide +kernel, by decide +kernel⟩
theorem okIsPair (F : Fn K mg "is_pair" sIsPair) (M : Mg mg) : Cal P w K mg base 1 "is_pair" ["thing"] (spIsPair K) := by
  refine cal_of F scIsPair (fun _ _ _ _ _ _ => bind1 (fun _ => rfl)) (fun vs H Q E h => ?_) (fun f cdv A outer s H vs Q E hr h => ?_)
  · obtain ⟨v, d, rfl, _⟩ := h
    rfl
  obtain ⟨v, d, rfl, hv, q⟩ := h
  refine ⟨_, (pss_one (ps_ret (pe_and (pe_callB call_isiW rfl M.isinstance bt_isinstance (pa_cons (pv 0) (pa_cons (pe_ty M.tuple_ bt_tuple) pa_nil))) (pe_one (pe_cmpR op_eq (pe_callB call_len_seq rfl M.len bt_len (pa_cons (pv 0) pa_nil)) pe_int (nomark _)))))), ?_⟩
  cases d with
  | tup xs =>
    obtain ⟨a, vs, rfl, h1, h2, h3⟩ := hv.tup_inv
    refine ⟨_, rfl, _, "tuple", _, rfl, .tuple, hv.isi _, true, rfl, iteT ⟨_, rfl, a, _, rfl, .inr h1, rfl, ?_⟩⟩
    rw [h2]
    match xs, q with
    | [], q => exact q
    | [_], q => exact q
    | [_, _], q => exact q
    | _ :: _ :: _ :: r, q =>
      rw [decide_eq_false (fun z => by have := V.int.inj z; simp at this; omega)]
      exact q
  | int i => exact ⟨_, rfl, _, "tuple", _, rfl, .tuple, hv.isi _, false, rfl, iteF q⟩
  | non => exact ⟨_, rfl, _, "tuple", _, rfl, .tuple, hv.isi _, false, rfl, iteF q⟩
  | bl b => exact ⟨_, rfl, _, "tuple", _, rfl, .tuple, hv.isi _, false, rfl, iteF q⟩
  | str s => exact ⟨_, rfl, _, "tuple", _, rfl, .tuple, hv.isi _, false, rfl, iteF q⟩
  | lst xs => exact ⟨_, rfl, _, "tuple", _, rfl, .tuple, hv.isi _, false, rfl, iteF q⟩
end
end Nb
namespace Nb
open PySem L2
noncomputable abbrev sIsRow : Stmt := top 10
noncomputable abbrev sWidened : Stmt := top 11
theorem fresh_back {H H' : Hp} {a : Addr} (s : Same H H') (h : H' a = none) : H a = none := by
  cases e : H a with
  | none => rfl
  | some o => rw [s _ _ e] at h; cases h
noncomputable abbrev Rw := List Int × Int
noncomputable def intT : Dt → Option Int
  | .int i => some i
  | _ => none
noncomputable def rwT (n : Nat) : Dt → Option Rw
  | .tup [.tup xs, .int z] => if xs.length = n then (allT intT xs).map fun ns => (ns, z) else none
  | _ => none
noncomputable def wide (r : Rw) : Rw := (r.1 ++ [0], r.2)
noncomputable def chRow (rs : List Rw) (cs : List Int) : List Dt → Option (List Rw × List Int)
  | [_, d] => (rwT cs.length d).map fun r => (rs ++ [r], cs)
  | _ => none
noncomputable def chLess (rs : List Rw) (cs : List Int) : List Dt → Option (List Rw × List Int)
  | [_, d] => (numT rs.length d).map fun k => (rs.take k ++ rs.drop (k + 1), cs)
  | _ => none
noncomputable def chCost (rs : List Rw) (cs : List Int) : List Dt → Option (List Rw × List Int)
  | [_, d, .int z] => (numT cs.length d).map fun i => (rs, (cs.take i ++ [z]) ++ cs.drop (i + 1))
  | _ => none
noncomputable def chChoice (rs : List Rw) (cs : List Int) : List Dt → Option (List Rw × List Int)
  | [_, .int z] => some (rs.map wide, cs ++ [z])
  | _ => none
noncomputable def chgW (rs : List Rw) (cs : List Int) (w : Str) (xs : List Dt) : Option (List Rw × List Int) := if w = "row" then chRow rs cs xs else if w = "less" then chLess rs cs xs else if w = "cost" then chCost rs cs xs else if w = "choice" then chChoice rs cs xs else none
noncomputable def lenC (s : Str) : Option Nat := if s = "row" then some 2 else if s = "less" then some 2 else if s = "cost" then some 3 else if s = "choice" then some 2 else none
noncomputable def chgD (rs : List Rw) (cs : List Int) : Dt → Option (List Rw × List Int)
  | .tup (.str w :: r) => if lenC w = some (r.length + 1) then chgW rs cs w (.str w :: r) else none
  | _ => none
inductive Chg
  | row (r : Rw)
  | less (k : Nat)
  | cost (i : Nat) (z : Int)
  | choice (z : Int)
noncomputable def Chg.ok (m n : Nat) : Chg → Prop
  | .row r => r.1.length = n
  | .less k => k < m
  | .cost i _ => i < n
  | .choice _ => True
noncomputable def Chg.d : Chg → Dt
  | .row r => .tup [.str "row", .tup [.tup (r.1.map .int), .int r.2]]
  | .less k => .tup [.str "less", .int (k : Int)]
  | .cost i z => .tup [.str "cost", .int (i : Int), .int z]
  | .choice z => .tup [.str "choice", .int z]
noncomputable def Chg.w : Chg → Str
  | .row _ => "row"
  | .less _ => "less"
  | .cost _ _ => "cost"
  | .choice _ => "choice"
noncomputable def Chg.app (rs : List Rw) (cs : List Int) : Chg → List Rw × List Int
  | .row r => (rs ++ [r], cs)
  | .less k => (rs.take k ++ rs.drop (k + 1), cs)
  | .cost i z => (rs, (cs.take i ++ [z]) ++ cs.drop (i + 1))
  | .choice z => (rs.map wide, cs ++ [z])
theorem allI (ns : List Int) : allT intT (ns.map .int) = some ns := by
  induction ns with
  | nil => rfl
  | cons x t ih =>
    rw [List.map_cons, allT, ih]
    rfl
theorem numI {n k : Nat} (h : k < n) : numT n (.int (k : Int)) = some k := by
  have : numT n (.int (k : Int)) = some ((k : Int)).toNat := if_pos ⟨by omega, by omega⟩
  rw [this, Int.toNat_natCast]
theorem numN {n : Nat} {i : Int} (h : ¬ (0 ≤ i ∧ i < (n : Int))) : numT n (.int i) = none := if_neg h
theorem chg_ok {rs : List Rw} {cs : List Int} {ch : Chg} (h : ch.ok rs.length cs.length) : chgD rs cs ch.d = some (ch.app rs cs) := by
  cases ch with
  | row r =>
    have e : rwT cs.length (.tup [.tup (r.1.map .int), .int r.2]) = some r := by
      show (if (r.1.map Dt.int).length = cs.length then (allT intT (r.1.map .int)).map fun ns => (ns, r.2) else none) = _
      rw [List.length_map, if_pos (show r.1.length = cs.length from h), allI]
      rfl
    show (rwT cs.length (.tup [.tup (r.1.map .int), .int r.2])).map _ = _
    rw [e]
    rfl
  | less k =>
    show (numT rs.length (.int (k : Int))).map _ = _
    rw [numI h]
    rfl
  | cost i z =>
    show (numT cs.length (.int (i : Int))).map _ = _
    rw [numI h]
    rfl
  | choice z => rfl
theorem app_rows {rs : List Rw} {cs : List Int} {ch : Chg} (h : ch.ok rs.length cs.length) (hr : ∀ r ∈ rs, r.1.length = cs.length) : ∀ r ∈ (ch.app rs cs).1, r.1.length = (ch.app rs cs).2.length := by
  cases ch with
  | row r0 =>
    intro r hr'
    rcases List.mem_append.mp hr' with z | z
    · exact hr r z
    · rw [List.mem_singleton.mp z]; exact h
  | less k =>
    intro r hr'
    rcases List.mem_append.mp hr' with z | z
    · exact hr r (List.mem_of_mem_take z)
    · exact hr r (List.mem_of_mem_drop z)
  | cost i z =>
    intro r hr'
    have h' : i < cs.length := h
    show r.1.length = ((cs.take i ++ [z]) ++ cs.drop (i + 1)).length
    rw [hr r hr', List.length_append, List.length_append, List.length_take, List.length_drop]
    show _ = _ + 1 + _
    omega
  | choice z =>
    intro r hr'
    obtain ⟨q, hq, rfl⟩ := List.mem_map.mp hr'
    show (q.1 ++ [0]).length = (cs ++ [z]).length
    rw [List.length_append, List.length_append, hr q hq]
    rfl
theorem app_len {rs : List Rw} {cs : List Int} {ch : Chg} (h : ch.ok rs.length cs.length) : (ch.app rs cs).1.length ≤ rs.length + 1 ∧ (ch.app rs cs).2.length ≤ cs.length + 1 ∧ (ch.w ≠ "choice" → (ch.app rs cs).2.length = cs.length) := by
  cases ch with
  | row r0 => exact ⟨by show (rs ++ [r0]).length ≤ _; rw [List.length_append]; exact Nat.le_refl _, Nat.le_succ _, fun _ => rfl⟩
  | less k =>
    refine ⟨?_, Nat.le_succ _, fun _ => rfl⟩
    show (rs.take k ++ rs.drop (k + 1)).length ≤ _
    rw [List.length_append, List.length_take, List.length_drop]
    omega
  | cost i z =>
    have h' : i < cs.length := h
    have e : ((cs.take i ++ [z]) ++ cs.drop (i + 1)).length = cs.length := by
      rw [List.length_append, List.length_append, List.length_take, List.length_drop]
      show _ + 1 + _ = _
      omega
    exact ⟨Nat.le_succ _, by show ((cs.take i ++ [z]) ++ cs.drop (i + 1)).length ≤ _; rw [e]; exact Nat.le_succ _, fun _ => e⟩
  | choice z => exact ⟨by show (rs.map wide).length ≤ _; rw [List.length_map]; exact Nat.le_succ _, by show (cs ++ [z]).length ≤ _; rw [List.length_append]; exact Nat.le_refl _, fun y => absurd rfl y⟩
noncomputable def ProbH (K : PySem.W.Frag) (H : Hp) (t : Addr) (rs : List Rw) (cs : List Int) : Prop := ∃ l c vs, SqT K H t [.ref l, .ref c] ∧ H l = some (.lst vs) ∧ RowsAre K H vs rs ∧ SqT K H c (cs.map V.int)
theorem ProbH.same {K : PySem.W.Frag} {H H' : Hp} {t : Addr} {rs : List Rw} {cs : List Int} (e : Same H H') (h : ProbH K H t rs cs) : ProbH K H' t rs cs :=
  let ⟨l, c, vs, h1, h2, h3, h4⟩ := h; ⟨l, c, vs, e.tup h1, e _ _ h2, h3.imp fun _ _ z => z.same e, e.tup h4⟩
theorem ProbH.hasD {K : PySem.W.Frag} {H : Hp} {t : Addr} {rs : List Rw} {cs : List Int} (h : ProbH K H t rs cs) : HasD K H (.ref t) (probD rs cs) := by
  obtain ⟨l, c, vs, h1, h2, h3, h4⟩ := h
  exact pairD h1 (RowsAre.hasD (sqL_new h2) h3) (intsD h4)
noncomputable def ChgAt (K : PySem.W.Frag) (H : Hp) (c : Addr) : Chg → Prop
  | .row r => ∃ x, SqT K H c [.str "row", .ref x] ∧ RowAt K H x r
  | .less k => SqT K H c [.str "less", .int (k : Int)]
  | .cost i z => SqT K H c [.str "cost", .int (i : Int), .int z]
  | .choice z => SqT K H c [.str "choice", .int z]
theorem ChgAt.same {K : PySem.W.Frag} {H H' : Hp} {c : Addr} {ch : Chg} (e : Same H H') (h : ChgAt K H c ch) : ChgAt K H' c ch := by
  cases ch with
  | row r => obtain ⟨x, h1, h2⟩ := h; exact ⟨x, e.tup h1, h2.same e⟩
  | less k => exact e.tup h
  | cost i z => exact e.tup h
  | choice z => exact e.tup h
theorem tup2T {K : PySem.W.Frag} {H : Hp} {a : Addr} {v w : V} {d e : Dt} (h : SqT K H a [v, w]) (h1 : HasT K H v d) (h2 : HasT K H w e) : HasT K H (.ref a) (.tup [d, e]) := by
  refine .tup h rfl fun i v x e1 e2 => ?_
  match i with
  | 0 => simp at e1 e2; subst e1 e2; exact h1
  | 1 => simp at e1 e2; subst e1 e2; exact h2
  | i + 2 => simp at e1
theorem tup3T {K : PySem.W.Frag} {H : Hp} {a : Addr} {u v w : V} {c d e : Dt} (h : SqT K H a [u, v, w]) (h0 : HasT K H u c) (h1 : HasT K H v d) (h2 : HasT K H w e) : HasT K H (.ref a) (.tup [c, d, e]) := by
  refine .tup h rfl fun i v x e1 e2 => ?_
  match i with
  | 0 => simp at e1 e2; subst e1 e2; exact h0
  | 1 => simp at e1 e2; subst e1 e2; exact h1
  | 2 => simp at e1 e2; subst e1 e2; exact h2
  | i + 3 => simp at e1
theorem intsT {K : PySem.W.Frag} {H : Hp} {a : Addr} {ns : List Int} (h : SqT K H a (ns.map V.int)) : HasT K H (.ref a) (.tup (ns.map .int)) := by
  refine .tup h (by rw [List.length_map, List.length_map]) fun i v x e1 e2 => ?_
  obtain ⟨n, en, rfl⟩ := getMapI e1
  rw [List.getElem?_map, en] at e2
  cases e2
  exact .int n
theorem RowAt.hasT {K : PySem.W.Frag} {H : Hp} {t : Addr} {r : Rw} (h : RowAt K H t r) : HasT K H (.ref t) (.tup [.tup (r.1.map .int), .int r.2]) := by
  obtain ⟨p, h1, h2⟩ := h
  exact tup2T h1 (intsT h2) (.int _)
theorem ChgAt.hasT {K : PySem.W.Frag} {H : Hp} {c : Addr} {ch : Chg} (h : ChgAt K H c ch) : HasT K H (.ref c) ch.d := by
  cases ch with
  | row r => obtain ⟨x, h1, h2⟩ := h; exact tup2T h1 (.str _) h2.hasT
  | less k => exact tup2T h (.str _) (.int _)
  | cost i z => exact tup3T h (.str _) (.int _) (.int _)
  | choice z => exact tup2T h (.str _) (.int _)
theorem cutTo {xs : List V} {k : Nat} (h : k ≤ xs.length) : cutV xs none (some (k : Int)) = xs.take k := by
  unfold cutV
  show (xs.drop 0).take ((if (k : Int) < 0 then ((k : Int) + (xs.length : Int)).toNat else min ((k : Int)).toNat xs.length) - 0) = _
  rw [if_neg (Int.not_lt.mpr (Int.natCast_nonneg k)), List.drop_zero, Int.toNat_natCast, Nat.min_eq_left h, Nat.sub_zero]
theorem cutFrom {xs : List V} {k : Nat} (h : k ≤ xs.length) : cutV xs (some (k : Int)) none = xs.drop k := by
  unfold cutV
  show (xs.drop (if (k : Int) < 0 then ((k : Int) + (xs.length : Int)).toNat else min ((k : Int)).toNat xs.length)).take (xs.length - (if (k : Int) < 0 then ((k : Int) + (xs.length : Int)).toNat else min ((k : Int)).toNat xs.length)) = _
  rw [if_neg (Int.not_lt.mpr (Int.natCast_nonneg k)), Int.toNat_natCast, Nat.min_eq_left h]
  apply List.take_of_length_le
  rw [List.length_drop]
  exact Nat.le_refl _
theorem rowsApp {K : PySem.W.Frag} {H : Hp} {vs ws : List V} {rs qs : List Rw} (h1 : RowsAre K H vs rs) (h2 : RowsAre K H ws qs) : RowsAre K H (vs ++ ws) (rs ++ qs) := by
  unfold RowsAre at *
  induction h1 with
  | nil => exact h2
  | cons a b ih => exact .cons a ih
theorem rowsCut {K : PySem.W.Frag} {H : Hp} {vs : List V} {rs : List Rw} (h : RowsAre K H vs rs) : ∀ k, RowsAre K H (vs.take k) (rs.take k) ∧ RowsAre K H (vs.drop k) (rs.drop k) := by
  unfold RowsAre at *
  induction h with
  | nil => intro k; cases k <;> exact ⟨.nil, .nil⟩
  | cons a b ih =>
    intro k
    cases k with
    | zero => exact ⟨.nil, .cons a b⟩
    | succ k => exact ⟨.cons a (ih k).1, (ih k).2⟩
theorem rw_isSome {n : Nat} {xs : List Dt} {d : Dt} (h : xs.length = n) : (rwT n (.tup [.tup xs, d])).isSome = ((xs ++ [d]).map wholeT).all id := by
  have e1 : (allT intT xs).isSome = (xs.map wholeT).all id := by
    rw [allT_isSome, List.all_map]
    congr 1
    funext x
    cases x <;> rfl
  rw [List.map_append, List.all_append, ← e1]
  cases d with
  | int z =>
    show (if xs.length = n then (allT intT xs).map fun ns => (ns, z) else none).isSome = _
    rw [if_pos h, Option.isSome_map]
    simp [wholeT]
  | non => simp [rwT, wholeT]
  | bl b => simp [rwT, wholeT]
  | str s => simp [rwT, wholeT]
  | tup ys => simp [rwT, wholeT]
  | lst ys => simp [rwT, wholeT]
theorem rw_short {n : Nat} {xs : List Dt} {d : Dt} (h : xs.length ≠ n) : rwT n (.tup [.tup xs, d]) = none := by
  cases d with
  | int z => exact if_neg h
  | non => rfl
  | bl b => rfl
  | str s => rfl
  | tup ys => rfl
  | lst ys => rfl
theorem allI_inv : ∀ {xs : List Dt} {ns : List Int}, allT intT xs = some ns → xs = ns.map .int := by
  intro xs
  induction xs with
  | nil => intro ns h; cases h; rfl
  | cons x t ih =>
    intro ns h
    obtain ⟨y, r, e1, e2, rfl⟩ := allT_cons h
    rw [List.map_cons, ← ih e2]
    cases x with
    | int i => cases e1; rfl
    | non => cases e1
    | bl b => cases e1
    | str s => cases e1
    | tup ys => cases e1
    | lst ys => cases e1
theorem rwT_some {n : Nat} {d : Dt} {r : Rw} (h : rwT n d = some r) : d = .tup [.tup (r.1.map .int), .int r.2] := by
  unfold rwT at h
  split at h
  · rename_i xs z
    split at h
    · obtain ⟨ns, e, rfl⟩ := Option.map_eq_some_iff.mp h
      rw [allI_inv e]
    · cases h
  · cases h
theorem rowT_inv {K : PySem.W.Frag} {H : Hp} {v : V} {r : Rw} (h : HasT K H v (.tup [.tup (r.1.map .int), .int r.2])) : ∃ x, v = .ref x ∧ RowAt K H x r := by
  obtain ⟨a, x, y, rfl, h1, h2, h3⟩ := h.pair_inv
  obtain ⟨b, us, rfl, g1, g2, g3⟩ := h2.tup_inv
  cases h3
  rw [List.length_map] at g2
  have e : us = r.1.map V.int := by
    apply List.ext_getElem?
    intro i
    by_cases hi : i < us.length
    · have q := g3 i us[i] (.int (r.1[i]'(by omega))) (List.getElem?_eq_getElem hi) (by rw [List.getElem?_map, List.getElem?_eq_getElem (by omega)]; rfl)
      rw [List.getElem?_eq_getElem hi, List.getElem?_map, List.getElem?_eq_getElem (by omega)]
      generalize us[i] = u at q
      cases q
      rfl
    · rw [List.getElem?_eq_none_iff.mpr (by omega), List.getElem?_eq_none_iff.mpr (by rw [List.length_map]; omega)]
  rw [e] at g1
  exact ⟨a, rfl, b, h1, g1⟩
noncomputable def spIsRow (K : PySem.W.Frag) : Sp := fun vs H Q _ => ∃ (v : V) (d : Dt) (n : Nat), vs = [v, .int (n : Int)] ∧ HasT K H v d ∧ n ≤ 100 ∧ ∀ H', Same H H' → Q (.bl (rwT n d).isSome) H'
noncomputable def Hand (K : PySem.W.Frag) (H : Hp) (t : Addr) (rs : List Rw) (cs : List Int) : Prop := ProbH K H t rs cs ∧ rs.length ≤ 100 ∧ cs.length ≤ 20 ∧ ∀ r ∈ rs, r.1.length = cs.length
theorem Hand.same {K : PySem.W.Frag} {H H' : Hp} {t : Addr} {rs : List Rw} {cs : List Int} (e : Same H H') (h : Hand K H t rs cs) : Hand K H' t rs cs := ⟨h.1.same e, h.2⟩
noncomputable def Told (K : PySem.W.Frag) (H : Hp) (Q : VK) (p : List Rw × List Int) : Prop := ∀ (T l c : Addr) (ws : List V) (H' : Hp), Same H H' → SqT K H' T [.ref l, .ref c] → H l = none → H' l = some (.lst ws) → RowsAre K H' ws p.1 → SqT K H' c (p.2.map V.int) → Q (.ref T) H'
noncomputable def spWith (K : PySem.W.Frag) (C : Addr) (w : Str) : Sp := fun vs H Q E => ∃ (t c : Addr) (us : List V) (rs : List Rw) (cs : List Int) (xs : List Dt), vs = [.ref t, .ref c] ∧ Hand K H t rs cs ∧ SqT K H c us ∧ us.length = xs.length ∧ (∀ (i : Nat) v x, us[i]? = some v → xs[i]? = some x → HasT K H v x) ∧ lenC w = some xs.length ∧
  (chgW rs cs w xs = none → ∀ H', Same H H' → E (.ref C) none H') ∧ ∀ p, chgW rs cs w xs = some p → Told K H Q p
noncomputable def spChanged (K : PySem.W.Frag) (C : Addr) : Sp := fun vs H Q E => ∃ (t : Addr) (v : V) (rs : List Rw) (cs : List Int) (d : Dt), vs = [.ref t, v] ∧ Hand K H t rs cs ∧ HasT K H v d ∧ (chgD rs cs d = none → ∀ H', Same H H' → E (.ref C) none H') ∧ ∀ p, chgD rs cs d = some p → Told K H Q p
noncomputable def spWide (K : PySem.W.Frag) : Sp := fun vs H Q _ => ∃ (t : Addr) (r : Rw), vs = [.ref t, .int 1] ∧ RowAt K H t r ∧ r.1.length ≤ 100 ∧ ∀ t' H', Same H H' → RowAt K H' t' (wide r) → Q (.ref t') H'
noncomputable def spCopy70 (K : PySem.W.Frag) : Sp := fun vs H Q _ => ∃ (t : Addr) (rs : List Rw) (cs : List Int), vs = [.ref t] ∧ ProbH K H t rs cs ∧ ∀ t' H', Same H H' → ProbH K H' t' rs cs → Q (.ref t') H'
noncomputable def spChange (K : PySem.W.Frag) : Sp := fun vs H Q _ => ∃ (t : Addr) (z : Int) (rs : List Rw) (cs : List Int), vs = [.ref t, .int z] ∧ Hand K H t rs cs ∧ ∀ (c : Addr) (ch : Chg) (H' : Hp), Same H H' → ChgAt K H' c ch → ch.ok rs.length cs.length → Q (.ref c) H'
noncomputable def spBent (K : PySem.W.Frag) : Sp := fun vs H Q _ => ∃ (t c : Addr) (z : Int) (rs : List Rw) (cs : List Int) (ch : Chg), vs = [.ref t, .ref c, .int z] ∧ Hand K H t rs cs ∧ ChgAt K H c ch ∧ ch.ok rs.length cs.length ∧ ∀ (v : V) (d : Dt) (H' : Hp), Same H H' → HasT K H' v d → chgD rs cs d = none → Q v H'
noncomputable def spDue70 (K : PySem.W.Frag) : Sp := fun vs H Q _ => ∃ (t c : Addr) (rs : List Rw) (cs : List Int) (ch : Chg), vs = [.ref t, .ref c] ∧ Hand K H t rs cs ∧ ChgAt K H c ch ∧ ch.ok rs.length cs.length ∧ ∀ (T : Addr) (H' : Hp), Same H H' → ProbH K H' T (ch.app rs cs).1 (ch.app rs cs).2 → Q (.ref T) H'
noncomputable def spRefused70 (K : PySem.W.Frag) : Sp := fun vs H Q _ => ∃ (t : Addr) (v : V) (rs : List Rw) (cs : List Int) (d : Dt), vs = [.ref t, v] ∧ Hand K H t rs cs ∧ HasT K H v d ∧ chgD rs cs d = none ∧ ∀ H', Same H H' → Q (.bl true) H'
structure JTab0 (w : World) (K : PySem.W.Frag) (mg : Str → Option Value) (aT aL : Addr) (fT fL : Str → Option Value) : Prop where
  tt : Tab w K mg "CHANGES" aT fT
  lt : Tab w K mg "LENGTHS" aL fL
  nt : ∃ v1 v2 v3 v4 : Value, mg "with_row" = some v1 ∧ mg "with_less" = some v2 ∧ mg "with_cost" = some v3 ∧ mg "with_choice" = some v4 ∧ ∀ s, fT s = if s = "row" then some v1 else if s = "less" then some v2 else if s = "cost" then some v3 else if s = "choice" then some v4 else none
  nl : ∃ t1 t2 t3 t4 : Tok, ∀ s, fL s = if s = "row" then some (.int 2 t1) else if s = "less" then some (.int 2 t2) else if s = "cost" then some (.int 3 t3) else if s = "choice" then some (.int 2 t4) else none
structure JTabs (P : Program) (w : World) (K : PySem.W.Frag) (mg : Str → Option Value) (base : Heap) (C aT aL : Addr) (fT fL : Str → Option Value) : Prop where
  tt : Tab w K mg "CHANGES" aT fT
  lt : Tab w K mg "LENGTHS" aL fL
  kt : ∀ s, (fT s).isSome = (lenC s).isSome
  kl : ∀ s n, lenC s = some n → ∃ tk, fL s = some (.int ((n : Nat) : Int) tk)
  ok : TabOkE P w K mg base C 4 fT ["problem", "change"] (spWith K C)
section
variable {P : Program} {w : World} {K : PySem.W.Frag} {mg : Str → Option Value} {base : Heap} {C D B1 B2 B3 : Addr} {aT aL : Addr} {fT fL : Str → Option Value}
theorem scIsRow : FnScope ["thing", "count"] ["thing", "count"] (defScope sIsRow) := ⟨rfl, rfl, rfl, by decide +kernel, rfl, by decide +kernel, by decide +kernel⟩
theorem okIsRow (F : Fn K mg "is_row" sIsRow) (M : Mg mg) (c_is_pair : Cal P w K mg base 1 "is_pair" ["thing"] (spIsPair K)) (c_is_whole : Cal P w K mg base 1 "is_whole" ["thing"] (spIsWhole K)) : Cal P w K mg base 2 "is_row" ["thing", "count"] (spIsRow K) := by
  refine cal_of F scIsRow (fun _ _ _ _ _ _ => bind2 (fun _ _ => rfl)) (fun vs H Q E h => ?_) (fun f cdv A outer s H vs Q E hr h => ?_)
  · obtain ⟨v, d, n, rfl, _⟩ := h
    rfl
  obtain ⟨v, d, n, rfl, hv, hn, q⟩ := h
  refine ⟨_, (pss_cons (ps_if (PW.pt (pw_or (pt_not (pt_val (pe_fn c_is_pair (hr.mono (by decide)) (pa_cons (pv 0) pa_nil)))) (pw_or (pt_not (pt_val (pe_callB call_isiW rfl M.isinstance bt_isinstance (pa_cons (pe_ix ix_tup (pv 0) pe_int (fun _ _ => rfl)) (pa_cons (pe_ty M.tuple_ bt_tuple) pa_nil))))) (pw_or1 (pt_cmpR op_ne (pe_callB call_len_seq rfl M.len bt_len (pa_cons (pe_ix ix_tup (pv 0) pe_int (fun _ _ => rfl)) pa_nil)) (pv 1) (nomark _)))))) (pss_one (ps_ret pe_bl)) pss_nil)
    (pss_one (ps_ret (pe_callB (call_allB rfl) rfl M.all bt_all (pa_cons (pe_lc ["number"] [none] rfl (pi_tup (pe_op op_catG (pe_ix ix_tup (pv 0) pe_int (fun _ _ => rfl)) (pe_slice sl_tupG (pv 0) (po_some pe_int) po_none))) (fun _ _ _ => (pg_name (i := 0) (show (["number"] : List Str).Nodup by decide +kernel) rfl (Or.inl rfl) (Or.inr rfl))) (fun _ _ _ => pf_nil) (fun _ _ _ => (pe_fn c_is_whole (hr.mono (by decide)) (pa_cons (pv 0) pa_nil)))) pa_nil))))), ?_⟩
  have hz : (1000 : Nat) < sizeLine := by decide
  have no : rwT n d = none → ∀ H', Same H H' → Q (.bl false) H' := fun e H' s' => by have := q H' s'; rw [e] at this; exact this
  refine ⟨_, rfl, v, d, rfl, hv, _, rfl, ?_⟩
  cases hp : pairT d with
  | false =>
    have e : rwT n d = none := by
      unfold rwT
      split
      · simp [pairT] at hp
      · rfl
    exact iteT (iteT (no e H (Same.refl H)))
  | true =>
    obtain ⟨d0, d1, rfl⟩ : ∃ d0 d1, d = .tup [d0, d1] := by
      unfold pairT at hp
      split at hp
      · exact ⟨_, _, rfl⟩
      · cases hp
    obtain ⟨a, x, y, rfl, hsq, h0, h1⟩ := hv.pair_inv
    refine iteF ⟨_, rfl, a, _, _, _, rfl, rfl, hsq, at0, _, "tuple", _, rfl, .tuple, h0.isi _, _, rfl, ?_⟩
    cases d0 with
    | tup xs =>
      obtain ⟨b, us, rfl, hb, hlen, hget⟩ := h0.tup_inv
      refine iteF ⟨_, rfl, a, _, _, _, rfl, rfl, hsq, at0, b, _, rfl, .inr hb, _, rfl, rfl, _, rfl, ?_⟩
      by_cases hl : xs.length = n
      · have e9 : (!decide (V.int ((us.length : Nat) : Int) = V.int (n : Int))) = false := by rw [hlen, hl, decide_eq_true rfl]; rfl
        rw [e9]
        refine iteF ⟨_, rfl, a, _, _, _, rfl, rfl, hsq, at0, _, rfl, 1, rfl, a, _, rfl, hsq, fun p H1 s1 hp1 => ?_⟩
        have hp2 : SqT K H1 p [y] := hp1
        refine ⟨b, p, us, [y], rfl, rfl, s1.tup hb, hp2, (by simp), by show us.length + 1 ≤ _; omega, fun p2 H2 s2 hp3 => ?_⟩
        have s12 := s1.trans s2
        refine ⟨p2, rfl, ⟨_, hp3⟩, fun D hD => ?_⟩
        refine lc_any (n := (us ++ [y]).length) (fun i τ ys H3 => ∃ v : Option V, τ = [v] ∧ ys = (((xs ++ [d1]).map wholeT).take i).map V.bl ∧ H3 D = some (.lst ys) ∧ Same H2 H3) ?_ (fun i τ ys H3 hi h => ?_) (fun i τ ys H3 hi h => ?_) (fun τ ys H3 h => ?_) ?_ ?_
        · exact ⟨none, rfl, rfl, upd_same, same_new' hD _⟩
        · obtain ⟨v, rfl, rfl, hE, s3⟩ := h
          rw [List.length_append] at hi
          exact ⟨hE, by rw [List.length_map, List.length_take]; simp at hi; omega⟩
        · obtain ⟨v, rfl, rfl, hE, s3⟩ := h
          exact ⟨_, (us ++ [y])[i], s3.tup hp3, List.getElem?_eq_getElem hi⟩
        · obtain ⟨v, rfl, rfl, hE, s3⟩ := h
          exact ⟨_, s3.tup hp3, Nat.le_refl _⟩
        · rintro i τ ys H3 x H4 hi ⟨v, rfl, rfl, hE, s3⟩ ⟨rfl, e1⟩
          have ex := e1 _ (s3.tup hp3)
          have hi' : i < (xs ++ [d1]).length := by rw [List.length_append] at hi ⊢; simp at hi ⊢; omega
          have hx : HasT K H2 x ((xs ++ [d1])[i]) := by
            by_cases hc : i < us.length
            · rw [List.getElem?_append_left hc] at ex
              have : (xs ++ [d1])[i] = xs[i]'(by omega) := List.getElem_append_left (by omega)
              rw [this]
              exact (hget i x _ ex (List.getElem?_eq_getElem (by omega))).same s12
            · have hi2 : i = us.length := by rw [List.length_append] at hi; simp at hi; omega
              subst hi2
              rw [List.getElem?_append_right (Nat.le_refl _), Nat.sub_self] at ex
              have ex' : y = x := Option.some.inj ex
              have : (xs ++ [d1])[us.length] = d1 := by simp [hlen]
              rw [this, ← ex']
              exact h1.same s12
          have eU : ((xs ++ [d1]).map wholeT)[i]? = some (wholeT ((xs ++ [d1])[i])) := by rw [List.getElem?_map, List.getElem?_eq_getElem hi']; rfl
          refine ⟨_, rfl, x, _, rfl, hx.same s3, hE, _, rfl, ?_, upd_same, fun b' o e => ?_⟩
          · rw [takeS eU, List.map_append (f := V.bl)]; rfl
          · rw [upd_ne (ne_of_none e hD)]; exact s3 _ _ e
        rintro τ ys H3 ⟨v, rfl, rfl, hE, s3⟩
        rw [List.take_of_length_le (by rw [List.length_map, List.length_append, List.length_append, hlen]; simp)] at hE
        refine ⟨D, _, rfl, sqL_new hE, ?_⟩
        rw [← rw_isSome hl]
        exact q H3 (s12.trans s3)
      · have e9 : (!decide (V.int ((us.length : Nat) : Int) = V.int (n : Int))) = true := by rw [hlen, decide_eq_false (fun z => hl (by have := V.int.inj z; omega))]; rfl
        rw [e9]
        exact iteT (no (rw_short hl) H (Same.refl H))
    | int i => exact iteT (iteT (no rfl H (Same.refl H)))
    | non => exact iteT (iteT (no rfl H (Same.refl H)))
    | bl b => exact iteT (iteT (no rfl H (Same.refl H)))
    | str s => exact iteT (iteT (no rfl H (Same.refl H)))
    | lst xs => exact iteT (iteT (no rfl H (Same.refl H)))
theorem scWidened : FnScope ["row", "more"] ["row", "more"] (defScope sWidened) := ⟨rfl, rfl, rfl, by decide +kernel, rfl, by decide +kernel, by decide +kernel⟩
theorem okWidened (F : Fn K mg "widened" sWidened) (M : Mg mg) : Cal P w K mg base 1 "widened" ["row", "more"] (spWide K) := by
  refine cal_of F scWidened (fun _ _ _ _ _ _ => bind2 (fun _ _ => rfl)) (fun vs H Q E h => ?_) (fun f cdv A outer s H vs Q E hr h => ?_)
  · obtain ⟨t, r, rfl, _⟩ := h
    rfl
  obtain ⟨t, r, rfl, ⟨p, r1, r2⟩, hn, q⟩ := h
  refine ⟨_, (pss_one (ps_ret (pe_tup (pa_cons (pe_op op_catG (pe_ix ix_tup (pv 0) pe_int (fun _ _ => rfl)) (pe_op op_repT (pe_tup (pa_cons pe_int pa_nil)) (pv 1))) (pa_cons (pe_ix ix_tup (pv 0) pe_int (fun _ _ => rfl)) pa_nil))))), ?_⟩
  have hz : (1000 : Nat) < sizeLine := by decide
  refine ⟨_, rfl, t, _, _, _, rfl, rfl, r1, at0, by show 1 ≤ sizeLine; decide, fun p1 hp1 => ?_⟩
  have s1 := same_new' (H := H) hp1 (.tup [.int 0])
  refine ⟨_, rfl, p1, 1, [.int 0], rfl, rfl, sqT_new upd_same, by decide, by decide, by show 1 * 1 ≤ sizeLine; decide, fun p2 H2 s2 hp2 => ?_⟩
  have hp2' : SqT K H2 p2 [.int 0] := hp2
  have s12 := s1.trans s2
  refine ⟨p, p2, _, _, rfl, rfl, s12.tup r2, hp2', (by simp), by rw [List.length_map]; show _ + 1 ≤ _; omega, fun p3 H3 s3 hp3 => ?_⟩
  have s13 := s12.trans s3
  refine ⟨_, rfl, t, _, _, _, rfl, rfl, s13.tup r1, at1, by show 2 ≤ sizeLine; decide, fun T hT => ?_⟩
  have s4 := same_new' (H := H3) hT (.tup [.ref p3, .int r.2])
  refine q T _ (s13.trans s4) ⟨p3, sqT_new upd_same, s4.tup ?_⟩
  show SqT K H3 p3 ((r.1 ++ [0]).map V.int)
  rw [List.map_append]
  exact hp3
end
end Nb
namespace Nb
open PySem L2
noncomputable abbrev sWithRow : Stmt := top 12
noncomputable abbrev sWithLess : Stmt := top 13
section
variable {P : Program} {w : World} {K : PySem.W.Frag} {mg : Str → Option Value} {base : Heap} {C D B1 B2 B3 : Addr} {aT aL : Addr} {fT fL : Str → Option Value}
theorem scWithRow : FnScope ["problem", "change", "row"] ["problem", "change"] (defScope sWithRow) := ⟨rfl, rfl, rfl, by decide +kernel, rfl, by decide +kernel, by decide +kernel⟩
theorem okWithRow (F : Fn K mg "with_row" sWithRow) (M : Mg mg) (ER : Errs K mg C D B1 B2 B3) (c_is_row : Cal P w K mg base 2 "is_row" ["thing", "count"] (spIsRow K)) : CalE P w K mg base C 4 "with_row" ["problem", "change"] (spWith K C "row") := by
  refine calE_of F scWithRow (fun _ _ _ _ _ _ => bind2 (fun _ _ => rfl)) (fun vs H Q E h => ?_) (fun f cdv A outer s H vs Q E hr h => ?_)
  · obtain ⟨t, c, us, rs, cs, xs, rfl, _⟩ := h
    rfl
  obtain ⟨t, c, us, rs, cs, xs, rfl, ⟨⟨l, cc, vs, ht, hl, hrw, hcc⟩, hrn, hcn, hrl⟩, hc, hlen, hget, hw, en, qs⟩ := h
  refine ⟨_, (pss_cons (ps_set (i := 2) scWithRow.nd rfl (Or.inl rfl) (pe_ix ix_tup (pv 1) pe_int (fun _ _ => rfl)))
    (pss_cons (ps_if (pt_not (pt_val (pe_fn c_is_row (hr.mono (by decide)) (pa_cons (pv 2) (pa_cons (pe_callB call_len_seq rfl M.len bt_len (pa_cons (pe_ix ix_tup (pv 0) pe_int (fun _ _ => rfl)) pa_nil)) pa_nil))))) (pss_one (ps_raise ER.err_NoStep (pa_cons pe_str pa_nil))) pss_nil)
    (pss_one (ps_ret (pe_tup (pa_cons (pe_op op_cat (pe_ix ix_tup (pv 0) pe_int (fun _ _ => rfl)) (pe_lst (pa_cons (pv 2) pa_nil))) (pa_cons (pe_ix ix_tup (pv 0) pe_int (fun _ _ => rfl)) pa_nil))))))), ?_⟩
  refine seq_let3 ?_
  intro rT3 rT2
  have hz : (1000 : Nat) < sizeLine := by decide
  have lv := hrw.length
  have hx2 : xs.length = 2 := (Option.some.inj (show some 2 = some xs.length from hw)).symm
  obtain ⟨x0, x1, rfl⟩ := len2 hx2
  obtain ⟨v0, v1, rfl⟩ := len2 (show us.length = 2 from hlen)
  have h1 := hget 1 v1 x1 rfl rfl
  have eW : chgW rs cs "row" [x0, x1] = (rwT cs.length x1).map fun r => (rs ++ [r], cs) := rfl
  rw [eW] at en qs
  refine ⟨_, rfl, c, _, _, _, rfl, rfl, hc, (show atI [v0, v1] 1 = some v1 from rfl), ?_⟩
  refine ⟨_, rfl, _, rfl, t, _, _, _, rfl, rfl, ht, at1, cc, _, rfl, .inr hcc, v1, x1, (cs.map V.int).length, rfl, h1, by rw [List.length_map]; omega, fun H1 s1 => ⟨_, rfl, ?_⟩⟩
  rw [List.length_map]
  cases e : rwT cs.length x1 with
  | none =>
    rw [e] at en
    exact iteT ⟨by show 1 ≤ 5; decide, en rfl H1 s1⟩
  | some r =>
    rw [e] at qs
    rw [rwT_some e] at h1
    obtain ⟨x, rfl, hr'⟩ := rowT_inv h1
    refine iteF ⟨_, rfl, t, _, _, _, rfl, rfl, s1.tup ht, at0, _, rfl, by show 1 ≤ sizeLine; decide, fun p hp => ?_⟩
    have s2 := s1.trans (same_new' hp (.lst [.ref x]))
    refine ⟨l, p, vs, [.ref x], rfl, rfl, s2 _ _ hl, upd_same, by show vs.length + 1 ≤ _; omega, fun g hg => ?_⟩
    have s3 := s2.trans (same_new' hg (.lst (vs ++ [.ref x])))
    refine ⟨_, rfl, t, _, _, _, rfl, rfl, s3.tup ht, at1, by show 2 ≤ sizeLine; decide, fun T hT => ?_⟩
    have a4 := same_new' hT (.tup [.ref g, .ref cc])
    have s4 := s3.trans a4
    exact qs _ rfl T g cc _ _ s4 (sqT_new upd_same) (fresh_back s2 hg) (a4 _ _ upd_same) (RowsAre.snoc (hrw.imp fun _ _ z => z.same s4) (hr'.same s4)) (s4.tup hcc)
theorem scWithLess : FnScope ["problem", "change", "number"] ["problem", "change"] (defScope sWithLess) := ⟨rfl, rfl, rfl, by decide +kernel, rfl, by decide +kernel, by decide +kernel⟩
theorem okWithLess (F : Fn K mg "with_less" sWithLess) (M : Mg mg) (ER : Errs K mg C D B1 B2 B3) (c_is_number_of : Cal P w K mg base 2 "is_number_of" ["thing", "count"] (spIsNum K)) : CalE P w K mg base C 4 "with_less" ["problem", "change"] (spWith K C "less") := by
  refine calE_of F scWithLess (fun _ _ _ _ _ _ => bind2 (fun _ _ => rfl)) (fun vs H Q E h => ?_) (fun f cdv A outer s H vs Q E hr h => ?_)
  · obtain ⟨t, c, us, rs, cs, xs, rfl, _⟩ := h
    rfl
  obtain ⟨t, c, us, rs, cs, xs, rfl, ⟨⟨l, cc, vs, ht, hl, hrw, hcc⟩, hrn, hcn, hrl⟩, hc, hlen, hget, hw, en, qs⟩ := h
  refine ⟨_, (pss_cons (ps_set (i := 2) scWithLess.nd rfl (Or.inl rfl) (pe_ix ix_tup (pv 1) pe_int (fun _ _ => rfl)))
    (pss_cons (ps_if (pt_not (pt_val (pe_fn c_is_number_of (hr.mono (by decide)) (pa_cons (pv 2) (pa_cons (pe_callB call_len_seq rfl M.len bt_len (pa_cons (pe_ix ix_tup (pv 0) pe_int (fun _ _ => rfl)) pa_nil)) pa_nil))))) (pss_one (ps_raise ER.err_NoStep (pa_cons pe_str pa_nil))) pss_nil)
    (pss_one (ps_ret (pe_tup (pa_cons (pe_op op_cat (pe_slice sl_list (pe_ix ix_tup (pv 0) pe_int (fun _ _ => rfl)) po_none (po_some (pv 2))) (pe_slice sl_list (pe_ix ix_tup (pv 0) pe_int (fun _ _ => rfl)) (po_some (pe_op op_add (pv 2) pe_int)) po_none)) (pa_cons (pe_ix ix_tup (pv 0) pe_int (fun _ _ => rfl)) pa_nil))))))), ?_⟩
  refine seq_let3 ?_
  intro rT3 rT2
  have hz : (1000 : Nat) < sizeLine := by decide
  have lv := hrw.length
  have hx2 : xs.length = 2 := (Option.some.inj (show some 2 = some xs.length from hw)).symm
  obtain ⟨x0, x1, rfl⟩ := len2 hx2
  obtain ⟨v0, v1, rfl⟩ := len2 (show us.length = 2 from hlen)
  have h1 := hget 1 v1 x1 rfl rfl
  have eW : chgW rs cs "less" [x0, x1] = (numT rs.length x1).map fun k => (rs.take k ++ rs.drop (k + 1), cs) := rfl
  rw [eW] at en qs
  refine ⟨_, rfl, c, _, _, _, rfl, rfl, hc, (show atI [v0, v1] 1 = some v1 from rfl), ?_⟩
  refine ⟨_, rfl, _, rfl, t, _, _, _, rfl, rfl, ht, at0, l, _, rfl, .inl (sqL_new hl), v1, x1, vs.length, rfl, h1, _, rfl, ?_⟩
  rw [lv]
  cases e : numT rs.length x1 with
  | none =>
    rw [e] at en
    exact iteT ⟨by show 1 ≤ 5; decide, en rfl H (Same.refl H)⟩
  | some k =>
    rw [e] at qs
    obtain ⟨e1, hk⟩ := numT_some e
    subst e1
    cases h1
    have cut1 := cutTo (xs := vs) (k := k) (by omega)
    have cut2 : cutV vs (some ((k : Int) + 1)) none = vs.drop (k + 1) := cutFrom (xs := vs) (k := k + 1) (by omega)
    refine iteF ⟨_, rfl, t, _, _, _, rfl, rfl, ht, at0, _, rfl, _, rfl, l, vs, rfl, sqL_new hl, fun p hp => ?_⟩
    rw [cut1]
    have s1 := same_new' hp (.lst (vs.take k))
    refine ⟨_, rfl, t, _, _, _, rfl, rfl, s1.tup ht, at0, _, rfl, _, _, rfl, rfl, _, rfl, l, vs, rfl, sqL_new (s1 _ _ hl), fun p2 hp2 => ?_⟩
    rw [cut2]
    have a2 := same_new' hp2 (.lst (vs.drop (k + 1)))
    have s2 := s1.trans a2
    refine ⟨p, p2, _, _, rfl, rfl, a2 _ _ upd_same, upd_same, by rw [List.length_take, List.length_drop]; omega, fun g hg => ?_⟩
    have s3 := s2.trans (same_new' hg (.lst (vs.take k ++ vs.drop (k + 1))))
    refine ⟨_, rfl, t, _, _, _, rfl, rfl, s3.tup ht, at1, by show 2 ≤ sizeLine; decide, fun T hT => ?_⟩
    have a4 := same_new' hT (.tup [.ref g, .ref cc])
    have s4 := s3.trans a4
    have hr4 : RowsAre K _ vs rs := hrw.imp fun _ _ z => z.same s4
    exact qs _ rfl T g cc _ _ s4 (sqT_new upd_same) (fresh_back s2 hg) (a4 _ _ upd_same) (rowsApp (rowsCut hr4 k).1 (rowsCut hr4 (k + 1)).2) (s4.tup hcc)
end
end Nb
namespace Nb
open PySem L2
noncomputable abbrev sWithCost : Stmt := top 14
noncomputable abbrev sWithChoice : Stmt := top 15
section
variable {P : Program} {w : World} {K : PySem.W.Frag} {mg : Str → Option Value} {base : Heap} {C D B1 B2 B3 : Addr} {aT aL : Addr} {fT fL : Str → Option Value}
theorem scWithCost : FnScope ["problem", "change", "choice"] ["problem", "change"] (defScope sWithCost) := ⟨rfl, rfl, rfl, by decide +kernel, rfl, by decide +kernel, by decide +kernel⟩
theorem okWithCost (F : Fn K mg "with_cost" sWithCost) (M : Mg mg) (ER : Errs K mg C D B1 B2 B3) (c_is_number_of : Cal P w K mg base 2 "is_number_of" ["thing", "count"] (spIsNum K)) (c_is_whole : Cal P w K mg base 1 "is_whole" ["thing"] (spIsWhole K)) : CalE P w K mg base C 4 "with_cost" ["problem", "change"] (spWith K C "cost") := by
  refine calE_of F scWithCost (fun _ _ _ _ _ _ => bind2 (fun _ _ => rfl)) (fun vs H Q E h => ?_) (fun f cdv A outer s H vs Q E hr h => ?_)
  · obtain ⟨t, c, us, rs, cs, xs, rfl, _⟩ := h
    rfl
  obtain ⟨t, c, us, rs, cs, xs, rfl, ⟨⟨l, cc, vs, ht, hl, hrw, hcc⟩, hrn, hcn, hrl⟩, hc, hlen, hget, hw, en, qs⟩ := h
  refine ⟨_, (pss_cons (ps_set (i := 2) scWithCost.nd rfl (Or.inl rfl) (pe_ix ix_tup (pv 1) pe_int (fun _ _ => rfl)))
    (pss_cons (ps_if (PW.pt (pw_or (pt_not (pt_val (pe_fn c_is_number_of (hr.mono (by decide)) (pa_cons (pv 2) (pa_cons (pe_callB call_len_seq rfl M.len bt_len (pa_cons (pe_ix ix_tup (pv 0) pe_int (fun _ _ => rfl)) pa_nil)) pa_nil))))) (pw_or1 (pt_not (pt_val (pe_fn c_is_whole (hr.mono (by decide)) (pa_cons (pe_ix ix_tup (pv 1) pe_int (fun _ _ => rfl)) pa_nil))))))) (pss_one (ps_raise ER.err_NoStep (pa_cons pe_str pa_nil))) pss_nil)
    (pss_one (ps_ret (pe_tup (pa_cons (pe_callTy call_list_of rfl M.list_ bt_list (pa_cons (pe_ix ix_tup (pv 0) pe_int (fun _ _ => rfl)) pa_nil)) (pa_cons (pe_op op_catT (pe_op op_catG (pe_slice sl_tupG (pe_ix ix_tup (pv 0) pe_int (fun _ _ => rfl)) po_none (po_some (pv 2))) (pe_tup (pa_cons (pe_ix ix_tup (pv 1) pe_int (fun _ _ => rfl)) pa_nil))) (pe_slice sl_tupG (pe_ix ix_tup (pv 0) pe_int (fun _ _ => rfl)) (po_some (pe_op op_add (pv 2) pe_int)) po_none)) pa_nil))))))), ?_⟩
  refine seq_let3 ?_
  intro rT3 rT2
  have hz : (1000 : Nat) < sizeLine := by decide
  have lv := hrw.length
  have hx3 : xs.length = 3 := (Option.some.inj (show some 3 = some xs.length from hw)).symm
  obtain ⟨x0, x1, x2, rfl⟩ := len3 hx3
  obtain ⟨v0, v1, v2, rfl⟩ := len3 (show us.length = 3 from hlen)
  have h1 := hget 1 v1 x1 rfl rfl
  have h2 := hget 2 v2 x2 rfl rfl
  have hcl : (cs.map V.int).length = cs.length := List.length_map _
  refine ⟨_, rfl, c, _, _, _, rfl, rfl, hc, (show atI [v0, v1, v2] 1 = some v1 from rfl), ?_⟩
  refine ⟨_, rfl, _, rfl, t, _, _, _, rfl, rfl, ht, at1, cc, _, rfl, .inr hcc, v1, x1, (cs.map V.int).length, rfl, h1, _, rfl, ?_⟩
  rw [hcl]
  cases e : numT cs.length x1 with
  | none =>
    have eN : chgW rs cs "cost" [x0, x1, x2] = none := by
      show chCost rs cs [x0, x1, x2] = none
      cases x2 with
      | int z => show (numT cs.length x1).map _ = none; rw [e]; rfl
      | non => rfl
      | bl b => rfl
      | str s => rfl
      | tup ys => rfl
      | lst ys => rfl
    exact iteT (iteT ⟨by show 1 ≤ 5; decide, en eN H (Same.refl H)⟩)
  | some k =>
    refine iteF ⟨_, rfl, c, _, _, _, rfl, rfl, hc, (show atI [v0, v1, v2] 2 = some v2 from rfl), v2, x2, rfl, h2, _, rfl, ?_⟩
    cases x2 with
    | int z =>
      have eW : chgW rs cs "cost" [x0, x1, .int z] = (numT cs.length x1).map fun i => (rs, (cs.take i ++ [z]) ++ cs.drop (i + 1)) := rfl
      rw [eW, e] at qs
      obtain ⟨e1, hk⟩ := numT_some e
      subst e1
      cases h1
      cases h2
      have cut1 : cutV (cs.map V.int) none (some (k : Int)) = (cs.take k).map V.int := by rw [cutTo (by omega), List.map_take]
      have cut2 : cutV (cs.map V.int) (some ((k : Int) + 1)) none = (cs.drop (k + 1)).map V.int := (cutFrom (xs := cs.map V.int) (k := k + 1) (by omega)).trans (by rw [List.map_drop])
      refine iteF ⟨_, rfl, t, _, _, _, rfl, rfl, ht, at0, l, _, rfl, .inl (sqL_new hl), fun g hg => ?_⟩
      have s1 := same_new' hg (.lst vs)
      have hg1 : upd H g (.lst vs) g = some (.lst vs) := upd_same
      have gH := hg
      generalize upd H g (.lst vs) = G1 at s1 hg1 ⊢
      refine ⟨_, rfl, t, _, _, _, rfl, rfl, s1.tup ht, at1, _, rfl, _, rfl, cc, _, rfl, s1.tup hcc, fun p1 H1 b1 hp1 => ?_⟩
      rw [cut1] at hp1
      have s2 := s1.trans b1
      refine ⟨_, rfl, c, _, _, _, rfl, rfl, s2.tup hc, (show atI [v0, V.int (k : Int), V.int z] 2 = some (.int z) from rfl), by show 1 ≤ sizeLine; decide, fun p2 hp2 => ?_⟩
      have a2 := same_new' (H := H1) hp2 (.tup [.int z])
      refine ⟨p1, p2, _, _, rfl, rfl, a2.tup hp1, sqT_new upd_same, by simp, by rw [List.length_map, List.length_take]; show _ + 1 ≤ _; omega, fun p3 H3 b3 hp3 => ?_⟩
      have b13 := (b1.trans a2).trans b3
      have s3 := s1.trans b13
      refine ⟨_, rfl, t, _, _, _, rfl, rfl, s3.tup ht, at1, _, rfl, _, _, rfl, rfl, _, rfl, cc, _, rfl, s3.tup hcc, fun p4 H4 b4 hp4 => ?_⟩
      rw [cut2] at hp4
      have b14 := b13.trans b4
      have s4 := s1.trans b14
      have eC : ((cs.take k ++ [z]) ++ cs.drop (k + 1)).map V.int = ((cs.take k).map V.int ++ [V.int z]) ++ (cs.drop (k + 1)).map V.int := by rw [List.map_append, List.map_append]; rfl
      refine ⟨p3, p4, _, _, rfl, rfl, b4.tup hp3, hp4, by simp, by rw [List.length_append, List.length_map, List.length_map, List.length_take, List.length_drop]; show _ + 1 + _ ≤ _; omega, fun he => ?_, fun he p5 hp5 => ?_⟩
      · refine ⟨by show 2 ≤ sizeLine; decide, fun T hT => ?_⟩
        have a6 := same_new' (H := H4) hT (.tup [.ref g, .ref p3])
        refine qs _ rfl T g p3 _ _ (s4.trans a6) (sqT_new upd_same) gH (a6 _ _ (b14 _ _ hg1)) (hrw.imp fun _ _ z => z.same (s4.trans a6)) ?_
        show SqT K _ p3 (((cs.take k ++ [z]) ++ cs.drop (k + 1)).map V.int)
        rw [eC, he, List.append_nil]
        exact (b4.trans a6).tup hp3
      · have a5 := same_new' (H := H4) hp5 (.tup (((cs.take k).map V.int ++ [V.int z]) ++ (cs.drop (k + 1)).map V.int))
        refine ⟨by show 2 ≤ sizeLine; decide, fun T hT => ?_⟩
        have a6 := a5.trans (same_new' hT (.tup [.ref g, .ref p5]))
        refine qs _ rfl T g p5 _ _ (s4.trans a6) (sqT_new upd_same) gH (a6 _ _ (b14 _ _ hg1)) (hrw.imp fun _ _ z => z.same (s4.trans a6)) ?_
        show SqT K _ p5 (((cs.take k ++ [z]) ++ cs.drop (k + 1)).map V.int)
        rw [eC]
        exact (same_new' hT _).tup (sqT_new upd_same)
    | non => exact iteT ⟨by show 1 ≤ 5; decide, en rfl H (Same.refl H)⟩
    | bl b => exact iteT ⟨by show 1 ≤ 5; decide, en rfl H (Same.refl H)⟩
    | str s => exact iteT ⟨by show 1 ≤ 5; decide, en rfl H (Same.refl H)⟩
    | tup ys => exact iteT ⟨by show 1 ≤ 5; decide, en rfl H (Same.refl H)⟩
    | lst ys => exact iteT ⟨by show 1 ≤ 5; decide, en rfl H (Same.refl H)⟩
theorem scWithChoice : FnScope ["problem", "change"] ["problem", "change"] (defScope sWithChoice) := ⟨rfl, rfl, rfl, by decide +kernel, rfl, by decide +kernel, by decide +kernel⟩
theorem okWithChoice (F : Fn K mg "with_choice" sWithChoice) (M : Mg mg) (ER : Errs K mg C D B1 B2 B3) (c_is_whole : Cal P w K mg base 1 "is_whole" ["thing"] (spIsWhole K)) (c_widened : Cal P w K mg base 1 "widened" ["row", "more"] (spWide K)) : CalE P w K mg base C 4 "with_choice" ["problem", "change"] (spWith K C "choice") := by
  refine calE_of F scWithChoice (fun _ _ _ _ _ _ => bind2 (fun _ _ => rfl)) (fun vs H Q E h => ?_) (fun f cdv A outer s H vs Q E hr h => ?_)
  · obtain ⟨t, c, us, rs, cs, xs, rfl, _⟩ := h
    rfl
  obtain ⟨t, c, us, rs, cs, xs, rfl, ⟨⟨l, cc, vs, ht, hl, hrw, hcc⟩, hrn, hcn, hrl⟩, hc, hlen, hget, hw, en, qs⟩ := h
  refine ⟨_, (pss_cons (ps_if (pt_not (pt_val (pe_fn c_is_whole (hr.mono (by decide)) (pa_cons (pe_ix ix_tup (pv 1) pe_int (fun _ _ => rfl)) pa_nil)))) (pss_one (ps_raise ER.err_NoStep (pa_cons pe_str pa_nil))) pss_nil)
    (pss_one (ps_ret (pe_tup (pa_cons (pe_lc ["row"] [none] rfl (pi_list (pe_ix ix_tup (pv 0) pe_int (fun _ _ => rfl))) (fun _ _ _ => (pg_name (i := 0) (show (["row"] : List Str).Nodup by decide +kernel) rfl (Or.inl rfl) (Or.inr rfl))) (fun _ _ _ => pf_nil) (fun _ _ _ => (pe_fn c_widened (hr.mono (by decide)) (pa_cons (pv 0) (pa_cons pe_int pa_nil))))) (pa_cons (pe_op op_catG (pe_ix ix_tup (pv 0) pe_int (fun _ _ => rfl)) (pe_tup (pa_cons (pe_ix ix_tup (pv 1) pe_int (fun _ _ => rfl)) pa_nil))) pa_nil)))))), ?_⟩
  have hz : (1000 : Nat) < sizeLine := by decide
  have lv := hrw.length
  have hx2 : xs.length = 2 := (Option.some.inj (show some 2 = some xs.length from hw)).symm
  obtain ⟨x0, x1, rfl⟩ := len2 hx2
  obtain ⟨v0, v1, rfl⟩ := len2 (show us.length = 2 from hlen)
  have h1 := hget 1 v1 x1 rfl rfl
  refine ⟨_, rfl, c, _, _, _, rfl, rfl, hc, (show atI [v0, v1] 1 = some v1 from rfl), v1, x1, rfl, h1, _, rfl, ?_⟩
  cases x1 with
  | int z =>
    have eW : chgW rs cs "choice" [x0, .int z] = some (rs.map wide, cs ++ [z]) := rfl
    cases h1
    refine iteF ⟨_, rfl, t, _, _, _, rfl, rfl, ht, at0, l, rfl, ⟨_, sqL_new hl⟩, fun D hD => ?_⟩
    refine lc_any (n := rs.length) (fun i τ ys H1 => ∃ v : Option V, τ = [v] ∧ RowsAre K H1 ys ((rs.map wide).take i) ∧ H1 D = some (.lst ys) ∧ Same H H1) ?_ (fun i τ ys H1 hi h => ?_) (fun i τ ys H1 hi h => ?_) (fun τ ys H1 h => ?_) ?_ ?_
    · exact ⟨none, rfl, .nil, upd_same, same_new' hD _⟩
    · obtain ⟨v, rfl, ta, hE, s1⟩ := h
      have := ta.length
      rw [List.length_take, List.length_map] at this
      exact ⟨hE, by omega⟩
    · obtain ⟨v, rfl, ta, hE, s1⟩ := h
      exact ⟨vs, vs[i]'(by omega), s1.seq (sqL_new hl), List.getElem?_eq_getElem (by omega)⟩
    · obtain ⟨v, rfl, ta, hE, s1⟩ := h
      exact ⟨vs, s1.seq (sqL_new hl), by omega⟩
    · rintro i τ ys H1 x H2 hi ⟨v, rfl, ta, hE, s1⟩ ⟨rfl, e1⟩
      obtain ⟨t', r, rfl, er, hrt⟩ := hrw.get (e1 _ (s1.seq (sqL_new hl)))
      have eU : (rs.map wide)[i]? = some (wide r) := by rw [List.getElem?_map, er]; rfl
      have lr := hrl r (List.mem_of_getElem? er)
      refine ⟨_, rfl, t', r, rfl, hrt.same s1, by omega, fun t2 H3 s3 rt2 => ⟨s3 _ _ hE, _, rfl, ?_, upd_same, fun b' o e => ?_⟩⟩
      · rw [takeS eU]
        exact RowsAre.snoc (ta.imp fun _ _ z => (z.same s3).upd (s3 _ _ hE)) (rt2.upd (s3 _ _ hE))
      · rw [upd_ne (ne_of_none e hD)]; exact s3 _ _ (s1 _ _ e)
    rintro τ ys H1 ⟨v, rfl, ta, hE, s1⟩
    rw [List.take_of_length_le (by rw [List.length_map]; exact Nat.le_refl _)] at ta
    refine ⟨_, rfl, t, _, _, _, rfl, rfl, s1.tup ht, at1, _, rfl, c, _, _, _, rfl, rfl, s1.tup hc, (show atI [v0, V.int z] 1 = some (.int z) from rfl), by show 1 ≤ sizeLine; decide, fun p hp => ?_⟩
    have a2 := same_new' (H := H1) hp (.tup [.int z])
    refine ⟨cc, p, _, _, rfl, rfl, (s1.trans a2).tup hcc, sqT_new upd_same, (by simp), by rw [List.length_map]; show _ + 1 ≤ _; omega, fun p2 H3 s3 hp2 => ?_⟩
    have b3 := a2.trans s3
    refine ⟨by show 2 ≤ sizeLine; decide, fun T hT => ?_⟩
    have a4 := same_new' (H := H3) hT (.tup [.ref D, .ref p2])
    have b4 := b3.trans a4
    refine qs _ eW T D p2 ys _ (s1.trans b4) (sqT_new upd_same) hD (b4 _ _ hE) (ta.imp fun _ _ z => z.same b4) ?_
    show SqT K _ p2 ((cs ++ [z]).map V.int)
    rw [List.map_append]
    exact a4.tup hp2
  | non => exact iteT ⟨by show 1 ≤ 5; decide, en rfl H (Same.refl H)⟩
  | bl b => exact iteT ⟨by show 1 ≤ 5; decide, en rfl H (Same.refl H)⟩
  | str s => exact iteT ⟨by show 1 ≤ 5; decide, en rfl H (Same.refl H)⟩
  | tup ys => exact iteT ⟨by show 1 ≤ 5; decide, en rfl H (Same.refl H)⟩
  | lst ys => exact iteT ⟨by show 1 ≤ 5; decide, en rfl H (Same.refl H)⟩
end
end Nb
namespace Nb
open PySem L2
noncomputable abbrev sChanged : Stmt := top 18
section
variable {P : Program} {w : World} {K : PySem.W.Frag} {mg : Str → Option Value} {base : Heap} {C D B1 B2 B3 : Addr} {aT aL : Addr} {fT fL : Str → Option Value}
theorem scChanged : FnScope ["problem", "change", "word"] ["problem", "change"] (defScope sChanged) := ⟨rfl, rfl, rfl, by decide +kernel, rfl, by decide +kernel, by decide +kernel⟩
theorem okChanged (F : Fn K mg "changed" sChanged) (M : Mg mg) (JT : JTabs P w K mg base C aT aL fT fL) (ER : Errs K mg C D B1 B2 B3) : CalE P w K mg base C 5 "changed" ["problem", "change"] (spChanged K C) := by
  refine calE_of F scChanged (fun _ _ _ _ _ _ => bind2 (fun _ _ => rfl)) (fun vs H Q E h => ?_) (fun f cdv A outer s H vs Q E hr h => ?_)
  · obtain ⟨t, v, rs, cs, d, rfl, _⟩ := h
    rfl
  obtain ⟨t, v, rs, cs, d, rfl, hP, hv, en, qs⟩ := h
  refine ⟨_, (pss_cons (ps_if (PW.pt (pw_or (pt_not (pt_val (pe_callB call_isiW rfl M.isinstance bt_isinstance (pa_cons (pv 1) (pa_cons (pe_ty M.tuple_ bt_tuple) pa_nil))))) (pw_or (pt_cmpR op_eq (pe_callB call_len_seq rfl M.len bt_len (pa_cons (pv 1) pa_nil)) pe_int (nomark _)) (pw_or1 (pt_not (pt_val (pe_callB call_isiW rfl M.isinstance bt_isinstance (pa_cons (pe_ix ix_tup (pv 1) pe_int (fun _ _ => rfl)) (pa_cons (pe_ty M.str_ bt_str) pa_nil))))))))) (pss_one (ps_raise ER.err_NoStep (pa_cons pe_str pa_nil))) pss_nil)
    (pss_cons (ps_set (i := 2) scChanged.nd rfl (Or.inl rfl) (pe_ix ix_tup (pv 1) pe_int (fun _ _ => rfl)))
    (pss_cons (ps_if (PW.pt (pw_or (pt_cmp (pc_tabNot JT.tt (pv 2)) rfl) (pw_or1 (pt_cmpR op_ne (pe_callB call_len_seq rfl M.len bt_len (pa_cons (pv 1) pa_nil)) (pe_ix (ix_tab JT.lt) (pe_glob (v := .ref aL) rfl JT.lt.bound rfl) (pv 2) (fun _ _ => rfl)) (nomark _))))) (pss_one (ps_raise ER.err_NoStep (pa_cons pe_str pa_nil))) pss_nil)
    (pss_one (ps_ret (pe_tabCallE JT.tt JT.ok (hr.mono (by decide)) (pv 2) (fun _ _ => rfl) (pa_cons (pv 0) (pa_cons (pv 1) pa_nil)))))))), ?_⟩
  refine seq_let4 ?_
  intro rT4 rT3 rT2
  cases d with
  | tup xs =>
    obtain ⟨ln, us, rfl, hln, hul, hget⟩ := hv.tup_inv
    refine ⟨_, rfl, _, "tuple", _, rfl, .tuple, hv.isi _, _, rfl, iteF ⟨_, rfl, ln, us, rfl, .inr hln, rfl, _, rfl, ?_⟩⟩
    cases xs with
    | nil =>
      have : us = [] := List.eq_nil_of_length_eq_zero hul
      subst this
      exact iteT (iteT ⟨by show 1 ≤ 5; decide, en rfl H (Same.refl H)⟩)
    | cons x r =>
      cases us with
      | nil => simp at hul
      | cons v0 ur =>
        have hlen : (v0 :: ur).length = r.length + 1 := hul
        have h0 := hget 0 v0 x rfl rfl
        refine ite2 (fun c => absurd (V.int.inj (of_decide_eq_true c)) (by omega)) (fun _ => ?_)
        refine ⟨_, rfl, ln, _, _, _, rfl, rfl, hln, (show atI _ ((0 : Nat) : Int) = some _ from atNat rfl), _, "str", _, rfl, .str, h0.isi _, _, rfl, ?_⟩
        cases x with
        | str wd =>
          cases h0
          have eR : chgD rs cs (.tup (.str wd :: r)) = if lenC wd = some (r.length + 1) then chgW rs cs wd (.str wd :: r) else none := rfl
          rw [eR] at en qs
          refine iteF ⟨_, rfl, ln, _, _, _, rfl, rfl, hln, (show atI _ ((0 : Nat) : Int) = some _ from atNat rfl), ?_⟩
          refine ⟨_, rfl, wd, rfl, _, rfl, ?_⟩
          rw [JT.kt wd]
          cases hw : lenC wd with
          | none =>
            rw [hw] at en
            exact iteT (iteT ⟨by show 1 ≤ 5; decide, en (if_neg fun z => nomatch z) H (Same.refl H)⟩)
          | some n =>
            obtain ⟨tk, etk⟩ := JT.kl wd n hw
            refine iteF ⟨_, rfl, ln, _, rfl, .inr hln, _, rfl, wd, _, .int ((n : Nat) : Int), rfl, rfl, etk, ⟨tk, rfl⟩, rfl, _, rfl, ?_⟩
            by_cases hn : n = r.length + 1
            · subst hn
              rw [hw] at en qs
              rw [if_pos rfl] at en qs
              have e9 : (!decide (V.int (((V.str wd :: ur).length : Nat) : Int) = V.int ((r.length + 1 : Nat) : Int))) = false := by rw [hlen, decide_eq_true rfl]; rfl
              rw [e9]
              have hsome : (fT wd).isSome = true := by rw [JT.kt wd, hw]; rfl
              obtain ⟨fv, efv⟩ := Option.isSome_iff_exists.mp hsome
              obtain ⟨fa, fd, e8, _⟩ := JT.ok wd fv efv
              subst e8
              exact iteF ⟨_, rfl, wd, _, .ref fa, rfl, rfl, efv, rfl, wd, fa, rfl, efv, _, rfl, _, rfl, t, ln, _, rs, cs, _, rfl, hP, hln, hul, hget, hw, en, qs⟩
            · have e9 : (!decide (V.int (((V.str wd :: ur).length : Nat) : Int) = V.int ((n : Nat) : Int))) = true := by rw [hlen, decide_eq_false (fun z => hn (by have := V.int.inj z; omega))]; rfl
              rw [e9]
              exact iteT ⟨by show 1 ≤ 5; decide, en (if_neg fun z => hn (Option.some.inj (hw.symm.trans z))) H (Same.refl H)⟩
        | int i => exact iteT ⟨by show 1 ≤ 5; decide, en rfl H (Same.refl H)⟩
        | non => exact iteT ⟨by show 1 ≤ 5; decide, en rfl H (Same.refl H)⟩
        | bl b => exact iteT ⟨by show 1 ≤ 5; decide, en rfl H (Same.refl H)⟩
        | tup xs => exact iteT ⟨by show 1 ≤ 5; decide, en rfl H (Same.refl H)⟩
        | lst xs => exact iteT ⟨by show 1 ≤ 5; decide, en rfl H (Same.refl H)⟩
  | int i => exact ⟨_, rfl, _, "tuple", _, rfl, .tuple, hv.isi _, _, rfl, iteT (iteT ⟨by show 1 ≤ 5; decide, en rfl H (Same.refl H)⟩)⟩
  | non => exact ⟨_, rfl, _, "tuple", _, rfl, .tuple, hv.isi _, _, rfl, iteT (iteT ⟨by show 1 ≤ 5; decide, en rfl H (Same.refl H)⟩)⟩
  | bl b => exact ⟨_, rfl, _, "tuple", _, rfl, .tuple, hv.isi _, _, rfl, iteT (iteT ⟨by show 1 ≤ 5; decide, en rfl H (Same.refl H)⟩)⟩
  | str s => exact ⟨_, rfl, _, "tuple", _, rfl, .tuple, hv.isi _, _, rfl, iteT (iteT ⟨by show 1 ≤ 5; decide, en rfl H (Same.refl H)⟩)⟩
  | lst xs => exact ⟨_, rfl, _, "tuple", _, rfl, .tuple, hv.isi _, _, rfl, iteT (iteT ⟨by show 1 ≤ 5; decide, en rfl H (Same.refl H)⟩)⟩
end
end Nb
namespace Nb
open PySem L2
theorem findBy_cons (e : DictEntry) (l : List DictEntry) (x : Str) (t : Tok) (h : e.key = .str x t) (s : Str) : PySem.findBy PySem.Value.isStrOf ⟨e :: l⟩ s = if s = x then some e.val else PySem.findBy PySem.Value.isStrOf ⟨l⟩ s := by
  unfold PySem.findBy
  rw [List.find?_toArray, List.find?_toArray, List.find?_cons]
  by_cases hs : s = x
  · subst hs
    rw [if_pos rfl, h]
    have : PySem.Value.isStrOf s (.str s t) = true := by simp [PySem.Value.isStrOf]
    rw [this]
    rfl
  · rw [if_neg hs, h]
    have : PySem.Value.isStrOf s (.str x t) = false := by simp [PySem.Value.isStrOf]; exact fun z => hs z.symm
    rw [this]
theorem jtab0 {w : World} {K : PySem.W.Frag} {mg : Str → Option Value} {aT aL : Addr} {es fs : Array DictEntry} {m n : Nat} {v1 v2 v3 v4 : Value} {h1 g1 h2 g2 h3 g3 h4 g4 : Int} {t1 q1 j1 t2 q2 j2 t3 q3 j3 t4 q4 j4 : Tok}
    (b1 : mg "CHANGES" = some (.ref aT)) (l1 : K.lookup aT = some ⟨.type "dict", none, .dict es m, #[]⟩) (k1 : PySem.W.KeysLit w.params es.toList) (o1 : (aT == sysModules) = false) (e1 : es = ⟨[⟨h1, .str "row" t1, v1⟩, ⟨h2, .str "less" t2, v2⟩, ⟨h3, .str "cost" t3, v3⟩, ⟨h4, .str "choice" t4, v4⟩]⟩)
    (b2 : mg "LENGTHS" = some (.ref aL)) (l2 : K.lookup aL = some ⟨.type "dict", none, .dict fs n, #[]⟩) (k2 : PySem.W.KeysLit w.params fs.toList) (o2 : (aL == sysModules) = false) (e2 : fs = ⟨[⟨g1, .str "row" q1, .int 2 j1⟩, ⟨g2, .str "less" q2, .int 2 j2⟩, ⟨g3, .str "cost" q3, .int 3 j3⟩, ⟨g4, .str "choice" q4, .int 2 j4⟩]⟩)
    (n1 : mg "with_row" = some v1) (n2 : mg "with_less" = some v2) (n3 : mg "with_cost" = some v3) (n4 : mg "with_choice" = some v4) : JTab0 w K mg aT aL (fun k => PySem.findBy PySem.Value.isStrOf es k) (fun k => PySem.findBy PySem.Value.isStrOf fs k) := by
  refine ⟨tab_mk b1 l1 k1 o1, tab_mk b2 l2 k2 o2, ⟨v1, v2, v3, v4, n1, n2, n3, n4, fun s => ?_⟩, ⟨j1, j2, j3, j4, fun s => ?_⟩⟩
  · subst e1
    show PySem.findBy _ _ s = _
    rw [findBy_cons _ _ "row" t1 rfl, findBy_cons _ _ "less" t2 rfl, findBy_cons _ _ "cost" t3 rfl, findBy_cons _ _ "choice" t4 rfl]
    rfl
  · subst e2
    show PySem.findBy _ _ s = _
    rw [findBy_cons _ _ "row" q1 rfl, findBy_cons _ _ "less" q2 rfl, findBy_cons _ _ "cost" q3 rfl, findBy_cons _ _ "choice" q4 rfl]
    rfl
theorem jtabs_of {P : Program} {w : World} {K : PySem.W.Frag} {mg : Str → Option Value} {base : Heap} {C aT aL : Addr} {fT fL : Str → Option Value} (J : JTab0 w K mg aT aL fT fL)
    (c1 : CalE P w K mg base C 4 "with_row" ["problem", "change"] (spWith K C "row")) (c2 : CalE P w K mg base C 4 "with_less" ["problem", "change"] (spWith K C "less")) (c3 : CalE P w K mg base C 4 "with_cost" ["problem", "change"] (spWith K C "cost")) (c4 : CalE P w K mg base C 4 "with_choice" ["problem", "change"] (spWith K C "choice")) : JTabs P w K mg base C aT aL fT fL := by
  obtain ⟨v1, v2, v3, v4, m1, m2, m3, m4, ef⟩ := J.nt
  obtain ⟨k1, k2, k3, k4, el⟩ := J.nl
  have cal : ∀ {x : Str} {sp : Sp} {v : Value}, CalE P w K mg base C 4 x ["problem", "change"] sp → mg x = some v → ∃ fa fd, v = .ref fa ∧ FnOk P w K mg base (CXe P w C) 4 fa fd ["problem", "change"] sp ∧ PySem.W.keepIn K (.ref fa) = true ∧ Binds K fd ["problem", "change"] [] := by
    intro x sp v c hm
    obtain ⟨f, fd, F, m, kp, b⟩ := c.ex
    rw [hm] at m
    exact ⟨f, fd, Option.some.inj m, F, kp, b⟩
  refine ⟨J.tt, J.lt, fun s => ?_, fun s n h => ?_, fun s v h => ?_⟩
  · rw [ef s]
    unfold lenC
    repeat' split
    all_goals rfl
  · rw [el s]
    unfold lenC at h
    by_cases w1 : s = "row"
    · rw [if_pos w1] at h ⊢; cases h; exact ⟨_, rfl⟩
    rw [if_neg w1] at h ⊢
    by_cases w2 : s = "less"
    · rw [if_pos w2] at h ⊢; cases h; exact ⟨_, rfl⟩
    rw [if_neg w2] at h ⊢
    by_cases w3 : s = "cost"
    · rw [if_pos w3] at h ⊢; cases h; exact ⟨_, rfl⟩
    rw [if_neg w3] at h ⊢
    by_cases w4 : s = "choice"
    · rw [if_pos w4] at h ⊢; cases h; exact ⟨_, rfl⟩
    rw [if_neg w4] at h ⊢
    cases h
  · rw [ef s] at h
    by_cases w1 : s = "row"
    · rw [if_pos w1] at h; cases h; subst w1; exact cal c1 m1
    rw [if_neg w1] at h
    by_cases w2 : s = "less"
    · rw [if_pos w2] at h; cases h; subst w2; exact cal c2 m2
    rw [if_neg w2] at h
    by_cases w3 : s = "cost"
    · rw [if_pos w3] at h; cases h; subst w3; exact cal c3 m3
    rw [if_neg w3] at h
    by_cases w4 : s = "choice"
    · rw [if_pos w4] at h; cases h; subst w4; exact cal c4 m4
    rw [if_neg w4] at h
    cases h
end Nb
namespace Nb
open PySem L2
noncomputable abbrev sCell : Stmt := top 21
noncomputable abbrev sMixB : Stmt := top 20
noncomputable abbrev sLeftB : Stmt := top 22
noncomputable abbrev sDraw : Stmt := top 23
noncomputable abbrev Bits (x : Int) : Prop := PySem.Builtin.Int.intBits x ≤ 2 ^ 20
theorem bits0 : Bits 0 := by decide
noncomputable def spCellB (K : PySem.W.Frag) : Sp := fun vs H Q _ => ∃ (a : Addr) (ns : List Int) (k : Int), vs = [.ref a, .int k] ∧ SqL K H a (ns.map V.int) ∧ (∀ n ∈ ns, Bits n) ∧ 0 ≤ k ∧ ∀ z : Int, Bits z → Q (.int z) H
noncomputable def spMixB : Sp := fun vs H Q _ => ∃ c k : Int, vs = [.int c, .int k] ∧ Bits c ∧ 0 ≤ k ∧ k ≤ 1000000 ∧ ∀ z : Int, 0 ≤ z → z < 2147483587 → Q (.int z) H
noncomputable def spLeftB (K : PySem.W.Frag) : Sp := fun vs H Q _ => ∃ (a : Addr) (ns : List Int) (k : Int), vs = [.ref a, .int k] ∧ SqL K H a (ns.map V.int) ∧ (∀ n ∈ ns, Bits n) ∧ 0 ≤ k ∧ ∀ (l : Addr) (x f : Int), H l = none → Bits x → Q (.ref l) (upd H l (.lst [.int x, .int f, .int 0]))
noncomputable def spDraw : Sp := fun vs H Q _ => ∃ (l : Addr) (x f k b : Int), vs = [.ref l, .int b] ∧ H l = some (.lst [.int x, .int f, .int k]) ∧ Bits x ∧ 0 ≤ k ∧ k ≤ 100000 ∧ 0 < b ∧ b ≤ 1000000 ∧ ∀ z x' : Int, Bits x' → 0 ≤ z → z < b → Q (.int z) (upd H l (.lst [.int x', .int f, .int (k + 1)]))
theorem atNsB {ns : List Int} {k : Int} (hb : ∀ n ∈ ns, Bits n) (h0 : 0 ≤ k) (h : k < (((ns.map V.int).length : Nat) : Int)) : ∃ v : Int, atI (ns.map V.int) k = some (.int v) ∧ Bits v := by
  have hk : k.toNat < ns.length := by rw [List.length_map] at h; omega
  have ek : k = ((k.toNat : Nat) : Int) := by omega
  have q : atI (ns.map V.int) ((k.toNat : Nat) : Int) = some (.int ns[k.toNat]) := atI_nat (by rw [List.getElem?_map, List.getElem?_eq_getElem hk] <;> rfl)
  rw [← ek] at q
  exact ⟨_, q, hb _ (List.getElem_mem hk)⟩
theorem upd_upd (H : Hp) (l : Addr) (a b : HO) : upd (upd H l a) l b = upd H l b := by
  funext c
  by_cases e : c = l
  · rw [e, upd_same, upd_same]
  · rw [upd_ne e, upd_ne e, upd_ne e]
theorem big1 {b : Int} (h0 : 0 < b) (h1 : b ≤ 1000000) : b ≠ 0 ∧ Big b := ⟨by omega, Nat.lt_of_le_of_lt (show b.natAbs ≤ 1000000 by omega) (by decide +kernel)⟩
theorem base3 (z : Int) : ∃ b : Int, atI [V.int 3, V.int 5, V.int 9] (z % 3) = some (.int b) ∧ 0 < b ∧ b ≤ 9 := by
  rcases (show z % 3 = 0 ∨ z % 3 = 1 ∨ z % 3 = 2 by omega) with e | e | e
  · rw [e]; exact ⟨3, rfl, by decide, by decide⟩
  · rw [e]; exact ⟨5, rfl, by decide, by decide⟩
  · rw [e]; exact ⟨9, rfl, by decide, by decide⟩
section
variable {P : Program} {w : World} {K : PySem.W.Frag} {mg : Str → Option Value} {base : Heap} {C D B1 B2 B3 : Addr} {aT aL : Addr} {fT fL : Str → Option Value}
theorem scCell : FnScope ["_law_script", "_law_k"] ["_law_script", "_law_k"] (defScope sCell) := ⟨rfl, rfl, rfl, by decide +kernel, rfl, by decide +kernel, by decide +kernel⟩
theorem okCell (F : Fn K mg "_law_cell_at" sCell) (M : Mg mg) : Cal P w K mg base 1 "_law_cell_at" ["_law_script", "_law_k"] (spCellB K) := by
  refine cal_of F scCell (fun _ _ _ _ _ _ => bind2 (fun _ _ => rfl)) (fun vs H Q E h => ?_) (fun f cdv A outer s H vs Q E hr h => ?_)
  · obtain ⟨a, ns, k, rfl, _⟩ := h
    rfl
  obtain ⟨a, ns, k, rfl, hS, hB, h0, q⟩ := h
  refine ⟨_, (pss_cons (ps_if (pt_cmpR op_lt (pv 1) (pe_callB call_len_seq rfl M.len bt_len (pa_cons (pv 0) pa_nil)) (nomark _)) (pss_one (ps_ret (pe_ix ix_list (pv 0) (pv 1) (fun _ _ => rfl)))) pss_nil)
    (pss_one (ps_ret pe_int))), ?_⟩
  refine ⟨_, rfl, _, rfl, a, _, rfl, .inl hS, _, _, rfl, rfl, _, rfl, ?_⟩
  refine ite2 (fun c => ?_) (fun c => ?_)
  · obtain ⟨v, hv, hb⟩ := atNsB hB h0 (of_decide_eq_true c)
    exact ⟨_, rfl, _, rfl, a, _, _, _, rfl, rfl, hS, hv, q v hb⟩
  · exact q 0 bits0
theorem scMixB : FnScope ["_law_number", "_law_k", "_law_mixed"] ["_law_number", "_law_k"] (defScope sMixB) := ⟨rfl, rfl, rfl, by decide +kernel, rfl, by decide +kernel, by decide +kernel⟩
theorem okMixB (F : Fn K mg "_law_mix" sMixB) (M : Mg mg) : Cal P w K mg base 1 "_law_mix" ["_law_number", "_law_k"] (spMixB) := by
  refine cal_of F scMixB (fun _ _ _ _ _ _ => bind2 (fun _ _ => rfl)) (fun vs H Q E h => ?_) (fun f cdv A outer s H vs Q E hr h => ?_)
  · obtain ⟨c, k, rfl, _⟩ := h
    rfl
  obtain ⟨c, k, rfl, hb, h0, h1, q⟩ := h
  refine ⟨_, (pss_cons (ps_set (i := 2) scMixB.nd rfl (Or.inl rfl) (pe_op op_mod (pe_op op_mulI (pe_op op_add (pe_op op_add (pe_op op_mulI (pv 0) (pv 0)) (pe_op op_mulI (pv 1) (pv 0))) (pe_op op_mulI (pe_op op_mulI pe_int (pv 1)) (pv 1))) pe_int) pe_int))
    (pss_one (ps_ret (pe_op op_mod (pe_op op_mulI (pv 2) (pv 2)) pe_int)))), ?_⟩
  have b2 : ∀ x : Int, -(2 ^ 64) < x % 2147483629 ∧ x % 2147483629 < 2 ^ 64 := fun x => ⟨by omega, by omega⟩
  have kk : ∀ x : Int, PySem.IntMulOk k x := fun x => (show CMul k x from .inl ⟨by omega, by omega⟩).ok
  refine ⟨_, rfl, _, rfl, _, _, rfl, rfl, PySem.IntMulOk.of_bits hb hb, _, rfl, _, rfl, _, _, rfl, rfl, kk _, _, _, rfl, rfl, _, rfl, _, _, rfl, rfl, (show CMul 7 k from .inl ⟨by decide, by decide⟩).ok, _, rfl, _, _, rfl, rfl, (show CMul (7 * k) k from .inr ⟨by omega, by omega⟩).ok, _, _, rfl, rfl, _, _, rfl, rfl, (show CMul _ 1103515245 from .inr ⟨by decide, by decide⟩).ok, _, _, rfl, rfl, (by show (0 : Int) < _; decide +kernel), ?_⟩
  refine ⟨_, rfl, _, rfl, _, _, rfl, rfl, (show CMul _ _ from .inl (b2 _)).ok, _, _, rfl, rfl, (by show (0 : Int) < _; decide +kernel), q _ (Int.emod_nonneg _ (by decide)) (Int.emod_lt_of_pos _ (by decide))⟩
theorem scLeftB : FnScope ["_law_script", "_law_k"] ["_law_script", "_law_k"] (defScope sLeftB) := ⟨rfl, rfl, rfl, by decide +kernel, rfl, by decide +kernel, by decide +kernel⟩
theorem okLeftB (F : Fn K mg "_law_left" sLeftB) (M : Mg mg) (cl_cell_at : Cal P w K mg base 1 "_law_cell_at" ["_law_script", "_law_k"] (spCellB K)) : Cal P w K mg base 2 "_law_left" ["_law_script", "_law_k"] (spLeftB K) := by
  refine cal_of F scLeftB (fun _ _ _ _ _ _ => bind2 (fun _ _ => rfl)) (fun vs H Q E h => ?_) (fun f cdv A outer s H vs Q E hr h => ?_)
  · obtain ⟨a, ns, k, rfl, _⟩ := h
    rfl
  obtain ⟨a, ns, k, rfl, hS, hB, h0, q⟩ := h
  refine ⟨_, (pss_one (ps_ret (pe_lst (pa_cons (pe_fn cl_cell_at (hr.mono (by decide)) (pa_cons (pv 0) (pa_cons (pv 1) pa_nil))) (pa_cons (pe_op op_mod (pe_fn cl_cell_at (hr.mono (by decide)) (pa_cons (pv 0) (pa_cons pe_int pa_nil))) pe_int) (pa_cons pe_int pa_nil)))))), ?_⟩
  refine ⟨_, rfl, _, rfl, a, ns, k, rfl, hS, hB, h0, fun x hx => ?_⟩
  refine ⟨_, rfl, a, ns, 0, rfl, hS, hB, by decide, fun z _ => ⟨_, _, rfl, rfl, (by show (0 : Int) < _; decide +kernel), by show 3 ≤ sizeLine; decide, fun l hl => q l x _ hl hx⟩⟩
theorem scDraw : FnScope ["_law_left_here", "_law_base", "_law_digit"] ["_law_left_here", "_law_base"] (defScope sDraw) := ⟨rfl, rfl, rfl, by decide +kernel, rfl, by decide +kernel, by decide +kernel⟩
theorem okDraw (F : Fn K mg "_law_draw" sDraw) (M : Mg mg) (cl_mix : Cal P w K mg base 1 "_law_mix" ["_law_number", "_law_k"] (spMixB)) : Cal P w K mg base 2 "_law_draw" ["_law_left_here", "_law_base"] (spDraw) := by
  refine cal_of F scDraw (fun _ _ _ _ _ _ => bind2 (fun _ _ => rfl)) (fun vs H Q E h => ?_) (fun f cdv A outer s H vs Q E hr h => ?_)
  · obtain ⟨l, x, f0, k, b, rfl, _⟩ := h
    rfl
  obtain ⟨l, x, f0, k, b, rfl, hl, hx, h0, h1, b0, b1, q⟩ := h
  refine ⟨_, (pss_cons (ps_asg (pe_op op_add (pe_ix ix_list (pv 0) pe_int (fun _ _ => rfl)) pe_int) (pg_sub (pv 0) pe_int set_list))
    (pss_cons (ps_if (pt_cmpR op_eq (pe_ix ix_list (pv 0) pe_int (fun _ _ => rfl)) pe_int (nomark _)) (pss_one (ps_ret (pe_op op_mod (pe_fn cl_mix (hr.mono (by decide)) (pa_cons (pe_ix ix_list (pv 0) pe_int (fun _ _ => rfl)) (pa_cons (pe_ix ix_list (pv 0) pe_int (fun _ _ => rfl)) pa_nil))) (pv 1)))) pss_nil)
    (pss_cons (ps_set (i := 2) scDraw.nd rfl (Or.inl rfl) (pe_op op_mod (pe_ix ix_list (pv 0) pe_int (fun _ _ => rfl)) (pv 1)))
    (pss_cons (ps_asg (pe_op op_fdivG (pe_ix ix_list (pv 0) pe_int (fun _ _ => rfl)) (pv 1)) (pg_sub (pv 0) pe_int set_list))
    (pss_one (ps_ret (pv 2))))))), ?_⟩
  refine seq_let5 ?_
  intro rT5 rT4 rT3 rT2
  refine ⟨_, rfl, l, _, _, _, rfl, rfl, sqL_new hl, rfl, _, _, rfl, rfl, _, rfl, l, _, _, 2, rfl, rfl, hl, rfl, ?_⟩
  have hl2 : upd H l (.lst [.int x, .int f0, .int (k + 1)]) l = some (.lst [.int x, .int f0, .int (k + 1)]) := upd_same
  refine ⟨_, rfl, l, _, _, _, rfl, rfl, sqL_new hl2, rfl, rfl, _, rfl, ite2 (fun c => ?_) (fun c => ?_)⟩
  · refine ⟨_, rfl, l, _, _, _, rfl, rfl, sqL_new hl2, rfl, _, rfl, l, _, _, _, rfl, rfl, sqL_new hl2, rfl, x, k + 1, rfl, hx, by omega, by omega, fun z _ _ => ⟨_, rfl, _, _, rfl, rfl, b0, q _ _ hx (Int.emod_nonneg _ (by omega)) (Int.emod_lt_of_pos _ b0)⟩⟩
  · refine ⟨_, rfl, l, _, _, _, rfl, rfl, sqL_new hl2, rfl, _, rfl, _, _, rfl, rfl, b0, ?_⟩
    refine ⟨_, rfl, l, _, _, _, rfl, rfl, sqL_new hl2, rfl, _, rfl, _, _, rfl, rfl, big1 b0 b1, _, rfl, l, _, _, 0, rfl, rfl, hl2, rfl, ?_⟩
    have := q (x % b) (x.fdiv b) (PyProof.Rows.bits_fdiv hx) (Int.emod_nonneg _ (by omega)) (Int.emod_lt_of_pos _ b0)
    rw [← upd_upd H l (.lst [.int x, .int f0, .int (k + 1)])] at this
    exact ⟨_, rfl, this⟩
end
end Nb
namespace Nb
open PySem L2
noncomputable abbrev sProblem20 : Stmt := top 24
noncomputable abbrev sCopy70 : Stmt := top 26
noncomputable def TsAre (K : PySem.W.Frag) (H : Hp) : List V → List Dt → Prop := Paired (HasT K H)
theorem TsAre.same {K : PySem.W.Frag} {H H' : Hp} {vs : List V} {ds : List Dt} (e : Same H H') (h : TsAre K H vs ds) : TsAre K H' vs ds := by
  unfold TsAre at *
  induction h with
  | nil => exact .nil
  | cons a b ih => exact .cons (a.same e) ih
theorem TsAre.app {K : PySem.W.Frag} {H : Hp} {vs ws : List V} {ds es : List Dt} (h1 : TsAre K H vs ds) (h2 : TsAre K H ws es) : TsAre K H (vs ++ ws) (ds ++ es) := by
  unfold TsAre at *
  induction h1 with
  | nil => exact h2
  | cons a b ih => exact .cons a ih
theorem TsAre.length {K : PySem.W.Frag} {H : Hp} {vs : List V} {ds : List Dt} (h : TsAre K H vs ds) : vs.length = ds.length := Paired.length h
theorem TsAre.get {K : PySem.W.Frag} {H : Hp} {vs : List V} {ds : List Dt} (h : TsAre K H vs ds) : ∀ {i : Nat} {v : V}, vs[i]? = some v → ∃ d, ds[i]? = some d ∧ HasT K H v d := by
  unfold TsAre at *
  induction h with
  | nil => intro i v e; simp at e
  | cons q t ih =>
    intro i v e
    cases i with
    | zero => simp at e; subst e; exact ⟨_, rfl, q⟩
    | succ i => obtain ⟨p, e2, z⟩ := ih (i := i) (v := v) (by simpa using e); exact ⟨p, by simpa using e2, z⟩
theorem TsAre.tup {K : PySem.W.Frag} {H : Hp} {a : Addr} {vs : List V} {ds : List Dt} (h : SqT K H a vs) (t : TsAre K H vs ds) : HasT K H (.ref a) (.tup ds) :=
  .tup h t.length fun i v x e1 e2 => by obtain ⟨d, e3, z⟩ := t.get e1; rw [e2] at e3; cases e3; exact z
theorem TsAre.lst {K : PySem.W.Frag} {H : Hp} {a : Addr} {vs : List V} {ds : List Dt} (h : SqL K H a vs) (t : TsAre K H vs ds) : HasT K H (.ref a) (.lst ds) :=
  .lst h t.length fun i v x e1 e2 => by obtain ⟨d, e3, z⟩ := t.get e1; rw [e2] at e3; cases e3; exact z
theorem ChgAt.parts {K : PySem.W.Frag} {H : Hp} {c : Addr} {ch : Chg} (h : ChgAt K H c ch) : ∃ (r : List V) (ds : List Dt), SqT K H c (.str ch.w :: r) ∧ TsAre K H r ds ∧ lenC ch.w = some (ds.length + 1) ∧ 1 ≤ ds.length ∧ ds.length ≤ 2 := by
  cases ch with
  | row r => obtain ⟨x, h1, h2⟩ := h; exact ⟨[.ref x], [_], h1, .cons h2.hasT .nil, rfl, by show 1 ≤ 1; decide, by show 1 ≤ 2; decide⟩
  | less k => exact ⟨[_], [.int _], h, .cons (.int _) .nil, rfl, by show 1 ≤ 1; decide, by show 1 ≤ 2; decide⟩
  | cost i z => exact ⟨[_, _], [.int _, .int _], h, .cons (.int _) (.cons (.int _) .nil), rfl, by show 1 ≤ 2; decide, by show 2 ≤ 2; decide⟩
  | choice z => exact ⟨[_], [.int _], h, .cons (.int _) .nil, rfl, by show 1 ≤ 1; decide, by show 1 ≤ 2; decide⟩
theorem up_row : lenC (PySem.Txt.upper "row") = none ∧ PySem.Builtin.Str.tooLong (PySem.Txt.upper "row").length = false := by decide +kernel
theorem up_less : lenC (PySem.Txt.upper "less") = none ∧ PySem.Builtin.Str.tooLong (PySem.Txt.upper "less").length = false := by decide +kernel
theorem up_cost : lenC (PySem.Txt.upper "cost") = none ∧ PySem.Builtin.Str.tooLong (PySem.Txt.upper "cost").length = false := by decide +kernel
theorem up_choice : lenC (PySem.Txt.upper "choice") = none ∧ PySem.Builtin.Str.tooLong (PySem.Txt.upper "choice").length = false := by decide +kernel
theorem up_all (ch : Chg) : lenC (PySem.Txt.upper ch.w) = none ∧ PySem.Builtin.Str.tooLong (PySem.Txt.upper ch.w).length = false := by
  cases ch with
  | row r => exact up_row
  | less k => exact up_less
  | cost i z => exact up_cost
  | choice z => exact up_choice
noncomputable def rep0 (n : Nat) : List Dt := (List.replicate n (0 : Int)).map .int
theorem repI (n : Nat) : (List.replicate n [V.int 0]).flatten = (List.replicate n (0 : Int)).map V.int := by
  induction n with
  | zero => rfl
  | succ n ih => rw [List.replicate_succ, List.flatten_cons, ih, List.replicate_succ, List.map_cons]; rfl
theorem intsTL {K : PySem.W.Frag} {H : Hp} {a : Addr} {ns : List Int} (h : SqL K H a (ns.map V.int)) : HasT K H (.ref a) (.lst (ns.map .int)) := by
  refine .lst h (by rw [List.length_map, List.length_map]) fun i v x e1 e2 => ?_
  obtain ⟨n, en, rfl⟩ := getMapI e1
  rw [List.getElem?_map, en] at e2
  cases e2
  exact .int n
noncomputable def bent1 (m : Nat) (w : Str) (ds : List Dt) : List Dt := [.tup [.str w], .tup (.str w :: (ds ++ [.int 0])), .lst (.str w :: ds), .tup (.str (PySem.Txt.upper w) :: ds), .tup [.str "less", .int (m : Int)]]
noncomputable def bent2 (n : Nat) : List Dt := [.tup [.str "less", .int (-1)], .tup [.str "less", .bl true], .tup [.str "cost", .int (n : Int), .int 0], .tup [.str "cost", .int (-1), .int 1], .tup [.str "choice", .bl false]]
noncomputable def bent3 (n : Nat) : List Dt := [.tup [.str "choice", .tup [.int 1]], .tup [.str "row", .tup [.tup (rep0 (n + 1)), .int 0]], .tup [.str "row", .tup [.lst (rep0 n), .int 0]]]
noncomputable def bent4 (n : Nat) : List Dt := [.tup [.str "row", .tup (rep0 n)], .tup [.str "cost", .int 0], .int 7]
theorem map_none {α β : Type} {f : α → β} {o : Option α} (h : o = none) : o.map f = none := by rw [h]; rfl
theorem rep_no (n m : Nat) : rwT n (.tup (rep0 m)) = none := by
  match m with
  | 0 => rfl
  | 1 => rfl
  | 2 => rfl
  | m + 3 => rfl
theorem bent_none {rs : List Rw} {cs : List Int} {ch : Chg} {ds : List Dt} (hl : lenC ch.w = some (ds.length + 1)) (h1 : 1 ≤ ds.length) : ∀ d ∈ ((bent1 rs.length ch.w ds ++ bent2 cs.length) ++ bent3 cs.length) ++ bent4 cs.length, chgD rs cs d = none := by
  have hu := (up_all ch).1
  have a1 : ∀ d ∈ bent1 rs.length ch.w ds, chgD rs cs d = none := by
    intro d hd
    unfold bent1 at hd
    simp only [List.mem_cons, List.not_mem_nil, or_false] at hd
    rcases hd with rfl | rfl | rfl | rfl | rfl
    · show (if lenC ch.w = some ([] : List Dt).length.succ then _ else none) = none
      refine if_neg fun z => ?_
      rw [hl] at z
      have : ds.length + 1 = 1 := Option.some.inj z
      omega
    · show (if lenC ch.w = some ((ds ++ [Dt.int 0]).length + 1) then _ else none) = none
      refine if_neg fun z => ?_
      rw [hl] at z
      have := Option.some.inj z
      rw [List.length_append] at this
      simp at this
    · rfl
    · show (if lenC (PySem.Txt.upper ch.w) = some (ds.length + 1) then _ else none) = none
      refine if_neg fun z => ?_
      rw [hu] at z
      cases z
    · exact map_none (numN (by omega))
  have a2 : ∀ d ∈ bent2 cs.length, chgD rs cs d = none := by
    intro d hd
    unfold bent2 at hd
    simp only [List.mem_cons, List.not_mem_nil, or_false] at hd
    rcases hd with rfl | rfl | rfl | rfl | rfl
    · show (numT rs.length (.int (-1))).map (fun k => (rs.take k ++ rs.drop (k + 1), cs)) = none
      rw [numN (by omega)]; rfl
    · rfl
    · show (numT cs.length (.int (cs.length : Int))).map (fun i => (rs, (cs.take i ++ [0]) ++ cs.drop (i + 1))) = none
      rw [numN (by omega)]; rfl
    · show (numT cs.length (.int (-1))).map (fun i => (rs, (cs.take i ++ [1]) ++ cs.drop (i + 1))) = none
      rw [numN (by omega)]; rfl
    · rfl
  have a3 : ∀ d ∈ bent3 cs.length, chgD rs cs d = none := by
    intro d hd
    unfold bent3 at hd
    simp only [List.mem_cons, List.not_mem_nil, or_false] at hd
    rcases hd with rfl | rfl | rfl
    · rfl
    · refine map_none (rw_short ?_)
      unfold rep0
      rw [List.length_map, List.length_replicate]
      omega
    · rfl
  have a4 : ∀ d ∈ bent4 cs.length, chgD rs cs d = none := by
    intro d hd
    unfold bent4 at hd
    simp only [List.mem_cons, List.not_mem_nil, or_false] at hd
    rcases hd with rfl | rfl | rfl
    · exact map_none (rep_no _ _)
    · rfl
    · rfl
  intro d hd
  rcases List.mem_append.mp hd with hd | hd
  · rcases List.mem_append.mp hd with hd | hd
    · rcases List.mem_append.mp hd with hd | hd
      · exact a1 d hd
      · exact a2 d hd
    · exact a3 d hd
  · exact a4 d hd
theorem strY (a : Str) : decide (V.str a = V.str a) = true := decide_eq_true rfl
theorem strN {a b : Str} (h : a ≠ b) : decide (V.str a = V.str b) = false := decide_eq_false fun z => h (V.str.inj z)
noncomputable def wo (k : Nat) (xs : List Rw) : List Rw := xs.take k ++ xs.drop (k + 1)
theorem wo_eq {xs : List Rw} {r : Rw} : wo xs.length (xs ++ [r]) = wo xs.length xs := by
  unfold wo
  rw [List.take_left, List.take_length, List.drop_of_length_le (by rw [List.length_append]; exact Nat.le_refl _), List.drop_of_length_le (by omega)]
theorem wo_ne {xs : List Rw} {r : Rw} {k : Nat} (h : xs.length ≠ k) : wo k (xs ++ [r]) = wo k xs ++ [r] := by
  unfold wo
  rcases Nat.lt_or_gt_of_ne h with h | h
  · rw [List.take_of_length_le (by rw [List.length_append]; show _ + 1 ≤ _; omega), List.drop_of_length_le (by rw [List.length_append]; show _ + 1 ≤ _; omega), List.take_of_length_le (by omega), List.drop_of_length_le (by omega), List.append_nil, List.append_nil]
  · rw [List.take_append_of_le_length (by omega), List.drop_append_of_le_length (by omega), List.append_assoc]
noncomputable def setN (cs : List Int) (i : Nat) (z : Int) (k : Nat) : Int := if k = i then z else cs.getD k 0
theorem set_eq {cs : List Int} {i : Nat} {z : Int} (h : i < cs.length) : (List.range cs.length).map (setN cs i z) = (cs.take i ++ [z]) ++ cs.drop (i + 1) := by
  apply List.ext_getElem?
  intro k
  by_cases hk : k < cs.length
  · rw [List.getElem?_map, List.getElem?_range hk]
    show some (setN cs i z k) = _
    unfold setN
    have l1 : (cs.take i ++ [z]).length = i + 1 := by rw [List.length_append, List.length_take]; show _ + 1 = _; omega
    by_cases e : k = i
    · subst e
      rw [if_pos rfl, List.getElem?_append_left (by omega), List.getElem?_append_right (by rw [List.length_take]; omega)]
      simp [List.length_take, Nat.min_eq_left (Nat.le_of_lt h)]
    · rw [if_neg e]
      have g : cs.getD k 0 = cs[k] := by rw [List.getD_eq_getElem?_getD, List.getElem?_eq_getElem hk]; rfl
      rw [g]
      by_cases e2 : k < i
      · rw [List.getElem?_append_left (by omega), List.getElem?_append_left (by rw [List.length_take]; omega), List.getElem?_take_of_lt e2, List.getElem?_eq_getElem hk]
      · rw [List.getElem?_append_right (by omega), l1, List.getElem?_drop, show i + 1 + (k - (i + 1)) = k by omega, List.getElem?_eq_getElem hk]
  · rw [List.getElem?_eq_none_iff.mpr (by rw [List.length_map, List.length_range]; omega), List.getElem?_eq_none_iff.mpr (by rw [List.length_append, List.length_append, List.length_take, List.length_drop]; show _ + 1 + _ ≤ _; omega)]
theorem name_cut {t1 t2 : TS} {D : Ends} {i : Nat} {x : V} {σ : St} {H : Hp} (Pv : St → Hp → Prop) (h2 : ∀ σ' H', Pv σ' H' → t2 D σ' H') (h1 : (∀ σ' H', Pv σ' H' → t2 D σ' H') → t1 { D with nx := t2 D } (σ.set i (some x)) H) : gName i x σ H ({ D with nx := tSeq t1 t2 D } : Ends).nx := h1 h2
noncomputable def spLawB (K : PySem.W.Frag) : Sp := fun vs H Q _ => ∃ (a : Addr) (ns : List Int), vs = [.ref a] ∧ SqL K H a (ns.map V.int) ∧ ns.length ≤ 63 ∧ (∀ n ∈ ns, Bits n) ∧ ∀ H', Q (.bl true) H'
noncomputable def spProblem70 (K : PySem.W.Frag) : Sp := fun vs H Q _ => ∃ (a : Addr) (ns : List Int) (most rm : Int), vs = [.ref a, .int most, .int rm] ∧ SqL K H a (ns.map V.int) ∧ (∀ n ∈ ns, Bits n) ∧ 0 ≤ most ∧ most ≤ 100 ∧ 0 ≤ rm ∧ rm ≤ 100 ∧
  ∀ (t : Addr) (rs : List (List Int × Int)) (cs : List Int) (H' : Hp), Same H H' → ProbH K H' t rs cs → (∀ r ∈ rs, r.1.length = cs.length) → (cs.length : Int) ≤ most → (rs.length : Int) ≤ rm → Q (.ref t) H'
theorem atRow70 {us : List V} {i : Nat} {v : V} (h : us[i]? = some v) : atI us (0 + (i : Int)) = some v := by
  rw [show (0 : Int) + (i : Int) = ((i : Nat) : Int) by omega]
  exact atNat h
theorem atInt70 {ns : List Int} {i : Nat} (h : i < ns.length) : atI (ns.map V.int) (0 + (i : Int)) = some (.int (ns.getD i 0)) := by
  refine atRow70 ?_
  rw [List.getElem?_map, List.getElem?_eq_getElem h, List.getD_eq_getElem?_getD, List.getElem?_eq_getElem h]
  rfl
theorem atSet {cs : List Int} {i k : Nat} {z : Int} : atI [V.int (cs.getD k 0), V.int z] (if decide (V.int (0 + (k : Int)) = V.int (i : Int)) = true then 1 else 0) = some (.int (setN cs i z k)) := by
  unfold setN
  by_cases e : k = i
  · subst e
    rw [if_pos rfl, Int.zero_add, decide_eq_true rfl, if_pos rfl]
    rfl
  · rw [if_neg e, decide_eq_false (fun y => e (by have := V.int.inj y; omega)), if_neg Bool.false_ne_true]
    rfl
section
variable {P : Program} {w : World} {K : PySem.W.Frag} {mg : Str → Option Value} {base : Heap} {C D B1 B2 B3 : Addr} {aT aL : Addr} {fT fL : Str → Option Value}
theorem scProblem20 : FnScope ["_law_script", "_law_most", "_law_rows_most", "_law_cell", "_law_many", "_law_base", "_law_rows", "_law_k", "_law_left_here", "_law_numbers"] ["_law_script", "_law_most", "_law_rows_most"] (defScope sProblem20) := ⟨rfl, rfl, rfl, by decide +kernel, rfl, by decide +kernel, by decide +kernel⟩
theorem okProblem20 (F : Fn K mg "_law_problem" sProblem20) (M : Mg mg) (cl_cell_at : Cal P w K mg base 1 "_law_cell_at" ["_law_script", "_law_k"] (spCellB K)) (cl_left : Cal P w K mg base 2 "_law_left" ["_law_script", "_law_k"] (spLeftB K)) (cl_draw : Cal P w K mg base 2 "_law_draw" ["_law_left_here", "_law_base"] (spDraw)) : Cal P w K mg base 3 "_law_problem" ["_law_script", "_law_most", "_law_rows_most"] (spProblem70 K) := by
  refine cal_of F scProblem20 (fun _ _ _ _ _ _ => bind3 (fun _ _ _ => rfl)) (fun vs H Q E h => ?_) (fun f cdv A outer s H vs Q E hr h => ?_)
  · obtain ⟨a, ns, most, rm, rfl, _⟩ := h
    rfl
  obtain ⟨a, ns, most, rm, rfl, hS, hB, m0, m1, r0, r1, q⟩ := h
  refine ⟨_, (pss_cons (ps_set (i := 3) scProblem20.nd rfl (Or.inl rfl) (pe_op op_fdiv (pe_fn cl_cell_at (hr.mono (by decide)) (pa_cons (pv 0) (pa_cons pe_int pa_nil))) pe_int))
    (pss_cons (ps_set (i := 4) scProblem20.nd rfl (Or.inl rfl) (pe_op op_mod (pv 3) (pe_op op_add (pv 1) pe_int)))
    (pss_cons (ps_set (i := 5) scProblem20.nd rfl (Or.inr rfl) (pe_ix ix_list (pe_lst (pa_cons pe_int (pa_cons pe_int (pa_cons pe_int pa_nil)))) (pe_op op_mod (pe_op op_fdiv (pv 3) pe_int) pe_int) (fun _ _ => rfl)))
    (pss_cons (ps_set (i := 6) scProblem20.nd rfl (Or.inl rfl) (pe_lst pa_nil))
    (pss_cons (ps_for PassesOwn.never rfl (pi_range1 rfl M.range_ (pa_cons (pe_op op_mod (pe_op op_fdiv (pv 3) pe_int) (pe_op op_add (pv 2) pe_int)) pa_nil)) (pg_name (i := 7) scProblem20.nd rfl (Or.inl rfl) (Or.inl rfl)) (pss_cons (ps_set (i := 8) scProblem20.nd rfl (Or.inr rfl) (pe_fn cl_left (hr.mono (by decide)) (pa_cons (pv 0) (pa_cons (pe_op op_add pe_int (pv 7)) pa_nil))))
    (pss_cons (ps_set (i := 9) scProblem20.nd rfl (Or.inl rfl) (pe_callTy call_tuple_of rfl M.tuple_ bt_tuple (pa_cons (pe_lc ["_law_i", "_law_base", "_law_left_here"] [none, some 5, some 8] rfl (pi_range1 rfl M.range_ (pa_cons (pv 4) pa_nil)) (fun _ _ _ => (pg_name (i := 0) (show (["_law_i", "_law_base", "_law_left_here"] : List Str).Nodup by decide +kernel) rfl (Or.inl rfl) (Or.inr rfl))) (fun _ _ _ => pf_nil) (fun _ _ _ => (pe_op op_sub (pe_fn cl_draw (hr.mono (by decide)) (pa_cons (pv 2) (pa_cons (pv 1) pa_nil))) (pe_op op_fdiv (pv 1) pe_int)))) pa_nil)))
    (pss_one (ps_expr (pe_bm PySem.F.plainAttrs_list PySem.F.slot_list_append PySem.F.type_list_append mt_append (pv 6) (pa_cons (pe_tup (pa_cons (pv 9) (pa_cons (pe_op op_add (pe_op op_sub (pe_fn cl_draw (hr.mono (by decide)) (pa_cons (pv 8) (pa_cons (pe_op op_mul pe_int (pv 5)) pa_nil))) (pv 5)) pe_int) pa_nil))) pa_nil)))))))
    (pss_cons (ps_set (i := 8) scProblem20.nd rfl (Or.inr rfl) (pe_fn cl_left (hr.mono (by decide)) (pa_cons (pv 0) (pa_cons pe_int pa_nil))))
    (pss_one (ps_ret (pe_tup (pa_cons (pv 6) (pa_cons (pe_callTy call_tuple_of rfl M.tuple_ bt_tuple (pa_cons (pe_lc ["_law_i", "_law_base", "_law_left_here"] [none, some 5, some 8] rfl (pi_range1 rfl M.range_ (pa_cons (pv 4) pa_nil)) (fun _ _ _ => (pg_name (i := 0) (show (["_law_i", "_law_base", "_law_left_here"] : List Str).Nodup by decide +kernel) rfl (Or.inl rfl) (Or.inr rfl))) (fun _ _ _ => pf_nil) (fun _ _ _ => (pe_op op_sub (pe_fn cl_draw (hr.mono (by decide)) (pa_cons (pv 2) (pa_cons (pv 1) pa_nil))) (pe_op op_fdiv (pv 1) pe_int)))) pa_nil)) pa_nil))))))))))), ?_⟩
  refine seq_let7 ?_
  intro rT7 rT6 rT5 rT4 rT3 rT2
  have hz : (1000 : Nat) < sizeLine := by decide
  refine ⟨_, rfl, a, ns, 0, rfl, hS, hB, by decide, fun z' _ => ⟨_, _, rfl, rfl, ⟨by decide, by decide⟩, ?_⟩⟩
  refine ⟨_, rfl, _, rfl, _, _, rfl, rfl, _, _, rfl, rfl, by show 0 < most + 1; omega, ?_⟩
  have n0 := Int.emod_nonneg (z' / 2) (show most + 1 ≠ 0 by omega)
  have n1 := Int.emod_lt_of_pos (z' / 2) (show 0 < most + 1 by omega)
  refine ⟨by show 3 ≤ sizeLine; decide, fun p hp => ?_⟩
  obtain ⟨b, hb, b0, b1⟩ := base3 ((z' / 2) / 100)
  refine ⟨_, rfl, _, _, rfl, rfl, ⟨by decide, by decide⟩, _, _, rfl, rfl, (by show (0 : Int) < _; decide +kernel), p, _, _, _, rfl, rfl, sqL_new upd_same, hb, ?_⟩
  refine ⟨by show 0 ≤ sizeLine; decide, fun g fg => ?_⟩
  have s1 : Same H (upd (upd H p (.lst [.int 3, .int 5, .int 9])) g (.lst [])) := (same_new' hp _).trans (same_new' fg _)
  have gH : H g = none := by
    cases e5 : H g with
    | none => rfl
    | some o => rw [same_new' hp (.lst [.int 3, .int 5, .int 9]) _ _ e5] at fg; cases fg
  have c0 := Int.emod_nonneg ((z' / 2) / 10) (show rm + 1 ≠ 0 by omega)
  have c1 := Int.emod_lt_of_pos ((z' / 2) / 10) (show 0 < rm + 1 by omega)
  refine ⟨_, rfl, _, _, rfl, rfl, ⟨by decide, by decide⟩, _, rfl, _, _, rfl, rfl, _, _, rfl, rfl, by show 0 < rm + 1; omega, ?_⟩
  refine ⟨((z' / 2) / 10 % (rm + 1)), rfl, by omega, by omega, for_range (lo := 0) (n := ((z' / 2) / 10 % (rm + 1)).toNat) (fun i σ H1 => ∃ (rs : List (List Int × Int)) (vs : List V) (u1 u2 u3 : Option V), σ = [some (.ref a), some (.int most), some (.int rm), some (.int (z' / 2)), some (.int ((z' / 2) % (most + 1))), some (.int b), some (.ref g), u1, u2, u3] ∧ H1 g = some (.lst vs) ∧ RowsAre K H1 vs rs ∧ (∀ r ∈ rs, (r.1.length : Int) = (z' / 2) % (most + 1)) ∧ rs.length = i ∧ Same H H1)
    ⟨[], [], none, none, none, rfl, upd_same, .nil, (fun r hr => nomatch hr), rfl, s1⟩ ?_ ?_⟩
  · rintro i σ H1 hi ⟨rs, vs, u1, u2, u3, rfl, hg, hrw, hrl, rfl, s2⟩
    have lv := hrw.length
    refine ⟨_, rfl, _, rfl, _, _, rfl, rfl, a, ns, _, rfl, s2.seq hS, hB, by omega, fun l x f fl hx => ?_⟩
    have ngl : g ≠ l := ne_of_none hg fl
    refine ⟨_, rfl, (z' / 2) % (most + 1), rfl, by omega, by omega, fun D hD => ?_⟩
    have nD : D ≠ l := fun w => by rw [w, upd_same] at hD; cases hD
    refine lc_any (n := ((z' / 2) % (most + 1)).toNat) (fun j τ ys H5 => ∃ (v : Option V) (ms : List Int) (x : Int), τ = [v, some (.int b), some (.ref l)] ∧ ys = ms.map V.int ∧ ms.length = j ∧ H5 D = some (.lst ys) ∧ H5 l = some (.lst [.int x, .int f, .int (j : Int)]) ∧ Bits x ∧ ∀ c o, H1 c = some o → H5 c = some o)
      ?_ (fun j τ ys H5 hj h => ?_) (fun j τ ys H5 hj h => hj) (fun τ ys H5 h => Nat.le_refl _) ?_ ?_
    · exact ⟨none, [], x, rfl, rfl, rfl, upd_same, by rw [upd_ne (Ne.symm nD)]; exact upd_same, hx, fun c o e => by rw [upd_ne (fun w => by rw [w] at e; rw [upd_ne (ne_of_none e fl)] at hD; rw [hD] at e; cases e), upd_ne (ne_of_none e fl)]; exact e⟩
    · obtain ⟨v, ms, x, rfl, rfl, rfl, hD5, hl5, hx5, kp⟩ := h
      exact ⟨hD5, by rw [List.length_map]; omega⟩
    · rintro j τ ys H5 y H6 hj ⟨v, ms, x, rfl, rfl, rfl, hD5, hl5, hx5, kp⟩ ⟨rfl, rfl⟩
      refine ⟨_, rfl, _, rfl, l, x, f, _, b, rfl, hl5, hx5, by omega, by omega, b0, by omega, fun z' x' hx' z0 z1 => ⟨_, rfl, _, _, rfl, rfl, ⟨by decide, by decide⟩, _, _, rfl, rfl, by rw [upd_ne nD]; exact hD5, _, ms ++ [_], x', rfl, by rw [List.map_append]; rfl, by rw [List.length_append]; rfl, upd_same, by rw [upd_ne (Ne.symm nD), upd_same]; rfl, hx', fun c o e => ?_⟩⟩
      have c1 : c ≠ l := ne_of_none e fl
      have c2 : c ≠ D := fun w => by rw [w] at e; rw [upd_ne nD] at hD; rw [hD] at e; cases e
      rw [upd_ne c2, upd_ne c1]
      exact kp c o e
    · rintro τ ys H5 ⟨v, ms, x, rfl, rfl, hml, hD5, hl5, hx5, kp⟩
      refine ⟨D, _, rfl, .inl ⟨sqL_new hD5, fun l2 fl2 => ?_⟩⟩
      have kp2 : ∀ c o, H1 c = some o → upd H5 l2 (.tup (ms.map V.int)) c = some o := fun c o e => by rw [upd_ne (ne_of_none (kp c o e) fl2)]; exact kp c o e
      have hl6 : upd H5 l2 (.tup (ms.map V.int)) l = some (.lst [.int x, .int f, .int (((z' / 2) % (most + 1)).toNat : Nat)]) := by rw [upd_ne (ne_of_none hl5 fl2)]; exact hl5
      have ht6 : SqT K (upd H5 l2 (.tup (ms.map V.int))) l2 (ms.map V.int) := sqT_new upd_same
      generalize upd H5 l2 (.tup (ms.map V.int)) = H6 at kp2 hl6 ht6 ⊢
      have s6 : Same H1 H6 := kp2
      refine ⟨_, rfl, .inl ⟨rfl, _, sqL_new (s6 _ _ hg)⟩, _, rfl, _, rfl, _, rfl, _, _, rfl, rfl, .inl ⟨by decide, by decide⟩, l, x, f, _, 2 * b, rfl, hl6, hx5, by omega, by omega, by omega, by omega, fun y x' hx' _ _ => ?_⟩
      have ht7 : SqT K (upd H6 l (.lst [.int x', .int f, .int ((((z' / 2) % (most + 1)).toNat : Nat) + 1)])) l2 (ms.map V.int) := SqT_upd hl6 ht6
      have s7 : Same H1 (upd H6 l (.lst [.int x', .int f, .int ((((z' / 2) % (most + 1)).toNat : Nat) + 1)])) := fun c o e => by rw [upd_ne (ne_of_none e fl)]; exact s6 _ _ e
      generalize upd H6 l (.lst [.int x', .int f, .int ((((z' / 2) % (most + 1)).toNat : Nat) + 1)]) = H7 at ht7 s7 ⊢
      refine ⟨_, rfl, _, _, rfl, rfl, _, _, rfl, rfl, by show 2 ≤ sizeLine; decide, fun t ft => ?_⟩
      have s8 := same_new' ft (.tup [.ref l2, .int (y - b + 1)])
      have hg8 := s8 _ _ (s7 _ _ hg)
      refine ⟨g, _, _, rfl, rfl, hg8, by omega, rs ++ [(ms, y - b + 1)], _, _, _, _, rfl, upd_same, ?_, fun r hr' => ?_, by rw [List.length_append]; rfl, fun c o e => ?_⟩
      · exact RowsAre.snoc (hrw.imp fun _ _ w => ((w.same s7).same s8).upd hg8) (RowAt.upd hg8 ⟨l2, sqT_new upd_same, s8.tup ht7⟩)
      · rcases List.mem_append.mp hr' with w | w
        · exact hrl r w
        · rw [List.mem_singleton.mp w]; show (ms.length : Int) = _; omega
      · rw [upd_ne (ne_of_none e gH)]; exact s8 _ _ (s7 _ _ (s2 _ _ e))
  · rintro σ H1 ⟨rs, vs, u1, u2, u3, rfl, hg, hrw, hrl, hcl, s2⟩
    refine ⟨_, rfl, a, ns, _, rfl, s2.seq hS, hB, by decide, fun l x f fl hx => ?_⟩
    refine ⟨_, rfl, ?_⟩
    refine ⟨_, rfl, (z' / 2) % (most + 1), rfl, by omega, by omega, fun D hD => ?_⟩
    have nD : D ≠ l := fun w => by rw [w, upd_same] at hD; cases hD
    refine lc_any (n := ((z' / 2) % (most + 1)).toNat) (fun j τ ys H5 => ∃ (v : Option V) (ms : List Int) (x : Int), τ = [v, some (.int b), some (.ref l)] ∧ ys = ms.map V.int ∧ ms.length = j ∧ H5 D = some (.lst ys) ∧ H5 l = some (.lst [.int x, .int f, .int (j : Int)]) ∧ Bits x ∧ ∀ c o, H1 c = some o → H5 c = some o)
      ?_ (fun j τ ys H5 hj h => ?_) (fun j τ ys H5 hj h => hj) (fun τ ys H5 h => Nat.le_refl _) ?_ ?_
    · exact ⟨none, [], x, rfl, rfl, rfl, upd_same, by rw [upd_ne (Ne.symm nD)]; exact upd_same, hx, fun c o e => by rw [upd_ne (fun w => by rw [w] at e; rw [upd_ne (ne_of_none e fl)] at hD; rw [hD] at e; cases e), upd_ne (ne_of_none e fl)]; exact e⟩
    · obtain ⟨v, ms, x, rfl, rfl, rfl, hD5, hl5, hx5, kp⟩ := h
      exact ⟨hD5, by rw [List.length_map]; omega⟩
    · rintro j τ ys H5 y H6 hj ⟨v, ms, x, rfl, rfl, rfl, hD5, hl5, hx5, kp⟩ ⟨rfl, rfl⟩
      refine ⟨_, rfl, _, rfl, l, x, f, _, b, rfl, hl5, hx5, by omega, by omega, b0, by omega, fun z' x' hx' z0 z1 => ⟨_, rfl, _, _, rfl, rfl, ⟨by decide, by decide⟩, _, _, rfl, rfl, by rw [upd_ne nD]; exact hD5, _, ms ++ [_], x', rfl, by rw [List.map_append]; rfl, by rw [List.length_append]; rfl, upd_same, by rw [upd_ne (Ne.symm nD), upd_same]; rfl, hx', fun c o e => ?_⟩⟩
      have c1 : c ≠ l := ne_of_none e fl
      have c2 : c ≠ D := fun w => by rw [w] at e; rw [upd_ne nD] at hD; rw [hD] at e; cases e
      rw [upd_ne c2, upd_ne c1]
      exact kp c o e
    · rintro τ ys H5 ⟨v, ms, x, rfl, rfl, hml, hD5, hl5, hx5, kp⟩
      refine ⟨D, _, rfl, .inl ⟨sqL_new hD5, fun l2 fl2 => ?_⟩⟩
      have kp2 : ∀ c o, H1 c = some o → upd H5 l2 (.tup (ms.map V.int)) c = some o := fun c o e => by rw [upd_ne (ne_of_none (kp c o e) fl2)]; exact kp c o e
      refine ⟨by show 2 ≤ sizeLine; decide, fun t ft => ?_⟩
      have s6 : Same H1 (upd H5 l2 (.tup (ms.map V.int))) := kp2
      have s7 := same_new' ft (.tup [.ref g, .ref l2])
      exact q t rs ms _ ((s2.trans s6).trans s7) ⟨g, l2, vs, sqT_new upd_same, s7 _ _ (s6 _ _ hg), hrw.imp fun _ _ w => (w.same s6).same s7, s7.tup (sqT_new upd_same)⟩ (fun r hr' => by have := hrl r hr'; omega) (by omega) (by omega)
theorem scCopy70 : FnScope ["_law_problem_here"] ["_law_problem_here"] (defScope sCopy70) := ⟨rfl, rfl, rfl, by decide +kernel, rfl, by decide +kernel, by decide +kernel⟩
theorem okCopy70 (F : Fn K mg "_law_copy" sCopy70) (M : Mg mg) : Cal P w K mg base 1 "_law_copy" ["_law_problem_here"] (spCopy70 K) := by
  refine cal_of F scCopy70 (fun _ _ _ _ _ _ => bind1 (fun _ => rfl)) (fun vs H Q E h => ?_) (fun f cdv A outer s H vs Q E hr h => ?_)
  · obtain ⟨t, rs, cs, rfl, _⟩ := h
    rfl
  obtain ⟨t, rs, cs, rfl, ⟨l, c, vs, ht, hl, hrw, hc⟩, q⟩ := h
  refine ⟨_, (pss_one (ps_ret (pe_tup (pa_cons (pe_callTy call_list_of rfl M.list_ bt_list (pa_cons (pe_ix ix_tup (pv 0) pe_int (fun _ _ => rfl)) pa_nil)) (pa_cons (pe_ix ix_tup (pv 0) pe_int (fun _ _ => rfl)) pa_nil))))), ?_⟩
  refine ⟨_, rfl, t, _, _, _, rfl, rfl, ht, at0, l, _, rfl, .inl (sqL_new hl), fun g hg => ?_⟩
  have s1 := same_new' hg (.lst vs)
  refine ⟨_, rfl, t, _, _, _, rfl, rfl, s1.tup ht, at1, by show 2 ≤ sizeLine; decide, fun T hT => ?_⟩
  have a2 := same_new' hT (.tup [.ref g, .ref c])
  have s2 := s1.trans a2
  exact q T _ s2 ⟨g, c, vs, sqT_new upd_same, a2 _ _ upd_same, hrw.imp fun _ _ z => z.same s2, s2.tup hc⟩
end
end Nb
namespace Nb
open PySem L2
noncomputable abbrev sChange : Stmt := top 27
section
variable {P : Program} {w : World} {K : PySem.W.Frag} {mg : Str → Option Value} {base : Heap} {C D B1 B2 B3 : Addr} {aT aL : Addr} {fT fL : Str → Option Value}
theorem scChange : FnScope ["_law_problem_here", "_law_cell", "_law_many", "_law_left_here", "_law_word", "_law_numbers", "_law_k", "_law_number"] ["_law_problem_here", "_law_cell"] (defScope sChange) := ⟨rfl, rfl, rfl, by decide +kernel, rfl, by decide +kernel, by decide +kernel⟩
theorem okChange (F : Fn K mg "_law_change" sChange) (M : Mg mg) (ER : Errs K mg C D B1 B2 B3) : Cal P w K mg base 1 "_law_change" ["_law_problem_here", "_law_cell"] (spChange K) := by
  refine cal_of F scChange (fun _ _ _ _ _ _ => bind2 (fun _ _ => rfl)) (fun vs H Q E h => ?_) (fun f cdv A outer s H vs Q E hr h => ?_)
  · obtain ⟨t, z, rs, cs, rfl, _⟩ := h
    rfl
  obtain ⟨t, z, rs, cs, rfl, ⟨⟨l, c, vs, ht, hl, hrw, hc⟩, hrn, hcn, hrl⟩, q⟩ := h
  refine ⟨_, (pss_cons (ps_set (i := 2) scChange.nd rfl (Or.inl rfl) (pe_callB call_len_seq rfl M.len bt_len (pa_cons (pe_ix ix_tup (pv 0) pe_int (fun _ _ => rfl)) pa_nil)))
    (pss_cons (ps_asg (pe_callB call_divmod rfl ER.divmod bt_divmod (pa_cons (pv 1) (pa_cons pe_int pa_nil))) (pg_pair (K := K) (i := 3) (j := 4) rfl rfl scChange.nd rfl rfl rfl rfl))
    (pss_cons (ps_set (i := 5) scChange.nd rfl (Or.inl rfl) (pe_lst pa_nil))
    (pss_cons (ps_for PassesOwn.never rfl (pi_range1 rfl M.range_ (pa_cons (pv 2) pa_nil)) (pg_name (i := 6) scChange.nd rfl (Or.inl rfl) (Or.inl rfl)) (pss_cons (ps_asg (pe_callB call_divmod rfl ER.divmod bt_divmod (pa_cons (pv 3) (pa_cons pe_int pa_nil))) (pg_pair (K := K) (i := 3) (j := 7) rfl rfl scChange.nd rfl rfl rfl rfl))
    (pss_one (ps_expr (pe_bm PySem.F.plainAttrs_list PySem.F.slot_list_append PySem.F.type_list_append mt_append (pv 5) (pa_cons (pe_op op_sub (pv 7) pe_int) pa_nil))))))
    (pss_cons (ps_if (pt_cmpR op_eq (pv 4) pe_int (nomark _)) (pss_one (ps_ret (pe_tup (pa_cons pe_str (pa_cons (pe_tup (pa_cons (pe_callTy call_tuple_of rfl M.tuple_ bt_tuple (pa_cons (pv 5) pa_nil)) (pa_cons (pe_op op_sub (pe_op op_mod (pv 3) pe_int) pe_int) pa_nil))) pa_nil))))) pss_nil)
    (pss_cons (ps_if (PW.pt (pw_and (pt_cmpR op_eq (pv 4) pe_int (nomark _)) (pw_and1 (pt_cmpR op_gt (pe_callB call_len_seq rfl M.len bt_len (pa_cons (pe_ix ix_tup (pv 0) pe_int (fun _ _ => rfl)) pa_nil)) pe_int (nomark _))))) (pss_one (ps_ret (pe_tup (pa_cons pe_str (pa_cons (pe_op op_mod (pv 3) (pe_callB call_len_seq rfl M.len bt_len (pa_cons (pe_ix ix_tup (pv 0) pe_int (fun _ _ => rfl)) pa_nil))) pa_nil))))) pss_nil)
    (pss_cons (ps_if (PW.pt (pw_and (pt_cmpR op_eq (pv 4) pe_int (nomark _)) (pw_and1 (pt_cmpR op_gt (pv 2) pe_int (nomark _))))) (pss_one (ps_ret (pe_tup (pa_cons pe_str (pa_cons (pe_op op_mod (pe_op op_fdiv (pv 3) pe_int) (pv 2)) (pa_cons (pe_op op_sub (pe_op op_mod (pv 3) pe_int) pe_int) pa_nil)))))) pss_nil)
    (pss_one (ps_ret (pe_tup (pa_cons pe_str (pa_cons (pe_op op_sub (pe_op op_mod (pv 3) pe_int) pe_int) pa_nil)))))))))))), ?_⟩
  refine seq_let8 ?_
  intro rT8 rT7 rT6 rT5 rT4 rT3 rT2
  have hz : (1000 : Nat) < sizeLine := by decide
  have lv := hrw.length
  have hcl : (cs.map V.int).length = cs.length := List.length_map _
  refine ⟨_, rfl, t, _, _, _, rfl, rfl, ht, at1, c, _, rfl, .inr hc, ?_⟩
  refine ⟨_, rfl, _, _, rfl, ⟨by decide, by decide⟩, fun p hp => ⟨p, _, rfl, sqT_new upd_same, rfl, _, _, rfl, _, _, rfl, rfl, ?_⟩⟩
  have s0 := same_new' hp (.tup [.int (z / 4), .int (z % 4)])
  generalize upd H p (.tup [.int (z / 4), .int (z % 4)]) = H0 at s0 ⊢
  refine ⟨by show 0 ≤ sizeLine; decide, fun g hg => ?_⟩
  have gH := fresh_back s0 hg
  refine ⟨_, rfl, _, rfl, by omega, by omega, for_range (lo := 0) (n := Int.toNat (((cs.map V.int).length : Nat) : Int)) (fun i σ H2 => ∃ (y : Int) (ms : List Int) (u v : Option V), σ = [some (.ref t), some (.int z), some (.int (((cs.map V.int).length : Nat) : Int)), some (.int y), some (.int (z % 4)), some (.ref g), u, v] ∧ ms.length = i ∧ H2 g = some (.lst (ms.map V.int)) ∧ Same H H2)
    ⟨z / 4, [], none, none, rfl, rfl, upd_same, s0.trans (same_new' hg _)⟩ ?_ ?_⟩
  · rintro i σ H2 hi ⟨y, ms, u, v, rfl, rfl, hg2, s2⟩
    refine ⟨_, rfl, _, _, rfl, ⟨by decide, by decide⟩, fun p2 hp2 => ⟨p2, _, rfl, sqT_new upd_same, rfl, _, _, rfl, _, _, rfl, rfl, ?_⟩⟩
    have a3 := same_new' hp2 (.tup [.int (y / 9), .int (y % 9)])
    have hg3 := a3 _ _ hg2
    refine ⟨_, rfl, .inl ⟨rfl, _, sqL_new hg3⟩, _, rfl, _, _, rfl, rfl, g, _, _, rfl, rfl, hg3, by rw [List.length_map]; omega, ?_⟩
    refine ⟨_, ms ++ [y % 9 - 4], _, _, rfl, by rw [List.length_append]; rfl, by rw [upd_same, List.map_append]; rfl, fun b o e => ?_⟩
    rw [upd_ne (ne_of_none e gH)]
    exact a3 _ _ (s2 _ _ e)
  · rintro σ H2 ⟨y, ms, u, v, rfl, hml, hg2, s2⟩
    have hm : ms.length = cs.length := by omega
    have w0 := Int.emod_nonneg z (show (4 : Int) ≠ 0 by decide)
    have w1 := Int.emod_lt_of_pos z (show (0 : Int) < 4 by decide)
    generalize z % 4 = w at w0 w1 ⊢
    rcases (show w = 0 ∨ w = 1 ∨ w = 2 ∨ w = 3 by omega) with e | e | e | e
    · subst e
      refine ⟨_, rfl, rfl, _, rfl, iteT ?_⟩
      refine ⟨_, rfl, g, _, rfl, .inl ⟨sqL_new hg2, fun x1 hx1 => ?_⟩⟩
      have a3 := same_new' hx1 (.tup (ms.map V.int))
      have hx1' : upd H2 x1 (.tup (ms.map V.int)) x1 = some (.tup (ms.map V.int)) := upd_same
      generalize upd H2 x1 (.tup (ms.map V.int)) = H3 at a3 hx1' ⊢
      refine ⟨_, rfl, _, _, rfl, rfl, (by show (0 : Int) < _; decide +kernel), _, _, rfl, rfl, by show 2 ≤ sizeLine; decide, fun x2 hx2 => ?_⟩
      have a4 := same_new' hx2 (.tup [.ref x1, .int (y % 19 - 9)])
      have hx2' : upd H3 x2 (.tup [.ref x1, .int (y % 19 - 9)]) x2 = some (.tup [.ref x1, .int (y % 19 - 9)]) := upd_same
      generalize upd H3 x2 (.tup [.ref x1, .int (y % 19 - 9)]) = H4 at a4 hx2' ⊢
      refine ⟨by show 2 ≤ sizeLine; decide, fun c' hc' => ?_⟩
      have a5 := same_new' hc' (.tup [.str "row", .ref x2])
      exact q c' (.row (ms, y % 19 - 9)) _ (((s2.trans a3).trans a4).trans a5) ⟨x2, sqT_new upd_same, x1, a5.tup (sqT_new hx2'), (a4.trans a5).tup (sqT_new hx1')⟩ hm
    · subst e
      refine ⟨_, rfl, rfl, _, rfl, iteF ⟨_, rfl, rfl, _, rfl, iteT ?_⟩⟩
      refine ⟨_, rfl, t, _, _, _, rfl, rfl, s2.tup ht, at0, l, _, rfl, .inl (sqL_new (s2 _ _ hl)), _, _, rfl, rfl, _, rfl, ite2 (fun c2 => ?_) (fun c2 => ?_)⟩
      · have c3 : (0 : Int) < ((vs.length : Nat) : Int) := of_decide_eq_true c2
        refine ⟨_, rfl, _, rfl, t, _, _, _, rfl, rfl, s2.tup ht, at0, l, _, rfl, .inl (sqL_new (s2 _ _ hl)), _, _, rfl, rfl, c3, by show 2 ≤ sizeLine; decide, fun c' hc' => ?_⟩
        have k0 := Int.emod_nonneg y (show ((vs.length : Nat) : Int) ≠ 0 by omega)
        have k1 := Int.emod_lt_of_pos y c3
        refine q c' (.less (y % ((vs.length : Nat) : Int)).toNat) _ (s2.trans (same_new' hc' _)) ?_ (show (y % ((vs.length : Nat) : Int)).toNat < rs.length by omega)
        show SqT K _ c' [.str "less", .int (((y % ((vs.length : Nat) : Int)).toNat : Nat) : Int)]
        rw [Int.toNat_of_nonneg k0]
        exact sqT_new upd_same
      · refine ⟨_, rfl, rfl, _, rfl, iteF (iteF ?_)⟩
        refine ⟨_, rfl, _, _, rfl, rfl, (by show (0 : Int) < _; decide +kernel), _, _, rfl, rfl, by show 2 ≤ sizeLine; decide, fun c' hc' => ?_⟩
        exact q c' (.choice (y % 19 - 9)) _ (s2.trans (same_new' hc' _)) (show SqT K _ c' [.str "choice", .int (y % 19 - 9)] from sqT_new upd_same) trivial
    · subst e
      refine ⟨_, rfl, rfl, _, rfl, iteF ⟨_, rfl, rfl, _, rfl, iteF (iteF ⟨_, rfl, rfl, _, rfl, iteT ?_⟩)⟩⟩
      refine ⟨_, rfl, _, _, rfl, rfl, _, rfl, ite2 (fun c2 => ?_) (fun c2 => ?_)⟩
      · have c3 : (0 : Int) < (((cs.map V.int).length : Nat) : Int) := of_decide_eq_true c2
        refine ⟨_, rfl, _, _, rfl, rfl, ⟨by decide, by decide⟩, _, rfl, _, _, rfl, rfl, c3, _, rfl, _, _, rfl, rfl, (by show (0 : Int) < _; decide +kernel), _, _, rfl, rfl, by show 3 ≤ sizeLine; decide, fun c' hc' => ?_⟩
        have k0 := Int.emod_nonneg (y / 19) (show (((cs.map V.int).length : Nat) : Int) ≠ 0 by omega)
        have k1 := Int.emod_lt_of_pos (y / 19) c3
        refine q c' (.cost (y / 19 % (((cs.map V.int).length : Nat) : Int)).toNat (y % 19 - 9)) _ (s2.trans (same_new' hc' _)) ?_ (show (y / 19 % (((cs.map V.int).length : Nat) : Int)).toNat < cs.length by omega)
        show SqT K _ c' [.str "cost", .int (((y / 19 % (((cs.map V.int).length : Nat) : Int)).toNat : Nat) : Int), .int (y % 19 - 9)]
        rw [Int.toNat_of_nonneg k0]
        exact sqT_new upd_same
      · refine ⟨_, rfl, _, _, rfl, rfl, (by show (0 : Int) < _; decide +kernel), _, _, rfl, rfl, by show 2 ≤ sizeLine; decide, fun c' hc' => ?_⟩
        exact q c' (.choice (y % 19 - 9)) _ (s2.trans (same_new' hc' _)) (show SqT K _ c' [.str "choice", .int (y % 19 - 9)] from sqT_new upd_same) trivial
    · subst e
      refine ⟨_, rfl, rfl, _, rfl, iteF ⟨_, rfl, rfl, _, rfl, iteF (iteF ⟨_, rfl, rfl, _, rfl, iteF (iteF ?_)⟩)⟩⟩
      refine ⟨_, rfl, _, _, rfl, rfl, (by show (0 : Int) < _; decide +kernel), _, _, rfl, rfl, by show 2 ≤ sizeLine; decide, fun c' hc' => ?_⟩
      exact q c' (.choice (y % 19 - 9)) _ (s2.trans (same_new' hc' _)) (show SqT K _ c' [.str "choice", .int (y % 19 - 9)] from sqT_new upd_same) trivial
end
end Nb
namespace Nb
open PySem L2
noncomputable abbrev sRefused70 : Stmt := top 30
section
variable {P : Program} {w : World} {K : PySem.W.Frag} {mg : Str → Option Value} {base : Heap} {C D B1 B2 B3 : Addr} {aT aL : Addr} {fT fL : Str → Option Value}
theorem scRefused70 : FnScope ["_law_problem_here", "_law_change_here", "_law_caught", "e"] ["_law_problem_here", "_law_change_here"] (defScope sRefused70) := ⟨rfl, rfl, rfl, by decide +kernel, rfl, by decide +kernel, by decide +kernel⟩
theorem okRefused70 (F : Fn K mg "_law_refused" sRefused70) (M : Mg mg) (ER : Errs K mg C D B1 B2 B3) (c_changed : CalE P w K mg base C 5 "changed" ["problem", "change"] (spChanged K C)) : Cal P w K mg base 6 "_law_refused" ["_law_problem_here", "_law_change_here"] (spRefused70 K) := by
  refine cal_of F scRefused70 (fun _ _ _ _ _ _ => bind2 (fun _ _ => rfl)) (fun vs H Q E h => ?_) (fun f cdv A outer s H vs Q E hr h => ?_)
  · obtain ⟨t, v, rs, cs, d, rfl, _⟩ := h
    rfl
  obtain ⟨t, v, rs, cs, d, rfl, hP, hv, hno, q⟩ := h
  obtain ⟨fE, fdE, FE, mE, kE, bE⟩ := c_changed.ex
  refine ⟨_, (pss_cons (ps_set (i := 2) scRefused70.nd rfl (Or.inl rfl) pe_non)
    (pss_cons (ps_tryAs rfl rfl rfl FE (hr.mono (by decide)) mE kE bE ER.PlanError ER.isA scRefused70.nd (pa_cons (pv 0) (pa_cons (pv 1) pa_nil)) (i := 2) (j := 3) rfl rfl (by decide) rfl rfl)
    (pss_cons (ps_if (pt_val (pe_callB call_isiE rfl M.isinstance bt_isinstance (pa_cons (pv 2) (pa_cons (pe_tup (pa_cons (pe_cls ER.NoBook) (pa_cons (pe_cls ER.NoNumber) pa_nil))) pa_nil)))) (pss_one (ps_ret pe_bl)) pss_nil)
    (pss_one (ps_ret (pe_and (pe_callB call_isiE rfl M.isinstance bt_isinstance (pa_cons (pv 2) (pa_cons (pe_cls ER.NoStep) pa_nil))) (pe_one (pe_callB call_isiE rfl M.isinstance bt_isinstance (pa_cons (pv 2) (pa_cons (pe_ty M.ValueError_ bt_ValueError) pa_nil)))))))))), ?_⟩
  refine seq_let4 ?_
  intro rT4 rT3 rT2
  refine ⟨_, rfl, _, rfl, t, v, rs, cs, d, rfl, hP, hv, fun _ H1 s1 e he => ?_, fun p z => by rw [hno] at z; cases z⟩
  have he2 : upd H1 e (excO e C) e = some (excO e C) := upd_same
  refine ⟨_, rfl, by show 2 ≤ sizeLine; decide, fun p hp => ?_⟩
  have s2 : Same (upd H1 e (excO e C)) (upd (upd H1 e (excO e C)) p (.tup [.ref B1, .ref B2])) := same_new' hp _
  have s3 : Same H (upd (upd H1 e (excO e C)) p (.tup [.ref B1, .ref B2])) := (s1.trans (same_new' he _)).trans s2
  refine ⟨e, C, s2 _ _ he2, ER.exc, .inr (.inr ⟨p, [B1, B2], false, rfl, upd_same, ER.notB, false, rfl, iteF ?_⟩)⟩
  refine ⟨_, rfl, e, C, s2 _ _ he2, ER.exc, .inl ⟨C, true, rfl, ER.isN, true, rfl, iteT ?_⟩⟩
  exact ⟨_, rfl, e, C, s2 _ _ he2, ER.exc, .inr (.inl ⟨"ValueError", true, rfl, ER.isV, q _ s3⟩)⟩
end
end Nb
namespace Nb
open PySem L2
noncomputable abbrev sBent : Stmt := top 28
section
variable {P : Program} {w : World} {K : PySem.W.Frag} {mg : Str → Option Value} {base : Heap} {C D B1 B2 B3 : Addr} {aT aL : Addr} {fT fL : Str → Option Value}
theorem scBent : FnScope ["_law_problem_here", "_law_change_here", "_law_cell", "_law_many", "_law_some"] ["_law_problem_here", "_law_change_here", "_law_cell"] (defScope sBent) := ⟨rfl, rfl, rfl, by decide +kernel, rfl, by decide +kernel, by decide +kernel⟩
theorem okBent (F : Fn K mg "_law_bent" sBent) (M : Mg mg) : Cal P w K mg base 1 "_law_bent" ["_law_problem_here", "_law_change_here", "_law_cell"] (spBent K) := by
  refine cal_of F scBent (fun _ _ _ _ _ _ => bind3 (fun _ _ _ => rfl)) (fun vs H Q E h => ?_) (fun f cdv A outer s H vs Q E hr h => ?_)
  · obtain ⟨t, c, z, rs, cs, ch, rfl, _⟩ := h
    rfl
  obtain ⟨t, c, z, rs, cs, ch, rfl, ⟨⟨l, cc, vs, ht, hl, hrw, hcc⟩, hrn, hcn, hrl⟩, hch, hok, q⟩ := h
  refine ⟨_, (pss_cons (ps_set (i := 3) scBent.nd rfl (Or.inl rfl) (pe_callB call_len_seq rfl M.len bt_len (pa_cons (pe_ix ix_tup (pv 0) pe_int (fun _ _ => rfl)) pa_nil)))
    (pss_cons (ps_set (i := 4) scBent.nd rfl (Or.inl rfl) (pe_lst (pa_cons (pe_slice sl_tupG (pv 1) po_none (po_some pe_int)) (pa_cons (pe_op op_catG (pv 1) (pe_tup (pa_cons pe_int pa_nil))) (pa_cons (pe_callTy call_list_of rfl M.list_ bt_list (pa_cons (pv 1) pa_nil)) (pa_cons (pe_op op_catG (pe_tup (pa_cons (pe_bm0 PySem.F.plainAttrs_str PySem.F.slot_str_upper PySem.F.type_str_upper mt_upper (pe_ix ix_tup (pv 1) pe_int (fun _ _ => rfl))) pa_nil)) (pe_slice sl_tupG (pv 1) (po_some pe_int) po_none)) (pa_cons (pe_tup (pa_cons pe_str (pa_cons (pe_callB call_len_seq rfl M.len bt_len (pa_cons (pe_ix ix_tup (pv 0) pe_int (fun _ _ => rfl)) pa_nil)) pa_nil))) pa_nil)))))))
    (pss_cons (ps_set (i := 4) scBent.nd rfl (Or.inl rfl) (pe_op op_cat (pv 4) (pe_lst (pa_cons (pe_tup (pa_cons pe_str (pa_cons (pe_un un_neg pe_int) pa_nil))) (pa_cons (pe_tup (pa_cons pe_str (pa_cons pe_bl pa_nil))) (pa_cons (pe_tup (pa_cons pe_str (pa_cons (pv 3) (pa_cons pe_int pa_nil)))) (pa_cons (pe_tup (pa_cons pe_str (pa_cons (pe_un un_neg pe_int) (pa_cons pe_int pa_nil)))) (pa_cons (pe_tup (pa_cons pe_str (pa_cons pe_bl pa_nil))) pa_nil))))))))
    (pss_cons (ps_set (i := 4) scBent.nd rfl (Or.inl rfl) (pe_op op_cat (pv 4) (pe_lst (pa_cons (pe_tup (pa_cons pe_str (pa_cons (pe_tup (pa_cons pe_int pa_nil)) pa_nil))) (pa_cons (pe_tup (pa_cons pe_str (pa_cons (pe_tup (pa_cons (pe_op op_repT (pe_tup (pa_cons pe_int pa_nil)) (pe_op op_add (pv 3) pe_int)) (pa_cons pe_int pa_nil))) pa_nil))) (pa_cons (pe_tup (pa_cons pe_str (pa_cons (pe_tup (pa_cons (pe_op op_rep (pe_lst (pa_cons pe_int pa_nil)) (pv 3)) (pa_cons pe_int pa_nil))) pa_nil))) pa_nil))))))
    (pss_cons (ps_set (i := 4) scBent.nd rfl (Or.inl rfl) (pe_op op_cat (pv 4) (pe_lst (pa_cons (pe_tup (pa_cons pe_str (pa_cons (pe_op op_repT (pe_tup (pa_cons pe_int pa_nil)) (pv 3)) pa_nil))) (pa_cons (pe_tup (pa_cons pe_str (pa_cons pe_int pa_nil))) (pa_cons pe_int pa_nil))))))
    (pss_one (ps_ret (pe_ix ix_list (pv 4) (pe_op op_mod (pv 2) pe_int) (fun _ _ => rfl))))))))), ?_⟩
  have hz : (1000 : Nat) < sizeLine := by decide
  have lv := hrw.length
  have hcl : (cs.map V.int).length = cs.length := List.length_map _
  obtain ⟨r, ds, hc, hts, hlc, hd1, hd2⟩ := hch.parts
  have lr := hts.length
  have hbn := bent_none (rs := rs) (cs := cs) hlc hd1
  obtain ⟨hu1, hu2⟩ := up_all ch
  refine ⟨_, rfl, t, _, _, _, rfl, rfl, ht, at1, cc, _, rfl, .inr hcc, ?_⟩
  refine ⟨_, rfl, 1, rfl, c, _, rfl, hc, fun p1 H1 s1 hp1 => ?_⟩
  have e1 : cutV (.str ch.w :: r) none (some 1) = [.str ch.w] := (cutTo (xs := .str ch.w :: r) (k := 1) (by simp)).trans rfl
  rw [e1] at hp1
  refine ⟨_, rfl, by show 1 ≤ sizeLine; decide, fun p2 hp2 => ?_⟩
  have a2 := same_new' (H := H1) hp2 (.tup [.int 0])
  refine ⟨c, p2, _, _, rfl, rfl, (s1.trans a2).tup hc, sqT_new upd_same, (by simp), by show (r.length + 1) + 1 ≤ _; omega, fun p3 H3 b3 hp3 => ?_⟩
  have s3 := (s1.trans a2).trans b3
  have b13 := a2.trans b3
  refine ⟨_, rfl, c, _, rfl, .inr (s3.tup hc), fun p4 hp4 => ?_⟩
  have a4 := same_new' (H := H3) hp4 (.lst (.str ch.w :: r))
  have hp4' : upd H3 p4 (.lst (.str ch.w :: r)) p4 = some (.lst (.str ch.w :: r)) := upd_same
  generalize upd H3 p4 (.lst (.str ch.w :: r)) = H4 at a4 hp4' ⊢
  have s4 := s3.trans a4
  refine ⟨_, rfl, c, _, _, _, rfl, rfl, s4.tup hc, (show atI (V.str ch.w :: r) ((0 : Nat) : Int) = some (.str ch.w) from atNat rfl), rfl, ch.w, rfl, rfl, hu2, by show 1 ≤ sizeLine; decide, fun p5 hp5 => ?_⟩
  have a5 := same_new' (H := H4) hp5 (.tup [.str (PySem.Txt.upper ch.w)])
  have hp5' : upd H4 p5 (.tup [.str (PySem.Txt.upper ch.w)]) p5 = some (.tup [.str (PySem.Txt.upper ch.w)]) := upd_same
  generalize upd H4 p5 (.tup [.str (PySem.Txt.upper ch.w)]) = H5 at a5 hp5' ⊢
  have s5 := s4.trans a5
  refine ⟨_, rfl, 1, rfl, c, _, rfl, s5.tup hc, fun p6 H6 b6 hp6 => ?_⟩
  have e6 : cutV (.str ch.w :: r) (some 1) none = r := (cutFrom (xs := .str ch.w :: r) (k := 1) (by simp)).trans rfl
  rw [e6] at hp6
  have s6 := s5.trans b6
  refine ⟨p5, p6, _, _, rfl, rfl, b6.tup (sqT_new hp5'), hp6, (fun z9 => by rw [z9] at lr; simp at lr; omega), by show 1 + r.length ≤ _; omega, fun p7 H7 b7 hp7 => ?_⟩
  have s7 := s6.trans b7
  refine ⟨_, rfl, t, _, _, _, rfl, rfl, s7.tup ht, at0, l, _, rfl, .inl (sqL_new (s7 _ _ hl)), by show 2 ≤ sizeLine; decide, fun p8 hp8 => ?_⟩
  have a8 := same_new' (H := H7) hp8 (.tup [.str "less", .int ((vs.length : Nat) : Int)])
  have hp8' : upd H7 p8 (.tup [.str "less", .int ((vs.length : Nat) : Int)]) p8 = some (.tup [.str "less", .int ((vs.length : Nat) : Int)]) := upd_same
  generalize upd H7 p8 (.tup [.str "less", .int ((vs.length : Nat) : Int)]) = H8 at a8 hp8' ⊢
  refine ⟨by show 5 ≤ sizeLine; decide, fun g1 hg1 => ?_⟩
  have s8 := s7.trans a8
  have c78 := b7.trans a8
  have c58 := (a5.trans b6).trans c78
  have ts1 : TsAre K H8 [.ref p1, .ref p3, .ref p4, .ref p7, .ref p8] (bent1 rs.length ch.w ds) := by
    refine .cons ?_ (.cons ?_ (.cons ?_ (.cons ?_ (.cons ?_ .nil))))
    · exact TsAre.tup (((b13.trans a4).trans c58).tup hp1) (.cons (.str _) .nil)
    · exact TsAre.tup ((a4.trans c58).tup hp3) (.cons (.str _) ((hts.same s8).app (.cons (.int 0) .nil)))
    · exact TsAre.lst (sqL_new (c58 _ _ hp4')) (.cons (.str _) (hts.same s8))
    · exact TsAre.tup (a8.tup hp7) (.cons (.str _) (hts.same s8))
    · rw [← lv]
      exact TsAre.tup (sqT_new hp8') (.cons (.str _) (.cons (.int _) .nil))
  have a9 := same_new' (H := H8) hg1 (.lst [.ref p1, .ref p3, .ref p4, .ref p7, .ref p8])
  have hg1' : upd H8 g1 (.lst [.ref p1, .ref p3, .ref p4, .ref p7, .ref p8]) g1 = some (.lst [.ref p1, .ref p3, .ref p4, .ref p7, .ref p8]) := upd_same
  have ts9 := ts1.same a9
  have s9 := s8.trans a9
  generalize upd H8 g1 (.lst [.ref p1, .ref p3, .ref p4, .ref p7, .ref p8]) = H9 at hg1' ts9 s9 ⊢
  generalize ([.ref p1, .ref p3, .ref p4, .ref p7, .ref p8] : List V) = ws1 at hg1' ts9 ⊢
  clear ts1 a9 c58 c78 hp1 hp3 hp7 hp6 hp4' hp5' hp8'
  have lw1 : ws1.length = 5 := ts9.length
  refine ⟨_, rfl, _, rfl, by show 2 ≤ sizeLine; decide, fun q1 hq1 => ?_⟩
  have f1 := same_new' (H := H9) hq1 (.tup [.str "less", .int (-1)])
  have k1 : upd H9 q1 (.tup [.str "less", .int (-1)]) q1 = some (.tup [.str "less", .int (-1)]) := upd_same
  generalize upd H9 q1 (.tup [.str "less", .int (-1)]) = G1 at f1 k1 ⊢
  refine ⟨by show 2 ≤ sizeLine; decide, fun q2 hq2 => ?_⟩
  have f2 := same_new' (H := G1) hq2 (.tup [.str "less", .bl true])
  have k2 : upd G1 q2 (.tup [.str "less", .bl true]) q2 = some (.tup [.str "less", .bl true]) := upd_same
  generalize upd G1 q2 (.tup [.str "less", .bl true]) = G2 at f2 k2 ⊢
  refine ⟨_, rfl, by show 3 ≤ sizeLine; decide, fun q3 hq3 => ?_⟩
  have f3 := same_new' (H := G2) hq3 (.tup [.str "cost", .int (((cs.map V.int).length : Nat) : Int), .int 0])
  have k3 : upd G2 q3 (.tup [.str "cost", .int (((cs.map V.int).length : Nat) : Int), .int 0]) q3 = some (.tup [.str "cost", .int (((cs.map V.int).length : Nat) : Int), .int 0]) := upd_same
  generalize upd G2 q3 (.tup [.str "cost", .int (((cs.map V.int).length : Nat) : Int), .int 0]) = G3 at f3 k3 ⊢
  refine ⟨_, rfl, by show 3 ≤ sizeLine; decide, fun q4 hq4 => ?_⟩
  have f4 := same_new' (H := G3) hq4 (.tup [.str "cost", .int (-1), .int 1])
  have k4 : upd G3 q4 (.tup [.str "cost", .int (-1), .int 1]) q4 = some (.tup [.str "cost", .int (-1), .int 1]) := upd_same
  generalize upd G3 q4 (.tup [.str "cost", .int (-1), .int 1]) = G4 at f4 k4 ⊢
  refine ⟨by show 2 ≤ sizeLine; decide, fun q5 hq5 => ?_⟩
  have f5 := same_new' (H := G4) hq5 (.tup [.str "choice", .bl false])
  have k5 : upd G4 q5 (.tup [.str "choice", .bl false]) q5 = some (.tup [.str "choice", .bl false]) := upd_same
  generalize upd G4 q5 (.tup [.str "choice", .bl false]) = G5 at f5 k5 ⊢
  refine ⟨by show 5 ≤ sizeLine; decide, fun g2 hg2 => ?_⟩
  have f35 := (f3.trans f4).trans f5
  have ts2 : TsAre K G5 [.ref q1, .ref q2, .ref q3, .ref q4, .ref q5] (bent2 cs.length) := by
    refine .cons ?_ (.cons ?_ (.cons ?_ (.cons ?_ (.cons ?_ .nil))))
    · exact tup2T ((f2.trans f35).tup (sqT_new k1)) (.str _) (.int _)
    · exact tup2T (f35.tup (sqT_new k2)) (.str _) (.bl _)
    · rw [← hcl]; exact tup3T ((f4.trans f5).tup (sqT_new k3)) (.str _) (.int _) (.int _)
    · exact tup3T (f5.tup (sqT_new k4)) (.str _) (.int _) (.int _)
    · exact tup2T (sqT_new k5) (.str _) (.bl _)
  have f15 := (f1.trans f2).trans f35
  have f6 := same_new' (H := G5) hg2 (.lst [.ref q1, .ref q2, .ref q3, .ref q4, .ref q5])
  have f16 := f15.trans f6
  refine ⟨g1, g2, _, _, rfl, rfl, f16 _ _ hg1', upd_same, by rw [lw1]; show 5 + 5 ≤ sizeLine; decide, fun g3 hg3 => ?_⟩
  have f7 := same_new' hg3 (.lst (ws1 ++ [.ref q1, .ref q2, .ref q3, .ref q4, .ref q5]))
  have hg3' : upd (upd G5 g2 (.lst [.ref q1, .ref q2, .ref q3, .ref q4, .ref q5])) g3 (.lst (ws1 ++ [.ref q1, .ref q2, .ref q3, .ref q4, .ref q5])) g3 = some (.lst (ws1 ++ [.ref q1, .ref q2, .ref q3, .ref q4, .ref q5])) := upd_same
  have ts10 : TsAre K _ (ws1 ++ [.ref q1, .ref q2, .ref q3, .ref q4, .ref q5]) (bent1 rs.length ch.w ds ++ bent2 cs.length) := (ts9.same (f16.trans f7)).app (ts2.same (f6.trans f7))
  have s10 := s9.trans (f16.trans f7)
  generalize upd (upd G5 g2 (.lst [.ref q1, .ref q2, .ref q3, .ref q4, .ref q5])) g3 (.lst (ws1 ++ [.ref q1, .ref q2, .ref q3, .ref q4, .ref q5])) = H10 at hg3' ts10 s10 ⊢
  generalize ws1 ++ [.ref q1, .ref q2, .ref q3, .ref q4, .ref q5] = ws2 at hg3' ts10 ⊢
  clear ts2 ts9 f7 f16 f6 f15 f35 k1 k2 k3 k4 k5
  have lw2 : ws2.length = 10 := ts10.length
  refine ⟨_, rfl, by show 1 ≤ sizeLine; decide, fun q1 hq1 => ?_⟩
  have f1 := same_new' (H := H10) hq1 (.tup [.int 1])
  have k1 : upd H10 q1 (.tup [.int 1]) q1 = some (.tup [.int 1]) := upd_same
  generalize upd H10 q1 (.tup [.int 1]) = G1 at f1 k1 ⊢
  refine ⟨by show 2 ≤ sizeLine; decide, fun q2 hq2 => ?_⟩
  have f2 := same_new' (H := G1) hq2 (.tup [.str "choice", .ref q1])
  have k2 : upd G1 q2 (.tup [.str "choice", .ref q1]) q2 = some (.tup [.str "choice", .ref q1]) := upd_same
  generalize upd G1 q2 (.tup [.str "choice", .ref q1]) = G2 at f2 k2 ⊢
  refine ⟨by show 1 ≤ sizeLine; decide, fun q3 hq3 => ?_⟩
  have f3 := same_new' (H := G2) hq3 (.tup [.int 0])
  refine ⟨_, rfl, _, _, rfl, rfl, q3, _, _, rfl, rfl, sqT_new upd_same, by omega, by omega, by show 1 * Int.toNat _ ≤ sizeLine; omega, fun q4 G4 f4 k4 => ?_⟩
  have e4 : Int.toNat ((((cs.map V.int).length : Nat) : Int) + 1) = cs.length + 1 := by omega
  rw [e4, repI] at k4
  have f34 := f3.trans f4
  refine ⟨by show 2 ≤ sizeLine; decide, fun q5 hq5 => ?_⟩
  have f5 := same_new' (H := G4) hq5 (.tup [.ref q4, .int 0])
  have k5 : upd G4 q5 (.tup [.ref q4, .int 0]) q5 = some (.tup [.ref q4, .int 0]) := upd_same
  generalize upd G4 q5 (.tup [.ref q4, .int 0]) = G5 at f5 k5 ⊢
  refine ⟨by show 2 ≤ sizeLine; decide, fun q6 hq6 => ?_⟩
  have f6 := same_new' (H := G5) hq6 (.tup [.str "row", .ref q5])
  have k6 : upd G5 q6 (.tup [.str "row", .ref q5]) q6 = some (.tup [.str "row", .ref q5]) := upd_same
  generalize upd G5 q6 (.tup [.str "row", .ref q5]) = G6 at f6 k6 ⊢
  refine ⟨by show 1 ≤ sizeLine; decide, fun q7 hq7 => ?_⟩
  have f7 := same_new' (H := G6) hq7 (.lst [.int 0])
  refine ⟨_, rfl, q7, _, _, rfl, rfl, upd_same, by omega, by omega, by show 1 * Int.toNat _ ≤ sizeLine; omega, fun q8 hq8 => ?_⟩
  have e8 : (List.replicate (Int.toNat (((cs.map V.int).length : Nat) : Int)) [V.int 0]).flatten = (List.replicate cs.length (0 : Int)).map V.int := by rw [← repI, Int.toNat_natCast, hcl]
  rw [e8]
  have f8 := f7.trans (same_new' hq8 (.lst ((List.replicate cs.length (0 : Int)).map V.int)))
  have k8 : upd (upd G6 q7 (.lst [.int 0])) q8 (.lst ((List.replicate cs.length (0 : Int)).map V.int)) q8 = some (.lst ((List.replicate cs.length (0 : Int)).map V.int)) := upd_same
  generalize upd (upd G6 q7 (.lst [.int 0])) q8 (.lst ((List.replicate cs.length (0 : Int)).map V.int)) = G8 at f8 k8 ⊢
  refine ⟨by show 2 ≤ sizeLine; decide, fun q9 hq9 => ?_⟩
  have f9 := same_new' (H := G8) hq9 (.tup [.ref q8, .int 0])
  have k9 : upd G8 q9 (.tup [.ref q8, .int 0]) q9 = some (.tup [.ref q8, .int 0]) := upd_same
  generalize upd G8 q9 (.tup [.ref q8, .int 0]) = G9 at f9 k9 ⊢
  refine ⟨by show 2 ≤ sizeLine; decide, fun qa hqa => ?_⟩
  have fa := same_new' (H := G9) hqa (.tup [.str "row", .ref q9])
  have ka : upd G9 qa (.tup [.str "row", .ref q9]) qa = some (.tup [.str "row", .ref q9]) := upd_same
  generalize upd G9 qa (.tup [.str "row", .ref q9]) = Ga at fa ka ⊢
  refine ⟨by show 3 ≤ sizeLine; decide, fun g4 hg4 => ?_⟩
  have f9a := f9.trans fa
  have f8a := f8.trans f9a
  have f6a := f6.trans f8a
  have f5a := f5.trans f6a
  have f3a := f34.trans f5a
  have f2a := f2.trans f3a
  have ts3 : TsAre K Ga [.ref q2, .ref q6, .ref qa] (bent3 cs.length) := by
    refine .cons ?_ (.cons ?_ (.cons ?_ .nil))
    · exact tup2T (f3a.tup (sqT_new k2)) (.str _) (TsAre.tup (f2a.tup (sqT_new k1)) (.cons (.int _) .nil))
    · exact tup2T (f8a.tup (sqT_new k6)) (.str _) (tup2T (f6a.tup (sqT_new k5)) (intsT (f5a.tup k4)) (.int _))
    · exact tup2T (sqT_new ka) (.str _) (tup2T (fa.tup (sqT_new k9)) (intsTL (sqL_new (f9a _ _ k8))) (.int _))
  have f1a := f1.trans f2a
  have fb := same_new' (H := Ga) hg4 (.lst [.ref q2, .ref q6, .ref qa])
  have f1b := f1a.trans fb
  refine ⟨g3, g4, _, _, rfl, rfl, f1b _ _ hg3', upd_same, by rw [lw2]; show 10 + 3 ≤ sizeLine; decide, fun g5 hg5 => ?_⟩
  have fc := same_new' hg5 (.lst (ws2 ++ [.ref q2, .ref q6, .ref qa]))
  have hg5' : upd (upd Ga g4 (.lst [.ref q2, .ref q6, .ref qa])) g5 (.lst (ws2 ++ [.ref q2, .ref q6, .ref qa])) g5 = some (.lst (ws2 ++ [.ref q2, .ref q6, .ref qa])) := upd_same
  have ts11 : TsAre K _ (ws2 ++ [.ref q2, .ref q6, .ref qa]) ((bent1 rs.length ch.w ds ++ bent2 cs.length) ++ bent3 cs.length) := (ts10.same (f1b.trans fc)).app (ts3.same (fb.trans fc))
  have s11 := s10.trans (f1b.trans fc)
  generalize upd (upd Ga g4 (.lst [.ref q2, .ref q6, .ref qa])) g5 (.lst (ws2 ++ [.ref q2, .ref q6, .ref qa])) = H11 at hg5' ts11 s11 ⊢
  generalize ws2 ++ [.ref q2, .ref q6, .ref qa] = ws3 at hg5' ts11 ⊢
  clear ts3 ts10 fc f1b fb f1a f2a f3a f5a f6a f8a f9a ka k9 k8 k6 k5 k4 k2 k1
  have lw3 : ws3.length = 13 := ts11.length
  refine ⟨_, rfl, by show 1 ≤ sizeLine; decide, fun q1 hq1 => ?_⟩
  have f1 := same_new' (H := H11) hq1 (.tup [.int 0])
  refine ⟨_, rfl, q1, _, _, rfl, rfl, sqT_new upd_same, by omega, by omega, by show 1 * Int.toNat _ ≤ sizeLine; omega, fun q2 G2 f2 k2 => ?_⟩
  have e2 : (List.replicate (Int.toNat (((cs.map V.int).length : Nat) : Int)) [V.int 0]).flatten = (List.replicate cs.length (0 : Int)).map V.int := by rw [← repI, Int.toNat_natCast, hcl]
  rw [e2] at k2
  have f12 := f1.trans f2
  refine ⟨by show 2 ≤ sizeLine; decide, fun q3 hq3 => ?_⟩
  have f3 := same_new' (H := G2) hq3 (.tup [.str "row", .ref q2])
  have k3 : upd G2 q3 (.tup [.str "row", .ref q2]) q3 = some (.tup [.str "row", .ref q2]) := upd_same
  generalize upd G2 q3 (.tup [.str "row", .ref q2]) = G3 at f3 k3 ⊢
  refine ⟨by show 2 ≤ sizeLine; decide, fun q4 hq4 => ?_⟩
  have f4 := same_new' (H := G3) hq4 (.tup [.str "cost", .int 0])
  have k4 : upd G3 q4 (.tup [.str "cost", .int 0]) q4 = some (.tup [.str "cost", .int 0]) := upd_same
  generalize upd G3 q4 (.tup [.str "cost", .int 0]) = G4 at f4 k4 ⊢
  refine ⟨by show 3 ≤ sizeLine; decide, fun g6 hg6 => ?_⟩
  have f34 := f3.trans f4
  have ts4 : TsAre K G4 [.ref q3, .ref q4, .int 7] (bent4 cs.length) := by
    refine .cons ?_ (.cons ?_ (.cons (.int 7) .nil))
    · exact tup2T (f4.tup (sqT_new k3)) (.str _) (intsT (f34.tup k2))
    · exact tup2T (sqT_new k4) (.str _) (.int _)
  have f14 := f12.trans f34
  have f5 := same_new' (H := G4) hg6 (.lst [.ref q3, .ref q4, .int 7])
  have f15 := f14.trans f5
  refine ⟨g5, g6, _, _, rfl, rfl, f15 _ _ hg5', upd_same, by rw [lw3]; show 13 + 3 ≤ sizeLine; decide, fun g7 hg7 => ?_⟩
  have f6 := same_new' hg7 (.lst (ws3 ++ [.ref q3, .ref q4, .int 7]))
  have hg7' : upd (upd G4 g6 (.lst [.ref q3, .ref q4, .int 7])) g7 (.lst (ws3 ++ [.ref q3, .ref q4, .int 7])) g7 = some (.lst (ws3 ++ [.ref q3, .ref q4, .int 7])) := upd_same
  have ts12 : TsAre K _ (ws3 ++ [.ref q3, .ref q4, .int 7]) (((bent1 rs.length ch.w ds ++ bent2 cs.length) ++ bent3 cs.length) ++ bent4 cs.length) := (ts11.same (f15.trans f6)).app (ts4.same (f5.trans f6))
  have s12 := s11.trans (f15.trans f6)
  generalize upd (upd G4 g6 (.lst [.ref q3, .ref q4, .int 7])) g7 (.lst (ws3 ++ [.ref q3, .ref q4, .int 7])) = H12 at hg7' ts12 s12 ⊢
  generalize ws3 ++ [.ref q3, .ref q4, .int 7] = ws4 at hg7' ts12 ⊢
  have lw4 : ws4.length = 16 := ts12.length
  have z0 := Int.emod_nonneg z (show (16 : Int) ≠ 0 by decide)
  have z1 := Int.emod_lt_of_pos z (show (0 : Int) < 16 by decide)
  have ez : z % 16 = (((z % 16).toNat : Nat) : Int) := (Int.toNat_of_nonneg z0).symm
  obtain ⟨v, ev⟩ : ∃ v, ws4[(z % 16).toNat]? = some v := ⟨_, List.getElem?_eq_getElem (by omega)⟩
  obtain ⟨d, ed, hd⟩ := ts12.get ev
  refine ⟨_, rfl, _, rfl, _, _, rfl, rfl, (by show (0 : Int) < _; decide +kernel), g7, _, _, _, rfl, rfl, sqL_new hg7', (by rw [ez]; exact atNat ev), ?_⟩
  exact q v d H12 s12 hd (hbn d (List.mem_of_getElem? ed))
end
end Nb
namespace Nb
open PySem L2
noncomputable abbrev sDue70 : Stmt := top 29
section
variable {P : Program} {w : World} {K : PySem.W.Frag} {mg : Str → Option Value} {base : Heap} {C D B1 B2 B3 : Addr} {aT aL : Addr} {fT fL : Str → Option Value}
theorem scDue70 : FnScope ["_law_problem_here", "_law_change_here", "_law_rows", "_law_costs"] ["_law_problem_here", "_law_change_here"] (defScope sDue70) := ⟨rfl, rfl, rfl, by decide +kernel, rfl, by decide +kernel, by decide +kernel⟩
theorem okDue70 (F : Fn K mg "_law_due" sDue70) (M : Mg mg) : Cal P w K mg base 1 "_law_due" ["_law_problem_here", "_law_change_here"] (spDue70 K) := by
  refine cal_of F scDue70 (fun _ _ _ _ _ _ => bind2 (fun _ _ => rfl)) (fun vs H Q E h => ?_) (fun f cdv A outer s H vs Q E hr h => ?_)
  · obtain ⟨t, c, rs, cs, ch, rfl, _⟩ := h
    rfl
  obtain ⟨t, c, rs, cs, ch, rfl, ⟨⟨l, cc, vs, ht, hl, hrw, hcc⟩, hrn, hcn, hrl⟩, hch, hok, q⟩ := h
  refine ⟨_, (pss_cons (ps_asg (pv 0) (pg_tup rfl (pgs_cons (pg_name (i := 2) scDue70.nd rfl (Or.inr rfl) (Or.inl rfl)) (pgs_cons (pg_name (i := 3) scDue70.nd rfl (Or.inr rfl) (Or.inl rfl)) pgs_nil))))
    (pss_cons (ps_if (pt_cmpR op_eq (pe_ix ix_tup (pv 1) pe_int (fun _ _ => rfl)) pe_str (nomark _)) (pss_one (ps_ret (pe_tup (pa_cons (pe_op op_cat (pv 2) (pe_lst (pa_cons (pe_ix ix_tup (pv 1) pe_int (fun _ _ => rfl)) pa_nil))) (pa_cons (pv 3) pa_nil))))) pss_nil)
    (pss_cons (ps_if (pt_cmpR op_eq (pe_ix ix_tup (pv 1) pe_int (fun _ _ => rfl)) pe_str (nomark _)) (pss_one (ps_ret (pe_tup (pa_cons (pe_lc ["_law_k", "_law_change_here", "_law_rows"] [none, some 1, some 2] rfl (pi_range1 rfl M.range_ (pa_cons (pe_callB call_len_seq rfl M.len bt_len (pa_cons (pv 2) pa_nil)) pa_nil)) (fun _ _ _ => (pg_name (i := 0) (show (["_law_k", "_law_change_here", "_law_rows"] : List Str).Nodup by decide +kernel) rfl (Or.inl rfl) (Or.inr rfl))) (fun _ _ _ => (pf_one (pt_cmpR op_ne (pv 0) (pe_ix (ix_tupK (K := K) rfl) (pv 1) pe_int (fun _ _ => rfl)) (nomark _)))) (fun _ _ _ => (pe_ix (ix_listK (K := K) rfl) (pv 2) (pv 0) (fun _ _ => rfl)))) (pa_cons (pv 3) pa_nil))))) pss_nil)
    (pss_cons (ps_if (pt_cmpR op_eq (pe_ix ix_tup (pv 1) pe_int (fun _ _ => rfl)) pe_str (nomark _)) (pss_one (ps_ret (pe_tup (pa_cons (pv 2) (pa_cons (pe_callTy call_tuple_of rfl M.tuple_ bt_tuple (pa_cons (pe_lc ["_law_k", "_law_change_here", "_law_costs"] [none, some 1, some 3] rfl (pi_range1 rfl M.range_ (pa_cons (pe_callB call_len_seq rfl M.len bt_len (pa_cons (pv 3) pa_nil)) pa_nil)) (fun _ _ _ => (pg_name (i := 0) (show (["_law_k", "_law_change_here", "_law_costs"] : List Str).Nodup by decide +kernel) rfl (Or.inl rfl) (Or.inr rfl))) (fun _ _ _ => pf_nil) (fun _ _ _ => (pe_ix (ix_listK (K := K) rfl) (pe_lst (pa_cons (pe_ix (ix_tupK (K := K) rfl) (pv 2) (pv 0) (fun _ _ => rfl)) (pa_cons (pe_ix (ix_tupK (K := K) rfl) (pv 1) pe_int (fun _ _ => rfl)) pa_nil))) (pe_callTy call_int1 rfl M.int_ bt_int (pa_cons (pe_cmpR op_eq (pv 0) (pe_ix (ix_tupK (K := K) rfl) (pv 1) pe_int (fun _ _ => rfl)) (nomark _)) pa_nil)) (fun _ _ => rfl)))) pa_nil)) pa_nil))))) pss_nil)
    (pss_one (ps_ret (pe_tup (pa_cons (pe_lc ["_law_numbers", "_law_least"] [none, none] rfl (pi_list (pv 2)) (fun _ _ _ => (pg_pair (K := K) (i := 0) (j := 1) rfl rfl (show (["_law_numbers", "_law_least"] : List Str).Nodup by decide +kernel) rfl rfl rfl rfl)) (fun _ _ _ => pf_nil) (fun _ _ _ => (pe_tup (pa_cons (pe_op (op_catGK (K := K) rfl) (pv 0) (pe_tup (pa_cons pe_int pa_nil))) (pa_cons (pv 1) pa_nil))))) (pa_cons (pe_op op_catG (pv 3) (pe_tup (pa_cons (pe_ix ix_tup (pv 1) pe_int (fun _ _ => rfl)) pa_nil))) pa_nil))))))))), ?_⟩
  have hz : (1000 : Nat) < sizeLine := by decide
  have lv := hrw.length
  have hcl : (cs.map V.int).length = cs.length := List.length_map _
  refine ⟨_, rfl, t, _, rfl, ht, rfl, _, _, rfl, _, _, rfl, rfl, ?_⟩
  cases ch with
  | row r =>
    obtain ⟨x, hc, hx⟩ := hch
    refine ⟨_, rfl, c, _, _, _, rfl, rfl, hc, at0, rfl, _, rfl, ?_⟩
    rw [strY]
    refine iteT ⟨_, rfl, _, rfl, c, _, _, _, rfl, rfl, hc, at1, by show 1 ≤ sizeLine; decide, fun p hp => ?_⟩
    have s2 := same_new' hp (.lst [.ref x])
    refine ⟨l, p, vs, [.ref x], rfl, rfl, s2 _ _ hl, upd_same, by show vs.length + 1 ≤ _; omega, fun g hg => ?_⟩
    have s3 := s2.trans (same_new' hg (.lst (vs ++ [.ref x])))
    refine ⟨_, rfl, by show 2 ≤ sizeLine; decide, fun T hT => ?_⟩
    have a4 := same_new' hT (.tup [.ref g, .ref cc])
    have s4 := s3.trans a4
    exact q T _ s4 ⟨g, cc, _, sqT_new upd_same, a4 _ _ upd_same, RowsAre.snoc (hrw.imp fun _ _ z => z.same s4) (hx.same s4), s4.tup hcc⟩
  | less k =>
    have hc : SqT K H c [.str "less", .int (k : Int)] := hch
    have hk : k < rs.length := hok
    refine ⟨_, rfl, c, _, _, _, rfl, rfl, hc, at0, rfl, _, rfl, ?_⟩
    rw [strN (by decide)]
    refine iteF ⟨_, rfl, c, _, _, _, rfl, rfl, hc, at0, rfl, _, rfl, ?_⟩
    rw [strY]
    refine iteT ⟨_, rfl, l, _, rfl, .inl (sqL_new hl), _, rfl, by omega, by omega, fun D hD => ?_⟩
    refine lc_any (n := Int.toNat ((vs.length : Nat) : Int)) (fun i τ ys H1 => ∃ v : Option V, τ = [v, some (.ref c), some (.ref l)] ∧ RowsAre K H1 ys (wo k (rs.take i)) ∧ H1 D = some (.lst ys) ∧ Same H H1) ?_ (fun i τ ys H1 hi h => ?_) (fun i τ ys H1 hi h => hi) (fun τ ys H1 h => Nat.le_refl _) ?_ ?_
    · refine ⟨none, rfl, ?_, upd_same, same_new' hD _⟩
      have e : wo k (rs.take 0) = [] := by unfold wo; rw [List.take_zero, List.take_nil, List.drop_nil]; rfl
      rw [e]
      exact .nil
    · obtain ⟨v, rfl, ta, hE, s1⟩ := h
      have := ta.length
      unfold wo at this
      rw [List.length_append, List.length_take, List.length_drop, List.length_take] at this
      exact ⟨hE, by omega⟩
    · rintro i τ ys H1 x H2 hi ⟨v, rfl, ta, hE, s1⟩ ⟨rfl, rfl⟩
      have hi' : i < rs.length := by omega
      obtain ⟨u, eu⟩ : ∃ u, vs[i]? = some u := ⟨_, List.getElem?_eq_getElem (by omega)⟩
      obtain ⟨t', r, rfl, er, hrt⟩ := hrw.get eu
      have lt : (rs.take i).length = i := by rw [List.length_take]; omega
      refine ⟨_, rfl, _, rfl, c, _, _, _, rfl, rfl, s1.tup hc, at1, rfl, _, rfl, ?_⟩
      by_cases e : i = k
      · subst e
        have e9 : (!decide (V.int (0 + (i : Int)) = V.int (i : Int))) = false := by rw [Int.zero_add, decide_eq_true rfl]; rfl
        rw [e9]
        refine iteF ⟨_, rfl, ?_, hE, s1⟩
        rw [takeS er]
        have := wo_eq (xs := rs.take i) (r := r)
        rw [lt] at this
        rw [this]
        exact ta
      · have e9 : (!decide (V.int (0 + (i : Int)) = V.int (k : Int))) = true := by rw [decide_eq_false (fun z => e (by have := V.int.inj z; omega))]; rfl
        rw [e9]
        refine iteT ⟨_, rfl, _, rfl, l, _, _, _, rfl, rfl, s1.seq (sqL_new hl), atRow70 eu, hE, _, rfl, ?_, upd_same, fun b' o e' => ?_⟩
        · rw [takeS er, wo_ne (by rw [lt]; exact e)]
          exact RowsAre.snoc (ta.imp fun _ _ z => z.upd hE) ((hrt.same s1).upd hE)
        · rw [upd_ne (ne_of_none e' hD)]; exact s1 _ _ e'
    rintro τ ys H1 ⟨v, rfl, ta, hE, s1⟩
    rw [List.take_of_length_le (by omega)] at ta
    refine ⟨_, rfl, by show 2 ≤ sizeLine; decide, fun T hT => ?_⟩
    have a4 := same_new' hT (.tup [.ref D, .ref cc])
    exact q T _ (s1.trans a4) ⟨D, cc, ys, sqT_new upd_same, a4 _ _ hE, ta.imp fun _ _ z => z.same a4, (s1.trans a4).tup hcc⟩
  | cost i z =>
    have hc : SqT K H c [.str "cost", .int (i : Int), .int z] := hch
    have hi0 : i < cs.length := hok
    refine ⟨_, rfl, c, _, _, _, rfl, rfl, hc, (show atI [V.str "cost", V.int (i : Int), V.int z] 0 = some (.str "cost") from rfl), rfl, _, rfl, ?_⟩
    rw [strN (by decide)]
    refine iteF ⟨_, rfl, c, _, _, _, rfl, rfl, hc, (show atI [V.str "cost", V.int (i : Int), V.int z] 0 = some (.str "cost") from rfl), rfl, _, rfl, ?_⟩
    rw [strN (by decide)]
    refine iteF ⟨_, rfl, c, _, _, _, rfl, rfl, hc, (show atI [V.str "cost", V.int (i : Int), V.int z] 0 = some (.str "cost") from rfl), rfl, _, rfl, ?_⟩
    rw [strY]
    refine iteT ⟨_, rfl, _, rfl, cc, _, rfl, .inr hcc, _, rfl, by omega, by omega, fun D hD => ?_⟩
    refine lc_any (n := Int.toNat (((cs.map V.int).length : Nat) : Int)) (fun k τ ys H1 => ∃ v : Option V, τ = [v, some (.ref c), some (.ref cc)] ∧ ys = ((List.range k).map (setN cs i z)).map V.int ∧ H1 D = some (.lst ys) ∧ Same H H1) ?_ (fun k τ ys H1 hk h => ?_) (fun k τ ys H1 hk h => hk) (fun τ ys H1 h => Nat.le_refl _) ?_ ?_
    · exact ⟨none, rfl, rfl, upd_same, same_new' hD _⟩
    · obtain ⟨v, rfl, rfl, hE, s1⟩ := h
      exact ⟨hE, by rw [List.length_map, List.length_map, List.length_range]; omega⟩
    · rintro k τ ys H1 x H2 hk ⟨v, rfl, rfl, hE, s1⟩ ⟨rfl, rfl⟩
      have hk' : k < cs.length := by omega
      refine ⟨_, rfl, _, rfl, cc, _, _, _, rfl, rfl, s1.tup hcc, atInt70 hk', _, rfl, c, _, _, _, rfl, rfl, s1.tup hc, (show atI [V.str "cost", V.int (i : Int), V.int z] 2 = some (.int z) from rfl), by show 2 ≤ sizeLine; decide, fun e he => ?_⟩
      have a2 := same_new' he (.lst [V.int (cs.getD k 0), V.int z])
      refine ⟨_, rfl, _, rfl, c, _, _, _, rfl, rfl, (s1.trans a2).tup hc, (show atI [V.str "cost", V.int (i : Int), V.int z] 1 = some (.int (i : Int)) from rfl), rfl, .inr ⟨_, rfl, e, _, _, _, rfl, rfl, sqL_new upd_same, atSet, a2 _ _ hE, _, rfl, ?_, upd_same, fun b' o e' => ?_⟩⟩
      · rw [List.range_succ, List.map_append, List.map_append]; rfl
      · rw [upd_ne (ne_of_none e' hD)]; exact a2 _ _ (s1 _ _ e')
    rintro τ ys H1 ⟨v, rfl, rfl, hE, s1⟩
    have en : Int.toNat (((cs.map V.int).length : Nat) : Int) = cs.length := by omega
    rw [en, set_eq hi0] at hE
    refine ⟨D, _, rfl, .inl ⟨sqL_new hE, fun l2 hl2 => ?_⟩⟩
    have a2 := same_new' hl2 (.tup (((cs.take i ++ [z]) ++ cs.drop (i + 1)).map V.int))
    refine ⟨by show 2 ≤ sizeLine; decide, fun T hT => ?_⟩
    have a4 := a2.trans (same_new' hT (.tup [.ref l, .ref l2]))
    exact q T _ (s1.trans a4) ⟨l, l2, vs, sqT_new upd_same, (s1.trans a4) _ _ hl, hrw.imp fun _ _ z => z.same (s1.trans a4), (same_new' hT _).tup (sqT_new upd_same)⟩
  | choice z =>
    have hc : SqT K H c [.str "choice", .int z] := hch
    refine ⟨_, rfl, c, _, _, _, rfl, rfl, hc, at0, rfl, _, rfl, ?_⟩
    rw [strN (by decide)]
    refine iteF ⟨_, rfl, c, _, _, _, rfl, rfl, hc, at0, rfl, _, rfl, ?_⟩
    rw [strN (by decide)]
    refine iteF ⟨_, rfl, c, _, _, _, rfl, rfl, hc, at0, rfl, _, rfl, ?_⟩
    rw [strN (by decide)]
    refine iteF ⟨_, rfl, l, rfl, ⟨_, sqL_new hl⟩, fun D hD => ?_⟩
    refine lc_any (n := rs.length) (fun i τ ys H1 => ∃ u v : Option V, τ = [u, v] ∧ RowsAre K H1 ys ((rs.map wide).take i) ∧ H1 D = some (.lst ys) ∧ Same H H1) ?_ (fun i τ ys H1 hi h => ?_) (fun i τ ys H1 hi h => ?_) (fun τ ys H1 h => ?_) ?_ ?_
    · exact ⟨none, none, rfl, .nil, upd_same, same_new' hD _⟩
    · obtain ⟨u, v, rfl, ta, hE, s1⟩ := h
      have := ta.length
      rw [List.length_take, List.length_map] at this
      exact ⟨hE, by omega⟩
    · obtain ⟨u, v, rfl, ta, hE, s1⟩ := h
      exact ⟨vs, vs[i]'(by omega), s1.seq (sqL_new hl), List.getElem?_eq_getElem (by omega)⟩
    · obtain ⟨u, v, rfl, ta, hE, s1⟩ := h
      exact ⟨vs, s1.seq (sqL_new hl), by omega⟩
    · rintro i τ ys H1 x H2 hi ⟨u, v, rfl, ta, hE, s1⟩ ⟨rfl, e1⟩
      obtain ⟨t', r, rfl, er, p, r1, r2⟩ := hrw.get (e1 _ (s1.seq (sqL_new hl)))
      have eU : (rs.map wide)[i]? = some (wide r) := by rw [List.getElem?_map, er]; rfl
      have lr := hrl r (List.mem_of_getElem? er)
      refine ⟨t', _, rfl, s1.tup r1, rfl, _, _, rfl, _, _, rfl, rfl, ?_⟩
      refine ⟨_, rfl, by show 1 ≤ sizeLine; decide, fun p1 hp1 => ?_⟩
      have a2 := same_new' hp1 (.tup [.int 0])
      refine ⟨p, p1, _, _, rfl, rfl, (s1.trans a2).tup r2, sqT_new upd_same, (by simp), by rw [List.length_map]; show _ + 1 ≤ _; omega, fun p2 H3 s3 hp2 => ?_⟩
      refine ⟨_, rfl, by show 2 ≤ sizeLine; decide, fun T hT => ?_⟩
      have a4 := same_new' hT (.tup [.ref p2, .int r.2])
      have b4 := (a2.trans s3).trans a4
      refine ⟨b4 _ _ hE, _, _, rfl, ?_, upd_same, fun b' o e => ?_⟩
      · rw [takeS eU]
        refine RowsAre.snoc (ta.imp fun _ _ z => (z.same b4).upd (b4 _ _ hE)) (RowAt.upd (b4 _ _ hE) ⟨p2, sqT_new upd_same, ?_⟩)
        show SqT K _ p2 ((r.1 ++ [0]).map V.int)
        rw [List.map_append]
        exact a4.tup hp2
      · rw [upd_ne (ne_of_none e hD)]; exact b4 _ _ (s1 _ _ e)
    rintro τ ys H1 ⟨u, v, rfl, ta, hE, s1⟩
    rw [List.take_of_length_le (by rw [List.length_map]; exact Nat.le_refl _)] at ta
    refine ⟨_, rfl, _, rfl, c, _, _, _, rfl, rfl, s1.tup hc, at1, by show 1 ≤ sizeLine; decide, fun p hp => ?_⟩
    have a2 := same_new' hp (.tup [.int z])
    refine ⟨cc, p, _, _, rfl, rfl, (s1.trans a2).tup hcc, sqT_new upd_same, (by simp), by rw [List.length_map]; show _ + 1 ≤ _; omega, fun p2 H3 s3 hp2 => ?_⟩
    refine ⟨by show 2 ≤ sizeLine; decide, fun T hT => ?_⟩
    have a4 := same_new' hT (.tup [.ref D, .ref p2])
    have b4 := (a2.trans s3).trans a4
    refine q T _ (s1.trans b4) ⟨D, p2, ys, sqT_new upd_same, b4 _ _ hE, ta.imp fun _ _ z => z.same b4, ?_⟩
    show SqT K _ p2 ((cs ++ [z]).map V.int)
    rw [List.map_append]
    exact a4.tup hp2
end
end Nb
namespace Nb
open PySem L2
noncomputable abbrev sLaw : Stmt := top 31
section
variable {P : Program} {w : World} {K : PySem.W.Frag} {mg : Str → Option Value} {base : Heap} {C D B1 B2 B3 : Addr} {aT aL : Addr} {fT fL : Str → Option Value}
theorem scLaw : FnScope ["_law_script", "_law_problem_here", "_law_cell", "_law_change_here", "_law_handed", "_law_due_here", "_law_found"] ["_law_script"] (defScope sLaw) := ⟨rfl, rfl, rfl, by decide +kernel, rfl, by decide +kernel, by decide +kernel⟩
theorem okLaw {f : Addr} {fd : FuncData} (F : Fun K "law" "law" sLaw f fd) (M : Mg mg) (cl_problem : Cal P w K mg base 3 "_law_problem" ["_law_script", "_law_most", "_law_rows_most"] (spProblem70 K)) (cl_change : Cal P w K mg base 1 "_law_change" ["_law_problem_here", "_law_cell"] (spChange K)) (cl_copy : Cal P w K mg base 1 "_law_copy" ["_law_problem_here"] (spCopy70 K)) (cl_refused : Cal P w K mg base 6 "_law_refused" ["_law_problem_here", "_law_change_here"] (spRefused70 K)) (cl_bent : Cal P w K mg base 1 "_law_bent" ["_law_problem_here", "_law_change_here", "_law_cell"] (spBent K)) (cl_due : Cal P w K mg base 1 "_law_due" ["_law_problem_here", "_law_change_here"] (spDue70 K)) (c_changed : Cal P w K mg base 5 "changed" ["problem", "change"] (fun vs H Q _ => (spChanged K C) vs H Q fun _ _ _ => False)) : FnOk P w K mg base CX0 7 f fd ["_law_script"] (spLawB K) := by
  refine F.ok scLaw (fun vs H Q E h => ?_) (fun cdv A outer s H vs Q E hr h => ?_)
  · obtain ⟨a, ns, rfl, _⟩ := h
    rfl
  obtain ⟨a, ns, rfl, hS, h63, hB, q⟩ := h
  have hu6 : (A.deeper (PyProof.Rows.envOfC "law" (defScope sLaw) s.heap.objs.size f cdv)).units + 6 < cLine := Nat.lt_of_le_of_lt (Nat.add_le_add_left (by decide) _) hr.un
  refine ⟨_, (pss_cons (ps_set (i := 1) scLaw.nd rfl (Or.inl rfl) (pe_fn cl_problem (hr.mono (by decide)) (pa_cons (pv 0) (pa_cons pe_int (pa_cons pe_int pa_nil)))))
    (pss_cons (ps_for PassesOwn.never rfl (pi_list (pe_op op_cat (pe_lst (pa_cons pe_int pa_nil)) (pe_slice sl_list (pv 0) (po_some pe_int) (po_some pe_int)))) (pg_name (i := 2) scLaw.nd rfl (Or.inl rfl) (Or.inl rfl)) (pss_cons (ps_set (i := 3) scLaw.nd rfl (Or.inl rfl) (pe_fn cl_change (hr.mono (by decide)) (pa_cons (pv 1) (pa_cons (pe_op op_fdiv (pv 2) pe_int) pa_nil))))
    (pss_cons (ps_set (i := 4) scLaw.nd rfl (Or.inl rfl) (pe_fn cl_copy (hr.mono (by decide)) (pa_cons (pv 1) pa_nil)))
    (pss_cons (ps_if (pt_cmpR op_eq (pe_op op_mod (pv 2) pe_int) pe_int (nomark _)) (pss_one (ps_if (PW.pt (pw_or (pt_not (pt_val (pe_fn cl_refused (hr.mono (by decide)) (pa_cons (pv 4) (pa_cons (pe_fn cl_bent (hr.mono (by decide)) (pa_cons (pv 1) (pa_cons (pv 3) (pa_cons (pe_op op_fdiv (pv 2) pe_int) pa_nil)))) pa_nil))))) (pw_or1 (pt_cmpR (op_neD (n := 6) hu6) (pv 4) (pv 1) (nomark _))))) (pss_one (ps_ret pe_bl)) pss_nil)) pss_nil)
    (pss_one (ps_if (PW.pt (pw_or (pt_cmpR op_lt (pe_callB call_len_seq rfl M.len bt_len (pa_cons (pe_ix ix_tup (pv 1) pe_int (fun _ _ => rfl)) pa_nil)) pe_int (nomark _)) (pw_or1 (pt_cmpR op_ne (pe_ix ix_tup (pv 3) pe_int (fun _ _ => rfl)) pe_str (nomark _))))) (pss_cons (ps_set (i := 5) scLaw.nd rfl (Or.inl rfl) (pe_fn cl_due (hr.mono (by decide)) (pa_cons (pv 1) (pa_cons (pv 3) pa_nil))))
    (pss_cons (ps_set (i := 6) scLaw.nd rfl (Or.inl rfl) (pe_fn c_changed (hr.mono (by decide)) (pa_cons (pv 4) (pa_cons (pv 3) pa_nil))))
    (pss_cons (ps_if (PW.pt (pw_or (pt_not (pt_val (pe_callB call_isiW rfl M.isinstance bt_isinstance (pa_cons (pv 6) (pa_cons (pe_ty M.tuple_ bt_tuple) pa_nil))))) (pw_or (pt_cmpR (op_neD (n := 6) hu6) (pv 6) (pv 5) (nomark _)) (pw_or1 (pt_cmpR (op_neD (n := 6) hu6) (pv 4) (pv 1) (nomark _)))))) (pss_one (ps_ret pe_bl)) pss_nil)
    (pss_cons (ps_expr (pe_bm PySem.F.plainAttrs_list PySem.F.slot_list_append PySem.F.type_list_append mt_append (pe_ix ix_tup (pv 6) pe_int (fun _ _ => rfl)) (pa_cons pe_int pa_nil)))
    (pss_cons (ps_if (pt_cmpR (op_neD (n := 6) hu6) (pv 4) (pv 1) (nomark _)) (pss_one (ps_ret pe_bl)) pss_nil)
    (pss_one (ps_set (i := 1) scLaw.nd rfl (Or.inl rfl) (pv 5)))))))) pss_nil))))))
    (pss_one (ps_ret pe_bl)))), ?_⟩
  have hz : (1000 : Nat) < sizeLine := by decide
  refine ⟨_, rfl, a, ns, 6, 6, rfl, hS, hB, by decide, by decide, by decide, by decide, fun t0 rs0 cs0 H0 s0 pt0 hr0 hc0 hn0 => ?_⟩
  obtain ⟨ks, eks⟩ : ∃ ks : List Int, cutV (ns.map V.int) (some 20) (some 63) = ks.map V.int := ⟨_, by unfold cutV; rw [← List.map_drop, ← List.map_take]⟩
  have lks : ks.length ≤ 63 := by
    have := cutV_length (ns.map V.int) (some 20) (some 63)
    rw [eks, List.length_map, List.length_map] at this
    omega
  refine ⟨by show 1 ≤ sizeLine; decide, fun g1 hg1 => ?_⟩
  have a1 := same_new' hg1 (.lst [V.int 4])
  refine ⟨_, rfl, 20, rfl, 63, rfl, a, _, rfl, (s0.trans a1).seq hS, fun g2 hg2 => ?_⟩
  rw [eks]
  have a2 := same_new' hg2 (.lst (ks.map V.int))
  refine ⟨g1, g2, _, _, rfl, rfl, a2 _ _ upd_same, upd_same, by rw [List.length_map]; show 1 + ks.length ≤ _; omega, fun g hg => ?_⟩
  have a3 := same_new' hg (.lst ([V.int 4] ++ ks.map V.int))
  have hgX := sqL_new (K := K) (show upd (upd (upd H0 g1 (.lst [V.int 4])) g2 (.lst (ks.map V.int))) g (.lst ([V.int 4] ++ ks.map V.int)) g = some (.lst ([V.int 4] ++ ks.map V.int)) from upd_same)
  have pt1 := pt0.same ((a1.trans a2).trans a3)
  generalize upd (upd (upd H0 g1 (.lst [V.int 4])) g2 (.lst (ks.map V.int))) g (.lst ([V.int 4] ++ ks.map V.int)) = HX at hgX pt1 ⊢
  have eX : [V.int 4] ++ ks.map V.int = (4 :: ks).map V.int := rfl
  rw [eX] at hgX
  refine ⟨g, rfl, ⟨_, hgX⟩, for_list (K := K) (a := g) (xs := (4 :: ks).map V.int) (fun i σ H1 => ∃ (t : Addr) (rs : List Rw) (cs : List Int) (x2 x3 x4 x5 x6 : Option V), σ = [some (.ref a), some (.ref t), x2, x3, x4, x5, x6] ∧ ProbH K H1 t rs cs ∧ (∀ r ∈ rs, r.1.length = cs.length) ∧ rs.length ≤ 6 + i ∧ cs.length ≤ 12 ∧ Same HX H1)
    ⟨t0, rs0, cs0, none, none, none, none, none, rfl, pt1, hr0, by omega, by omega, Same.refl _⟩ (fun i σ H1 _ h => ?_) ?_ ?_⟩
  · obtain ⟨t, rs, cs, x2, x3, x4, x5, x6, rfl, pt, hrl, hrn, hcn, s1⟩ := h
    exact s1.seq hgX
  · rintro i v σ H1 e1 ⟨t, rs, cs, x2, x3, x4, x5, x6, rfl, pt, hrl, hrn, hcn, s1⟩
    obtain ⟨z, ez, rfl⟩ := getMapI e1
    have hi : i < 64 := by
      have := (List.getElem?_eq_some_iff.mp ez).1
      simp at this
      omega
    have hP : Hand K H1 t rs cs := ⟨pt, by omega, by omega, hrl⟩
    refine ⟨_, rfl, _, rfl, _, _, rfl, rfl, ⟨by decide, by decide⟩, t, z / 2, rs, cs, rfl, hP, fun c ch H2 s2 hch hok => ?_⟩
    refine ⟨_, rfl, t, rs, cs, rfl, pt.same s2, fun h H3 s3 ph => ?_⟩
    have s23 := s2.trans s3
    have hH : Hand K H3 h rs cs := ⟨ph, by omega, by omega, hrl⟩
    refine name_cut (fun σ' H' => ∃ x5 x6 : Option V, σ' = [some (.ref a), some (.ref t), some (.int z), some (.ref c), some (.ref h), x5, x6] ∧ Same H3 H') ?_ fun REST => ?_
    rotate_left
    · refine ⟨_, rfl, _, _, rfl, rfl, (by show (0 : Int) < _; decide +kernel), rfl, _, rfl, ite2 (fun _ => ?_) (fun _ => REST _ _ ⟨_, _, rfl, Same.refl _⟩)⟩
      refine ⟨_, rfl, _, rfl, _, rfl, _, rfl, _, _, rfl, rfl, ⟨by decide, by decide⟩, t, c, z / 2, rs, cs, ch, rfl, hP.same s23, hch.same s3, hok, fun v d H4 s4 hv hno => ?_⟩
      refine ⟨h, v, rs, cs, d, rfl, hH.same s4, hv, hno, fun H5 s5 => ⟨_, rfl, iteF ?_⟩⟩
      have s45 := s4.trans s5
      refine ⟨_, rfl, _, rfl, h, t, _, _, rfl, rfl, (ph.same s45).hasD, (pt.same (s23.trans s45)).hasD, alikeProb rs rs cs cs, fun b1 hb1 => ⟨_, rfl, ?_⟩⟩
      rw [hb1.mpr rfl]
      exact iteF (REST _ _ ⟨_, _, rfl, s45⟩)
    rintro σ' H4 ⟨x5', x6', rfl, s4⟩
    have s24 := s23.trans s4
    have hch4 := (hch.same s3).same s4
    obtain ⟨lt, ct, vt, ht, hlt, hrt, hct⟩ := id (pt.same s24)
    have hct' : (cs.map V.int).length = cs.length := List.length_map _
    obtain ⟨rr, ds, hc, hts, hlc, hd1, hd2⟩ := hch4.parts
    refine ⟨_, rfl, t, _, _, _, rfl, rfl, ht, at1, ct, _, rfl, .inr hct, _, _, rfl, rfl, _, rfl, ite2 (fun c1 => iteT ?_) (fun c1 => ?_)⟩
    rotate_left
    · refine ⟨_, rfl, c, _, _, _, rfl, rfl, hc, (show atI (V.str ch.w :: rr) ((0 : Nat) : Int) = some (.str ch.w) from atNat rfl), rfl, _, rfl, ite2 (fun c2 => ?_) (fun c2 => ?_)⟩
      rotate_left
      · exact ⟨t, rs, cs, _, _, _, _, _, rfl, pt.same s24, hrl, by omega, hcn, s1.trans s24⟩
      · have hw : ch.w ≠ "choice" := fun y => by rw [y, strY] at c2; exact absurd c2 (by decide)
        refine ⟨_, rfl, _, rfl, t, c, rs, cs, ch, rfl, hP.same s24, hch4, hok, fun u H5 s5 pu => ?_⟩
        refine ⟨_, rfl, _, rfl, h, .ref c, rs, cs, ch.d, rfl, (hH.same s4).same s5, (hch4.same s5).hasT, (fun y => by rw [chg_ok hok] at y; cases y), fun p hp T lT cT wT H6 s6 hT hlT0 hlT hrT hcT => ?_⟩
        rw [chg_ok hok] at hp
        cases hp
        have s46 := s5.trans s6
        have pT : ProbH K H6 T (ch.app rs cs).1 (ch.app rs cs).2 := ⟨lT, cT, wT, hT, hlT, hrT, hcT⟩
        refine ⟨_, rfl, _, "tuple", true, rfl, .tuple, .inl ⟨⟨_, hT⟩, rfl⟩, _, rfl, iteF ?_⟩
        refine ⟨_, rfl, _, rfl, T, u, _, _, rfl, rfl, pT.hasD, (pu.same s6).hasD, alikeProb _ _ _ _, fun b1 hb1 => ⟨_, rfl, ?_⟩⟩
        rw [hb1.mpr rfl]
        refine iteF ⟨_, rfl, _, rfl, h, t, _, _, rfl, rfl, (ph.same (s4.trans s46)).hasD, (pt.same (s24.trans s46)).hasD, alikeProb rs rs cs cs, fun b2 hb2 => ⟨_, rfl, ?_⟩⟩
        rw [hb2.mpr rfl]
        obtain ⟨al1, al2, al3⟩ := app_len hok
        have lwT := hrT.length
        refine iteF ⟨_, rfl, T, _, _, _, rfl, rfl, hT, at0, .inl ⟨rfl, _, sqL_new hlT⟩, lT, _, _, rfl, rfl, hlT, by omega, ?_⟩
        have s7 : Same H5 (upd H6 lT (.lst (wT ++ [.int 7]))) := fun b o e => by rw [upd_ne (ne_of_none e hlT0)]; exact s6 _ _ e
        generalize upd H6 lT (.lst (wT ++ [.int 7])) = H7 at s7 ⊢
        have s47 := s5.trans s7
        refine ⟨_, rfl, _, rfl, h, t, _, _, rfl, rfl, (ph.same (s4.trans s47)).hasD, (pt.same (s24.trans s47)).hasD, alikeProb rs rs cs cs, fun b3 hb3 => ⟨_, rfl, ?_⟩⟩
        rw [hb3.mpr rfl]
        refine iteF ⟨_, rfl, u, _, _, _, _, _, _, _, rfl, pu.same s7, app_rows hok hrl, by omega, ?_, s1.trans (s24.trans s47)⟩
        have := al3 hw; omega
    · refine ⟨_, rfl, _, rfl, t, c, rs, cs, ch, rfl, hP.same s24, hch4, hok, fun u H5 s5 pu => ?_⟩
      refine ⟨_, rfl, _, rfl, h, .ref c, rs, cs, ch.d, rfl, (hH.same s4).same s5, (hch4.same s5).hasT, (fun y => by rw [chg_ok hok] at y; cases y), fun p hp T lT cT wT H6 s6 hT hlT0 hlT hrT hcT => ?_⟩
      rw [chg_ok hok] at hp
      cases hp
      have s46 := s5.trans s6
      have pT : ProbH K H6 T (ch.app rs cs).1 (ch.app rs cs).2 := ⟨lT, cT, wT, hT, hlT, hrT, hcT⟩
      refine ⟨_, rfl, _, "tuple", true, rfl, .tuple, .inl ⟨⟨_, hT⟩, rfl⟩, _, rfl, iteF ?_⟩
      refine ⟨_, rfl, _, rfl, T, u, _, _, rfl, rfl, pT.hasD, (pu.same s6).hasD, alikeProb _ _ _ _, fun b1 hb1 => ⟨_, rfl, ?_⟩⟩
      rw [hb1.mpr rfl]
      refine iteF ⟨_, rfl, _, rfl, h, t, _, _, rfl, rfl, (ph.same (s4.trans s46)).hasD, (pt.same (s24.trans s46)).hasD, alikeProb rs rs cs cs, fun b2 hb2 => ⟨_, rfl, ?_⟩⟩
      rw [hb2.mpr rfl]
      obtain ⟨al1, al2, al3⟩ := app_len hok
      have lwT := hrT.length
      refine iteF ⟨_, rfl, T, _, _, _, rfl, rfl, hT, at0, .inl ⟨rfl, _, sqL_new hlT⟩, lT, _, _, rfl, rfl, hlT, by omega, ?_⟩
      have s7 : Same H5 (upd H6 lT (.lst (wT ++ [.int 7]))) := fun b o e => by rw [upd_ne (ne_of_none e hlT0)]; exact s6 _ _ e
      generalize upd H6 lT (.lst (wT ++ [.int 7])) = H7 at s7 ⊢
      have s47 := s5.trans s7
      refine ⟨_, rfl, _, rfl, h, t, _, _, rfl, rfl, (ph.same (s4.trans s47)).hasD, (pt.same (s24.trans s47)).hasD, alikeProb rs rs cs cs, fun b3 hb3 => ⟨_, rfl, ?_⟩⟩
      rw [hb3.mpr rfl]
      refine iteF ⟨_, rfl, u, _, _, _, _, _, _, _, rfl, pu.same s7, app_rows hok hrl, by omega, ?_, s1.trans (s24.trans s47)⟩
      have := of_decide_eq_true c1; omega
  · rintro σ H1 ⟨t, rs, cs, x2, x3, x4, x5, x6, rfl, pt, hrl, hrn, hcn, s1⟩
    exact q _
end
end Nb
namespace Nb
open PySem L2
theorem all_ok {P : Program} {w : World} {K : PySem.W.Frag} {mg : Str → Option Value} {base : Heap} (M : Mg mg) {aT aL : Addr} {fT fL : Str → Option Value} (J0 : JTab0 w K mg aT aL fT fL) {C D B1 B2 B3 : Addr} (ER : Errs K mg C D B1 B2 B3) (F1 : Fn K mg "is_whole" sIsWhole) (F2 : Fn K mg "is_number_of" sIsNum) (F3 : Fn K mg "is_pair" sIsPair) (F4 : Fn K mg "is_row" sIsRow) (F5 : Fn K mg "widened" sWidened) (F6 : Fn K mg "with_row" sWithRow) (F7 : Fn K mg "with_less" sWithLess) (F8 : Fn K mg "with_cost" sWithCost) (F9 : Fn K mg "with_choice" sWithChoice) (F10 : Fn K mg "changed" sChanged) (F11 : Fn K mg "_law_cell_at" sCell) (F12 : Fn K mg "_law_mix" sMixB) (F13 : Fn K mg "_law_left" sLeftB) (F14 : Fn K mg "_law_draw" sDraw) (F15 : Fn K mg "_law_problem" sProblem20) (F16 : Fn K mg "_law_copy" sCopy70) (F17 : Fn K mg "_law_change" sChange) (F18 : Fn K mg "_law_bent" sBent) (F19 : Fn K mg "_law_due" sDue70) (F20 : Fn K mg "_law_refused" sRefused70) {f : Addr} {fd : FuncData} (F21 : Fun K "law" "law" sLaw f fd) : FnOk P w K mg base CX0 7 f fd ["_law_script"] (spLawB K) := by
  have h_c_is_whole := okIsWhole (P := P) (w := w) (base := base) F1 M
  have h_c_is_number_of := okIsNum (P := P) (w := w) (base := base) F2 M h_c_is_whole
  have h_c_is_pair := okIsPair (P := P) (w := w) (base := base) F3 M
  have h_c_is_row := okIsRow (P := P) (w := w) (base := base) F4 M h_c_is_pair h_c_is_whole
  have h_c_widened := okWidened (P := P) (w := w) (base := base) F5 M
  have h_c_with_row := okWithRow (P := P) (w := w) (base := base) F6 M ER h_c_is_row
  have h_c_with_less := okWithLess (P := P) (w := w) (base := base) F7 M ER h_c_is_number_of
  have h_c_with_cost := okWithCost (P := P) (w := w) (base := base) F8 M ER h_c_is_number_of h_c_is_whole
  have h_c_with_choice := okWithChoice (P := P) (w := w) (base := base) F9 M ER h_c_is_whole h_c_widened
  have JT := jtabs_of (P := P) (base := base) J0 h_c_with_row h_c_with_less h_c_with_cost h_c_with_choice
  have h_c_changed := okChanged (P := P) (w := w) (base := base) F10 M JT ER
  have h_cl_cell_at := okCell (P := P) (w := w) (base := base) F11 M
  have h_cl_mix := okMixB (P := P) (w := w) (base := base) F12 M
  have h_cl_left := okLeftB (P := P) (w := w) (base := base) F13 M h_cl_cell_at
  have h_cl_draw := okDraw (P := P) (w := w) (base := base) F14 M h_cl_mix
  have h_cl_problem := okProblem20 (P := P) (w := w) (base := base) F15 M h_cl_cell_at h_cl_left h_cl_draw
  have h_cl_copy := okCopy70 (P := P) (w := w) (base := base) F16 M
  have h_cl_change := okChange (P := P) (w := w) (base := base) F17 M ER
  have h_cl_bent := okBent (P := P) (w := w) (base := base) F18 M
  have h_cl_due := okDue70 (P := P) (w := w) (base := base) F19 M
  have h_cl_refused := okRefused70 (P := P) (w := w) (base := base) F20 M ER h_c_changed
  have h_c_law := okLaw (P := P) (w := w) (base := base) F21 M h_cl_problem h_cl_change h_cl_copy h_cl_refused h_cl_bent h_cl_due (CalE.calm h_c_changed)
  exact h_c_law
theorem walk {l : PySem.W.OpenLaw} {q : Program} {loose : List Str} {XP : (Str → Option Value) → Heap → Prop} {YP : World → Heap → Prop} {d : DefRec} {K : Params → PySem.W.Frag} (hn : l.most = some 63) (hdf : d.params.defaults = [])
    (hY : ∀ (w : World) (h : Heap), YP w h → (K w.params).In h)
    (F : ∀ (w : World) (mg : Str → Option Value) (fa : Addr) (h : Heap), (K w.params).In h → h.Ns mainGlobals mg → mg d.name = some (.ref fa) →
      ∃ fd : FuncData, (∀ (s : Shared) (u : Value), BindsTo s fd ⟨[u], []⟩ [("_law_script", u)]) ∧ ∀ base : Heap, (K w.params).In base → base.Ns mainGlobals mg → FnOk l.prog w (K w.params) mg base CX0 7 fa fd ["_law_script"] (spLawB (K w.params))) :
    PySem.W.WalkO q loose XP YP l.row.toRowW d [] (fun f vs => PySem.call f vs) :=
  L2.walk_ofB (n := 63) (k := 7) (x := "_law_script") (CX := fun _ => CX0) (sp := fun w => spLawB (K w.params)) hn (by decide) hdf ⟨rfl, by decide, by decide⟩ hY F (fun _ _ a ns hl hb hS => ⟨a, ns, rfl, hS, hl, hb, fun _ => rfl⟩) fun _ _ _ _ _ z => z
end Nb
open PySem PySem.W PyProof.Rows
set_option maxRecDepth 100000 in
set_option maxHeartbeats 0 in
theorem PySem.Challenge.cw_nonebetter_k70_problems_changed_holds : PySem.Challenge.rw_nonebetter_k70_problems_changed.Holds := by
  w_on; refine PySem.W.holds_law (by kernel_rfl) fun said => ?_; k_head; (case hw => w_witness2)
  k_fill
  refine Nb.walk (l := PySem.Challenge.rw_nonebetter_k70_problems_changed) rfl rfl (fun w h Y => PySem.W.kIn_of Y) ?F
  case F =>
    intro w mg fa h KX G hmg
    have F1 : L2.Fn (L2.KOf KX) mg "is_whole" Nb.sIsWhole := by
      dsimp only [L2.KOf]
      refine' L2.fn_mk KX G ?a ?l ?c ?k
      (case a => k_is); (case l => k_is); (case c => k_is); (case k => k_is)
    have F2 : L2.Fn (L2.KOf KX) mg "is_number_of" Nb.sIsNum := by
      dsimp only [L2.KOf]
      refine' L2.fn_mk KX G ?a ?l ?c ?k
      (case a => k_is); (case l => k_is); (case c => k_is); (case k => k_is)
    have F3 : L2.Fn (L2.KOf KX) mg "is_pair" Nb.sIsPair := by
      dsimp only [L2.KOf]
      refine' L2.fn_mk KX G ?a ?l ?c ?k
      (case a => k_is); (case l => k_is); (case c => k_is); (case k => k_is)
    have F4 : L2.Fn (L2.KOf KX) mg "is_row" Nb.sIsRow := by
      dsimp only [L2.KOf]
      refine' L2.fn_mk KX G ?a ?l ?c ?k
      (case a => k_is); (case l => k_is); (case c => k_is); (case k => k_is)
    have F5 : L2.Fn (L2.KOf KX) mg "widened" Nb.sWidened := by
      dsimp only [L2.KOf]
      refine' L2.fn_mk KX G ?a ?l ?c ?k
      (case a => k_is); (case l => k_is); (case c => k_is); (case k => k_is)
    have F6 : L2.Fn (L2.KOf KX) mg "with_row" Nb.sWithRow := by
      dsimp only [L2.KOf]
      refine' L2.fn_mk KX G ?a ?l ?c ?k
      (case a => k_is); (case l => k_is); (case c => k_is); (case k => k_is)
    have F7 : L2.Fn (L2.KOf KX) mg "with_less" Nb.sWithLess := by
      dsimp only [L2.KOf]
      refine' L2.fn_mk KX G ?a ?l ?c ?k
      (case a => k_is); (case l => k_is); (case c => k_is); (case k => k_is)
    have F8 : L2.Fn (L2.KOf KX) mg "with_cost" Nb.sWithCost := by
      dsimp only [L2.KOf]
      refine' L2.fn_mk KX G ?a ?l ?c ?k
      (case a => k_is); (case l => k_is); (case c => k_is); (case k => k_is)
    have F9 : L2.Fn (L2.KOf KX) mg "with_choice" Nb.sWithChoice := by
      dsimp only [L2.KOf]
      refine' L2.fn_mk KX G ?a ?l ?c ?k
      (case a => k_is); (case l => k_is); (case c => k_is); (case k => k_is)
    have F10 : L2.Fn (L2.KOf KX) mg "changed" Nb.sChanged := by
      dsimp only [L2.KOf]
      refine' L2.fn_mk KX G ?a ?l ?c ?k
      (case a => k_is); (case l => k_is); (case c => k_is); (case k => k_is)
    have F11 : L2.Fn (L2.KOf KX) mg "_law_cell_at" Nb.sCell := by
      dsimp only [L2.KOf]
      refine' L2.fn_mk KX G ?a ?l ?c ?k
      (case a => k_is); (case l => k_is); (case c => k_is); (case k => k_is)
    have F12 : L2.Fn (L2.KOf KX) mg "_law_mix" Nb.sMixB := by
      dsimp only [L2.KOf]
      refine' L2.fn_mk KX G ?a ?l ?c ?k
      (case a => k_is); (case l => k_is); (case c => k_is); (case k => k_is)
    have F13 : L2.Fn (L2.KOf KX) mg "_law_left" Nb.sLeftB := by
      dsimp only [L2.KOf]
      refine' L2.fn_mk KX G ?a ?l ?c ?k
      (case a => k_is); (case l => k_is); (case c => k_is); (case k => k_is)
    have F14 : L2.Fn (L2.KOf KX) mg "_law_draw" Nb.sDraw := by
      dsimp only [L2.KOf]
      refine' L2.fn_mk KX G ?a ?l ?c ?k
      (case a => k_is); (case l => k_is); (case c => k_is); (case k => k_is)
    have F15 : L2.Fn (L2.KOf KX) mg "_law_problem" Nb.sProblem20 := by
      dsimp only [L2.KOf]
      refine' L2.fn_mk KX G ?a ?l ?c ?k
      (case a => k_is); (case l => k_is); (case c => k_is); (case k => k_is)
    have F16 : L2.Fn (L2.KOf KX) mg "_law_copy" Nb.sCopy70 := by
      dsimp only [L2.KOf]
      refine' L2.fn_mk KX G ?a ?l ?c ?k
      (case a => k_is); (case l => k_is); (case c => k_is); (case k => k_is)
    have F17 : L2.Fn (L2.KOf KX) mg "_law_change" Nb.sChange := by
      dsimp only [L2.KOf]
      refine' L2.fn_mk KX G ?a ?l ?c ?k
      (case a => k_is); (case l => k_is); (case c => k_is); (case k => k_is)
    have F18 : L2.Fn (L2.KOf KX) mg "_law_bent" Nb.sBent := by
      dsimp only [L2.KOf]
      refine' L2.fn_mk KX G ?a ?l ?c ?k
      (case a => k_is); (case l => k_is); (case c => k_is); (case k => k_is)
    have F19 : L2.Fn (L2.KOf KX) mg "_law_due" Nb.sDue70 := by
      dsimp only [L2.KOf]
      refine' L2.fn_mk KX G ?a ?l ?c ?k
      (case a => k_is); (case l => k_is); (case c => k_is); (case k => k_is)
    have F20 : L2.Fn (L2.KOf KX) mg "_law_refused" Nb.sRefused70 := by
      dsimp only [L2.KOf]
      refine' L2.fn_mk KX G ?a ?l ?c ?k
      (case a => k_is); (case l => k_is); (case c => k_is); (case k => k_is)
    have F21 : L2.Fn (L2.KOf KX) mg "law" Nb.sLaw := by
      dsimp only [L2.KOf]
      refine' L2.fn_mk KX G ?a ?l ?c ?k
      (case a => k_is); (case l => k_is); (case c => k_is); (case k => k_is)
    have M : Nb.Mg mg := by
      refine' ⟨PySem.W.mg_none_of KX G ?m_len, PySem.W.mg_none_of KX G ?m_min, PySem.W.mg_none_of KX G ?m_max, PySem.W.mg_none_of KX G ?m_sum, PySem.W.mg_none_of KX G ?m_all, PySem.W.mg_none_of KX G ?m_any, PySem.W.mg_none_of KX G ?m_abs, PySem.W.mg_none_of KX G ?m_isinstance, PySem.W.mg_none_of KX G ?m_sorted, PySem.W.mg_none_of KX G ?m_range_, PySem.W.mg_none_of KX G ?m_zip_, PySem.W.mg_none_of KX G ?m_tuple_, PySem.W.mg_none_of KX G ?m_list_, PySem.W.mg_none_of KX G ?m_int_, PySem.W.mg_none_of KX G ?m_bool_, PySem.W.mg_none_of KX G ?m_dict_, PySem.W.mg_none_of KX G ?m_enumerate_, PySem.W.mg_none_of KX G ?m_reversed_, PySem.W.mg_none_of KX G ?m_ValueError_, PySem.W.mg_none_of KX G ?m_set_, PySem.W.mg_none_of KX G ?m_str_⟩
      (case m_len => k_is)
      (case m_min => k_is)
      (case m_max => k_is)
      (case m_sum => k_is)
      (case m_all => k_is)
      (case m_any => k_is)
      (case m_abs => k_is)
      (case m_isinstance => k_is)
      (case m_sorted => k_is)
      (case m_range_ => k_is)
      (case m_zip_ => k_is)
      (case m_tuple_ => k_is)
      (case m_list_ => k_is)
      (case m_int_ => k_is)
      (case m_bool_ => k_is)
      (case m_dict_ => k_is)
      (case m_enumerate_ => k_is)
      (case m_reversed_ => k_is)
      (case m_ValueError_ => k_is)
      (case m_set_ => k_is)
      (case m_str_ => k_is)
    have ER : ∃ C D B1 B2 B3, Nb.Errs (L2.KOf KX) mg C D B1 B2 B3 := by
      dsimp only [L2.KOf]
      refine' ⟨_, _, _, _, _, ⟨PySem.W.mg_of KX G ?e1, ?e2⟩, PySem.W.mg_of KX G ?e3, L2.isA_of ?e4 ?e5 ?e6, ⟨?x1, ?x2, ?x3, ?x4, ?x5⟩, PySem.W.mg_of KX G ?e7, PySem.W.mg_of KX G ?e8, PySem.W.mg_of KX G ?e9, ?k1, ?k2, ?k3, rfl, PySem.W.mg_none_of KX G ?m_divmod⟩
      (case m_divmod => k_is); (case e1 => k_is); (case e3 => k_is); (case e7 => k_is); (case e8 => k_is); (case e9 => k_is); (case e2 => k_exc)
      (case e4 => k_is); (case e5 => k_is); (case e6 => k_is); (case x1 => k_is); (case x2 => k_is); (case x3 => k_is); (case x4 => k_is); (case x5 => k_is)
      (case k1 => kit_is); (case k2 => kit_is); (case k3 => kit_is)
    obtain ⟨C, D, B1, B2, B3, ER⟩ := ER
    have J0 : ∃ aT aL fT fL, Nb.JTab0 w (L2.KOf KX) mg aT aL fT fL := by
      dsimp only [L2.KOf]
      refine' ⟨_, _, _, _, Nb.jtab0 (PySem.W.mg_of KX G ?b1) ?l1 ?k1 ?o1 ?e1 (PySem.W.mg_of KX G ?b2) ?l2 ?k2 ?o2 ?e2 (PySem.W.mg_of KX G ?n1) (PySem.W.mg_of KX G ?n2) (PySem.W.mg_of KX G ?n3) (PySem.W.mg_of KX G ?n4)⟩
      (case b1 => k_is); (case l1 => k_is); (case k1 => k_keys); (case o1 => decide); (case e1 => exact rfl)
      (case b2 => k_is); (case l2 => k_is); (case k2 => k_keys); (case o2 => decide); (case e2 => exact rfl)
      (case n1 => k_is); (case n2 => k_is); (case n3 => k_is); (case n4 => k_is)
    obtain ⟨aT, aL, fT, fL, J0⟩ := J0
    obtain ⟨f, fd, FF, hm⟩ := F21
    have e0 := hmg.symm.trans hm
    cases e0
    refine' ⟨fd, ?b, fun base kb nb => Nb.all_ok M J0 ER F1 F2 F3 F4 F5 F6 F7 F8 F9 F10 F11 F12 F13 F14 F15 F16 F17 F18 F19 F20 FF⟩
    obtain ⟨oc, od, kV, doc, pm, an, cdv, ct, osl, rfl, lk, hcd⟩ := FF.ex
    exact fun s u => .of_eq rfl

