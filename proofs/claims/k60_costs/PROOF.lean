import PyProof.Rows.All
import Wide.All
import OpenK.AllK
import Wide.FinOn
import Lean
import PyProof.EqAt
import PyProof.EqKinds
import PyProof.TupleCall
import KE.KDictOf
import KE.KRevIter
import KE.KEqDict
import KE.KMinKey
import KE.KTryDeep
import KE.KIsAll
import KE.KSortTup
import OpenK.KTop
import PySem.Challenge.RW_nonebetter_k60_costs_of_plans
set_option Elab.async false
set_option linter.all false
set_option maxRecDepth 100000
set_option maxHeartbeats 4000000
set_option bootstrap.genMatcherCode false
set_option compiler.extract_closed false
namespace L2
theorem aRfl (h : True := by rfl) : True := h
theorem aDec (h : True := by decide) : True := h
theorem aFst (h : True := by first | exact .inl rfl | exact .inr rfl | assumption) : True := h
theorem aIrf (h : True := by intro _; rfl) : True := h
end L2
namespace L2
open PySem PySem.Spec PyProof.Rows
noncomputable abbrev Key := Sum Int Str
noncomputable def keyIs : Key → Value → Bool
  | .inl k, v => Value.isInt k v
  | .inr x, v => Value.isStrOf x v
noncomputable def keyH (w : World) : Key → Int
  | .inl k => hashInt k
  | .inr x => hashStr w x
theorem keyIs_shape : ∀ {k : Key} {v : Value}, keyIs k v = true → (∃ i t, k = Sum.inl i ∧ v = Value.int i t) ∨ (∃ x t, k = Sum.inr x ∧ v = Value.str x t)
  | .inl i, v, h => by
    obtain ⟨t, e⟩ := Value.isInt_shape (k := i) (v := v) h
    exact .inl ⟨i, t, rfl, e⟩
  | .inr x, v, h => by
    obtain ⟨t, e⟩ := Value.isStrOf_shape (x := x) (v := v) h
    exact .inr ⟨x, t, rfl, e⟩
theorem keyIs_int (i : Int) (t : Tok) : keyIs (.inl i) (.int i t) = true := by simp [keyIs, Value.isInt]
theorem keyIs_str (x : Str) (t : Tok) : keyIs (.inr x) (.str x t) = true := by simp [keyIs, Value.isStrOf]
theorem key_ll (a b : Int) : decide ((Sum.inl a : Key) = Sum.inl b) = (a == b) := by
  by_cases e : a = b
  · subst e; simp
  · have h : ¬ (Sum.inl a : Key) = Sum.inl b := fun q => e (Sum.inl.inj q)
    rw [decide_eq_false h]
    exact (beq_eq_false_iff_ne.mpr e).symm
theorem key_rr (a b : Str) : decide ((Sum.inr a : Key) = Sum.inr b) = decide (a = b) := by
  by_cases e : a = b
  · subst e; simp
  · have h : ¬ (Sum.inr a : Key) = Sum.inr b := fun q => e (Sum.inr.inj q)
    rw [decide_eq_false h, decide_eq_false e]
theorem key_lr (a : Int) (b : Str) : decide ((Sum.inl a : Key) = Sum.inr b) = false := decide_eq_false (fun q => nomatch q)
theorem key_rl (a : Str) (b : Int) : decide ((Sum.inr a : Key) = Sum.inl b) = false := decide_eq_false (fun q => nomatch q)
noncomputable def mixKind (prog : Program) (w : World) : PySem.KeyKind prog w Key where
  is := keyIs
  hash := keyH w
  inj := fun v a b ha hb => by
    rcases keyIs_shape ha with ⟨i, t, rfl, rfl⟩ | ⟨x, t, rfl, rfl⟩
    · rcases keyIs_shape hb with ⟨j, u, rfl, e⟩ | ⟨y, u, rfl, e⟩
      · injection e with e1 _; rw [e1]
      · exact nomatch e
    · rcases keyIs_shape hb with ⟨j, u, rfl, e⟩ | ⟨y, u, rfl, e⟩
      · exact nomatch e
      · injection e with e1 _; rw [e1]
  byValue := fun k v h => by
    rcases keyIs_shape h with ⟨i, t, rfl, rfl⟩ | ⟨x, t, rfl, rfl⟩ <;> rfl
  pyHash := fun hv h => by
    rcases keyIs_shape hv with ⟨i, t, rfl, rfl⟩ | ⟨x, t, rfl, rfl⟩
    · exact wpAny_pyHash_int h
    · exact wpAny_pyHash_str h
  eqBool := fun hu hv h => by
    rcases keyIs_shape hu with ⟨i, t, rfl, rfl⟩ | ⟨x, t, rfl, rfl⟩
    · rcases keyIs_shape hv with ⟨j, u, rfl, rfl⟩ | ⟨y, u, rfl, rfl⟩
      · rw [key_ll] at h; exact wpAny_eqBool_int h
      · rw [key_lr] at h; exact SeqAt.EqAt.int_str i t y u _ _ _ _ h
    · rcases keyIs_shape hv with ⟨j, u, rfl, rfl⟩ | ⟨y, u, rfl, rfl⟩
      · rw [key_rl] at h; exact SeqAt.EqAt.str_int x t j u _ _ _ _ h
      · rw [key_rr] at h; exact wpAny_eqBool_str h
  «strs» := fun k x t v h => by
    rcases keyIs_shape h with ⟨i, u, rfl, e⟩ | ⟨y, u, rfl, e⟩
    · exact nomatch e
    · injection e with e1 _
      subst e1
      cases v <;> rfl
theorem mixKind_int (prog : Program) (w : World) (i : Int) (t : Tok) : (mixKind prog w).is (.inl i) (.int i t) = true := keyIs_int i t
theorem mixKind_str (prog : Program) (w : World) (x : Str) (t : Tok) : (mixKind prog w).is (.inr x) (.str x t) = true := keyIs_str x t
end L2
namespace L2
open PySem PySem.Spec PyProof.Rows
inductive V where
  | non | bl (b : Bool) | int (i : Int) | str (x : Str) | byt (b : Array UInt8) | flt (b : UInt64) | ref (a : Addr) | ty (n : String)
  deriving DecidableEq
noncomputable def RelV : V → Value → Prop
  | .non, u => u = Value.none
  | .bl b, u => u = Value.bool b
  | .int i, u => ∃ t, u = Value.int i t
  | .str x, u => ∃ t, u = Value.str x t
  | .byt b, u => ∃ t, u = Value.bytes b t
  | .flt b, u => ∃ t, u = Value.float b t
  | .ref a, u => u = Value.ref a
  | .ty n, u => u = Value.type n
noncomputable abbrev Vals : List V → List Value → Prop := Paired RelV
theorem Vals.length {xs : List V} {us : List Value} (r : Vals xs us) : xs.length = us.length := Paired.length r
theorem Vals.get : ∀ {xs : List V} {us : List Value} {i : Nat} {x : V}, Vals xs us → xs[i]? = some x → ∃ u, us[i]? = some u ∧ RelV x u
  | _, _, _, _, .nil, e => by simp at e
  | _, _, 0, _, .cons r _, e => by simp at e; subst e; exact ⟨_, rfl, r⟩
  | _, _, i + 1, x, .cons _ t, e => by
    obtain ⟨u, h1, h2⟩ := Vals.get (i := i) (x := x) t (by simpa using e)
    exact ⟨u, by simpa using h1, h2⟩
theorem Vals.append {xs ys : List V} {us ws : List Value} (h : Vals xs us) (g : Vals ys ws) : Vals (xs ++ ys) (us ++ ws) := by
  induction h with
  | nil => exact g
  | cons r t ih => exact .cons r ih
theorem Vals.take : ∀ {xs : List V} {us : List Value} (n : Nat), Vals xs us → Vals (xs.take n) (us.take n)
  | _, _, 0, _ => .nil
  | _, _, _ + 1, .nil => .nil
  | _, _, n + 1, .cons r t => .cons r (Vals.take n t)
theorem Vals.drop : ∀ {xs : List V} {us : List Value} (n : Nat), Vals xs us → Vals (xs.drop n) (us.drop n)
  | _, _, 0, r => r
  | _, _, _ + 1, .nil => .nil
  | _, _, n + 1, .cons _ t => Vals.drop n t
noncomputable def RelO : Option V → Option Value → Prop
  | some v, some u => RelV v u
  | none, none => True
  | _, _ => False
noncomputable def KV {κ : Type} : List (κ × V) → List (κ × Value) → Prop := Paired fun (p : κ × V) (q : κ × Value) => p.1 = q.1 ∧ RelV p.2 q.2
noncomputable def kV : Key → V
  | .inl i => .int i
  | .inr x => .str x
inductive HO where
  /-- a list -/
  | lst (xs : List V)
  /-- a tuple (never changes) -/
  | tup (xs : List V)
  /-- a dict whose keys are ints and texts; one whose keys are tuples of ints and texts (the empty one is both) -/
  | dK (kvs : List (Key × V)) | dT (kvs : List (List Key × V))
  /-- a set of ints: its members, its size -/
  | set (S : Int → Bool) (n : Nat)
  /-- an instance of the class at C, its dict at dx, its attributes -/
  | ins (C dx : Addr) (fs : List (Str × V))
  /-- the dict of the instance at x -/
  | own (x : Addr)
  /-- the dict of an exception -/
  | xd (fs : List (Str × V))
  /-- a bound method, f of x -/
  | met (f x : Addr)
  /-- a range object lo, lo + 1, .. below hi -/
  | rng (lo hi : Int)
  /-- a thing that is known to the object (the script; a dict while a loop walks it): read, never written while it is so -/
  | frz (o : Obj) (u : HO)
  /-- a code object's table -/
  | tbl (ps : Array Value)
  /-- any other thing, by what is true of its one object (a def of one's own: SetO a S n := HO.ext fun h => ..) -/
  | ext (φ : Heap → Prop)
noncomputable abbrev Hp := Addr → Option HO
noncomputable def upd (H : Hp) (a : Addr) (o : HO) : Hp := fun b => if b = a then some o else H b
theorem upd_same {H : Hp} {a : Addr} {o : HO} : upd H a o a = some o := by unfold upd; rw [if_pos rfl]
theorem upd_ne {H : Hp} {a b : Addr} {o : HO} (h : b ≠ a) : upd H a o b = H b := by unfold upd; rw [if_neg h]
theorem upd_upd {H : Hp} {a : Addr} {o u : HO} : upd (upd H a o) a u = upd H a u := by
  funext b; unfold upd; split <;> rfl
theorem ne_of {H : Hp} {a b : Addr} {o u : HO} (h : H a = some o) (h' : H b = some u) (d : o ≠ u) : a ≠ b := by
  intro e; subst e; rw [h] at h'; exact d (Option.some.inj h')
theorem ne_of_none {H : Hp} {a b : Addr} {o : HO} (h : H a = some o) (h' : H b = none) : a ≠ b := by
  intro e; subst e; rw [h] at h'; cases h'
section
variable (P : Program) (w : World)
noncomputable def ObjOk (H : Hp) (h : Heap) (a : Addr) : HO → Prop
  | .lst xs => xs.length ≤ sizeLine ∧ ∃ (its : List Value) (n : Nat), Vals xs its ∧ h.get? a = some { cls := .type "list", data := .seq its.toArray n }
  | .tup xs => xs.length ≤ sizeLine ∧ ∃ its : List Value, Vals xs its ∧ IsTup h a its.toArray
  | .dK kvs => kvs.length ≤ sizeLine ∧ (a == sysModules) = false ∧ ∃ vs, KV kvs vs ∧ h.DictOf (mixKind P w) a vs
  | .dT kvs => kvs.length ≤ sizeLine ∧ (a == sysModules) = false ∧ ∃ xs : List (List Key × Addr × Value),
      Paired (fun (p : List Key × V) (q : List Key × Addr × Value) => p.1 = q.1 ∧ H q.2.1 = some (.tup (p.1.map kV)) ∧ RelV p.2 q.2.2) kvs xs ∧
      ∃ o es ep, h.get? a = some o ∧ o.ExactDict ∧ o.data = .dict es ep ∧ es.toList = xs.map (entryOfKey (tupleKind (mixKind P w))) ∧ (xs.map (·.1)).Nodup
  | .set S n => h.SetOf (intKind P w) a S n
  | .ins C dx fs => H dx = some (.own a) ∧ fs.length ≤ 1000 ∧ dx ≠ a ∧ h.get? a = some (PySem.W.instObj C dx) ∧
      ∃ mA, h.Ns1 dx mA ∧ (∀ f, RelO (fs.lookup f) (mA f)) ∧ PySem.Within mA (fs.map (·.1))
  | .own _ => ∃ o, h.get? a = some o
  | .xd fs => ∃ mA, h.Ns1 a mA ∧ ∀ f, RelO (fs.lookup f) (mA f)
  | .rng lo hi => ∃ t u v, h.get? a = some { cls := .type "range", data := .fields #[.int lo t, .int hi u, .int 1 v] }
  | .frz o u => h.get? a = some o ∧ ObjOk H h a u
  | .tbl ps => h.get? a = some { cls := .none, data := .fields ps }
  | .met f x => h.get? a = some (PySem.W.methodObj (.ref f) (.ref x))
  | .ext φ => φ h ∧ (∃ o, h.get? a = some o) ∧ ∀ h1 h2 : Heap, φ h1 → (∀ o, h1.get? a = some o → h2.get? a = some o) → φ h2
noncomputable def HOk (H : Hp) (h : Heap) : Prop := ∀ a o, H a = some o → ObjOk P w H h a o
end
section
variable {P : Program} {w : World} {H H' : Hp} {h h' : Heap} {a : Addr} {o : HO}
theorem ObjOk.lt (x : ObjOk P w H h a o) : a < h.objs.size := by
  cases o with
  | lst xs => obtain ⟨_, _, _, _, e⟩ := x; exact Heap.lt_size e
  | tup xs => obtain ⟨_, _, _, p⟩ := x; exact p.lt
  | dK kvs => obtain ⟨_, _, _, _, o, _, _, e, _⟩ := x; exact Heap.lt_size e
  | dT kvs => obtain ⟨_, _, _, _, o, _, _, e, _⟩ := x; exact Heap.lt_size e
  | set S n => obtain ⟨o, _, _, _, e, _⟩ := x; exact Heap.lt_size e
  | ins C dx fs => obtain ⟨_, _, _, e, _⟩ := x; exact Heap.lt_size e
  | own y => obtain ⟨_, e⟩ := x; exact Heap.lt_size e
  | xd fs => obtain ⟨_, ⟨_, _, _, e, _⟩, _⟩ := x; exact Heap.lt_size e
  | rng lo hi => obtain ⟨_, _, _, e⟩ := x; exact Heap.lt_size e
  | frz ob u => obtain ⟨e, _⟩ := x; exact Heap.lt_size e
  | tbl ps => exact Heap.lt_size (show h.get? a = some _ from x)
  | met f y => exact Heap.lt_size (show h.get? a = some _ from x)
  | ext φ => obtain ⟨_, ⟨_, e⟩, _⟩ := x; exact Heap.lt_size e
theorem Paired.mapP {α β : Type} {F G : α → β → Prop} {l₁ : List α} {l₂ : List β} (h : Paired F l₁ l₂) (f : ∀ a b, F a b → G a b) : Paired G l₁ l₂ := by
  induction h with
  | nil => exact .nil
  | cons r t ih => exact .cons (f _ _ r) ih
theorem ObjOk.stay (x : ObjOk P w H h a o) (k : ∀ b u, (b = a ∨ H b = some (.own a)) → h.get? b = some u → h'.get? b = some u)
    (ho : ∀ b, H b = some (.own a) → H' b = some (.own a)) (ht : ∀ b xs, H b = some (.tup xs) → H' b = some (.tup xs)) : ObjOk P w H' h' a o := by
  induction o with
  | lst xs => obtain ⟨z, its, n, r, e⟩ := x; exact ⟨z, its, n, r, k _ _ (.inl rfl) e⟩
  | tup xs => obtain ⟨z, its, r, ob, e, c⟩ := x; exact ⟨z, its, r, ob, k _ _ (.inl rfl) e, c⟩
  | dK kvs => obtain ⟨z, y, vs, r, ob, es, ep, e, c⟩ := x; exact ⟨z, y, vs, r, ob, es, ep, k _ _ (.inl rfl) e, c⟩
  | dT kvs =>
    obtain ⟨z, y, xs, r, ob, es, ep, e, c⟩ := x
    exact ⟨z, y, xs, Paired.mapP r fun p q z => ⟨z.1, ht _ _ z.2.1, z.2.2⟩, ob, es, ep, k _ _ (.inl rfl) e, c⟩
  | set S n => obtain ⟨ob, es, ep, t, e, c⟩ := x; exact ⟨ob, es, ep, t, k _ _ (.inl rfl) e, c⟩
  | ins C dx fs =>
    obtain ⟨d, z, ne, e, mA, ⟨od, es, ep, e2, c⟩, r⟩ := x
    exact ⟨ho _ d, z, ne, k _ _ (.inl rfl) e, mA, ⟨od, es, ep, k _ _ (.inr d) e2, c⟩, r⟩
  | own y => obtain ⟨ob, e⟩ := x; exact ⟨ob, k _ _ (.inl rfl) e⟩
  | xd fs => obtain ⟨mA, ⟨od, es, ep, e, c⟩, r⟩ := x; exact ⟨mA, ⟨od, es, ep, k _ _ (.inl rfl) e, c⟩, r⟩
  | rng lo hi => obtain ⟨t, u, v, e⟩ := x; exact ⟨t, u, v, k _ _ (.inl rfl) e⟩
  | frz ob u ih => obtain ⟨e, q⟩ := x; exact ⟨k _ _ (.inl rfl) e, ih q⟩
  | tbl ps =>
    have e : h.get? a = some { cls := .none, data := .fields ps } := x
    show h'.get? a = some { cls := .none, data := .fields ps }
    exact k a _ (.inl rfl) e
  | met f y =>
    have e : h.get? a = some (PySem.W.methodObj (.ref f) (.ref y)) := x
    show h'.get? a = some (PySem.W.methodObj (.ref f) (.ref y))
    exact k a _ (.inl rfl) e
  | ext φ => obtain ⟨p, ⟨o, e⟩, st⟩ := x; exact ⟨st _ _ p fun o q => k _ _ (.inl rfl) q, ⟨o, k _ _ (.inl rfl) e⟩, st⟩
theorem HOk.lt (x : HOk P w H h) (e : H a = some o) : a < h.objs.size := (x a o e).lt
theorem HOk.fresh (x : HOk P w H h) (e : h.objs.size ≤ a) : H a = none := by
  cases q : H a with
  | none => rfl
  | some u => exact absurd (Nat.lt_of_lt_of_le (x.lt q) e) (Nat.lt_irrefl _)
theorem HOk.kept (x : HOk P w H h) (k : ∀ b u, h.get? b = some u → h'.get? b = some u) : HOk P w H h' := fun a o e =>
  (x a o e).stay (fun b u _ q => k b u q) (fun _ q => q) fun _ _ q => q
theorem HOk.laid (x : HOk P w H h) (k : ∀ b u, h.get? b = some u → h'.get? b = some u) (hp : h.objs.size ≤ a) (new : ObjOk P w (upd H a o) h' a o) : HOk P w (upd H a o) h' := fun b u e => by
  have hn := x.fresh hp
  by_cases hb : b = a
  · subst hb; rw [upd_same] at e; cases e; exact new
  · rw [upd_ne hb] at e
    exact (x b u e).stay (fun c v _ q => k c v q) (fun c q => by rw [upd_ne (ne_of_none q hn)]; exact q) fun c xs q => by rw [upd_ne (ne_of_none q hn)]; exact q
end
noncomputable def Rd (H : Hp) (a : Addr) (u : HO) : Prop := H a = some u ∨ ∃ o, H a = some (.frz o u)
theorem Rd.ok {P : Program} {w : World} {H : Hp} {h : Heap} {a : Addr} {u : HO} (r : Rd H a u) (x : HOk P w H h) : ObjOk P w H h a u := by
  rcases r with r | ⟨o, r⟩
  · exact x a u r
  · obtain ⟨_, q⟩ := x a _ r
    exact q
noncomputable def Mut : Option HO → Prop
  | some (.lst _) => True
  | some (.dK _) => True
  | some (.dT _) => True
  | some (.set _ _) => True
  | some (.ins _ _ _) => True
  | some (.ext _) => True
  | _ => False
section
variable {P : Program} {w : World} {H : Hp} {h h' : Heap} {x e : Addr} {o' : HO}
theorem HOk.write (ok : HOk P w H h) (mu : Mut (H x)) (he : e = x ∨ H e = some (.own x)) (k : ∀ b u, b ≠ e → h.get? b = some u → h'.get? b = some u) (heo : ∃ u, h'.get? e = some u)
    (new : ObjOk P w (upd H x o') h' x o') : HOk P w (upd H x o') h' := fun b u q => by
  have nown : ∀ c y, H c = some (.own y) → c ≠ x := fun c y r z => by subst z; rw [r] at mu; exact mu
  have ntup : ∀ c xs, H c = some (.tup xs) → c ≠ x := fun c xs r z => by subst z; rw [r] at mu; exact mu
  by_cases hb : b = x
  · subst hb; rw [upd_same] at q; cases q; exact new
  · rw [upd_ne hb] at q
    by_cases hbe : b = e
    · have q' : H b = some (.own x) := by
        rcases he with z | z
        · exact absurd (hbe.trans z) hb
        · rw [hbe]; exact z
      rw [q] at q'; cases q'
      obtain ⟨v, hv⟩ := heo
      exact ⟨v, by rw [hbe]; exact hv⟩
    · refine (ok b u q).stay (fun c v hc r => k c v ?_ r) (fun c r => by rw [upd_ne (nown c b r)]; exact r) fun c xs r => by rw [upd_ne (ntup c xs r)]; exact r
      rcases hc with rfl | hc
      · exact hbe
      · rintro rfl
        rcases he with z | z
        · exact nown c b hc z
        · rw [hc] at z; cases z; exact hb rfl
end
structure Un (fs ex : List Addr) (H H' : Hp) (h h' : Heap) : Prop where
  keep : ∀ b o, h.get? b = some o → H b = none → b ∉ fs → b ∉ ex → h'.get? b = some o
  slot : ∀ b o, h.get? b = some o → H b = none → b ∈ fs → b ∉ ex → ∃ sl, h'.get? b = some { o with slots := sl }
  free : ∀ b o, h.get? b = some o → H b = none → b ∉ ex → H' b = none
  there : ∀ b o, h.get? b = some o → b ∉ ex → ∃ o', h'.get? b = some o'
  tups : ∀ b xs, H b = some (.tup xs) → H' b = some (.tup xs)
  frzs : ∀ b o u, H b = some (.frz o u) → H' b = some (.frz o u)
  tbls : ∀ b ps, H b = some (.tbl ps) → ∃ more, H' b = some (.tbl (ps ++ more))
section
variable {fs fs' ex ex' : List Addr} {H H1 H2 : Hp} {h h1 h2 h' : Heap} {a x e : Addr} {o : HO}
theorem Un.any (u : Un fs ex H H1 h h1) {b : Addr} {ob : Obj} (q : h.get? b = some ob) (n : H b = none) (hx : b ∉ ex) : ∃ sl, h1.get? b = some { ob with slots := sl } := by
  by_cases hb : b ∈ fs
  · exact u.slot b ob q n hb hx
  · exact ⟨ob.slots, u.keep b ob q n hb hx⟩
theorem Un.kept (k : ∀ b u, h.get? b = some u → h'.get? b = some u) : Un fs ex H H h h' :=
  ⟨fun b ob q _ _ _ => k b ob q, fun b ob q _ _ _ => ⟨ob.slots, k b ob q⟩, fun _ _ _ n _ => n, fun b ob q _ => ⟨ob, k b ob q⟩, fun _ _ q => q, fun _ _ _ q => q, fun _ ps q => ⟨#[], by rw [q]; simp⟩⟩
theorem Un.refl : Un fs ex H H h h := Un.kept fun _ _ q => q
theorem Un.laid (k : ∀ b u, h.get? b = some u → h'.get? b = some u) (hp : h.objs.size ≤ a) (hn : H a = none) : Un fs ex H (upd H a o) h h' where
  keep := fun b u q _ _ _ => k b u q
  slot := fun b u q _ _ _ => ⟨u.slots, k b u q⟩
  free := fun b u q n _ => by rw [upd_ne (Nat.ne_of_lt (Nat.lt_of_lt_of_le (Heap.lt_size q) hp))]; exact n
  there := fun b u q _ => ⟨u, k b u q⟩
  tups := fun b xs q => by rw [upd_ne (ne_of_none q hn)]; exact q
  frzs := fun b u xs q => by rw [upd_ne (ne_of_none q hn)]; exact q
  tbls := fun b ps q => ⟨#[], by rw [upd_ne (ne_of_none q hn), q]; simp⟩
theorem Un.write (mu : Mut (H x)) (he : e = x ∨ H e = some (.own x)) (k : ∀ b u, b ≠ e → h.get? b = some u → h'.get? b = some u) (heo : ∃ u, h'.get? e = some u) : Un fs ex H (upd H x o) h h' := by
  have hx : ∀ b, H b = none → b ≠ x := fun b n z => by subst z; rw [n] at mu; exact mu
  have hb : ∀ b, H b = none → b ≠ e := fun b n z => by
    subst z
    rcases he with r | r
    · exact hx b n r
    · rw [n] at r; cases r
  have hm : ∀ b u, H b = some u → ¬ Mut (some u) → b ≠ x := fun b u q nm z => by subst z; rw [q] at mu; exact nm mu
  refine ⟨fun b u q n _ _ => k b u (hb b n) q, fun b u q n _ _ => ⟨u.slots, k b u (hb b n) q⟩, fun b u q n _ => by rw [upd_ne (hx b n)]; exact n, fun b u q _ => ?_,
    fun b xs q => by rw [upd_ne (hm b _ q fun z => z)]; exact q, fun b u xs q => by rw [upd_ne (hm b _ q fun z => z)]; exact q, fun b ps q => ⟨#[], by rw [upd_ne (hm b _ q fun z => z), q]; simp⟩⟩
  by_cases hbe : b = e
  · subst hbe; exact heo
  · exact ⟨u, k b u hbe q⟩
end
noncomputable def trk (h : Heap) (H : Hp) : List Addr := (List.range h.objs.size).filter fun a => (H a).isSome
noncomputable def hidT (h : Heap) (H : Hp) : Heap := PySem.W.hideAll h (trk h H)
theorem hidT_size (h : Heap) (H : Hp) : (hidT h H).objs.size = h.objs.size := PySem.W.hideAll_size _ _
theorem hidT_get {h : Heap} {H : Hp} {b : Addr} {o : Obj} (e : h.get? b = some o) (n : H b = none) : (hidT h H).get? b = some o :=
  PySem.W.hideAll_get _ e fun hm => by
    have q : (H b).isSome = true := (List.mem_filter.mp hm).2
    rw [n] at q; simp at q
theorem of_hidT {h : Heap} {H : Hp} {b : Addr} {o : Obj} (e : (hidT h H).get? b = some o) : h.get? b = some o ∧ H b = none := by
  have e' : h.get? b = some o := PySem.W.of_hideAll (trk h H) e
  refine ⟨e', ?_⟩
  cases q : H b with
  | none => rfl
  | some x =>
    have hm : b ∈ trk h H := List.mem_filter.mpr ⟨List.mem_range.mpr (Heap.lt_size e'), by simp [q]⟩
    have z : (hidT h H).get? b = none := PySem.W.hideAll_none (trk h H) hm
    rw [z] at e; cases e
end L2
namespace L2
open PySem PySem.Spec PyProof.Rows
structure Mod (K : PySem.W.Frag) (mg : Str → Option Value) (base : Heap) : Prop where
  kin : K.In base
  glob : base.Ns mainGlobals mg
  blt : ∃ mb, base.Ns builtinsNs mb ∧ ∀ x : Str, x ≠ "__name__" → mb x = bootBuiltins x
  nolimit : base.NoLimit
structure Cx where
  prog : Program
  w : World
  K : PySem.W.Frag
  mg : Str → Option Value
  base : Heap
  A : Around
  N : List Str
  s₀ : Shared
  H₀ : Hp
  env : Env
  outer : List Env
  stack : List Env
  ex : List Addr
  fn : Str → Bool
  calm : Bool
  pn : List (Addr × Obj)
  xe : Value → Shared → Prop
noncomputable def frs (l : List Env) : List Addr := l.filterMap (·.frame)
noncomputable abbrev Cx.fs (X : Cx) : List Addr := frs X.outer
noncomputable def Vis (sc : Scope) (x : Str) : Prop := sc.names.lookup x = some .local ∨ sc.names.lookup x = some .cell ∨ sc.names.lookup x = some .free
noncomputable def Loc (sc : Scope) (x : Str) : Prop := sc.names.lookup x = some .local ∨ sc.names.lookup x = some .cell
noncomputable def Look (env : Env) (h : Heap) (m : Str → Option Value) (x : Str) (u : Value) : Prop :=
  (env.kindOf x = some .local ∧ m x = some u) ∨ ((env.kindOf x = some .cell ∨ env.kindOf x = some .free) ∧ ∃ c, env.cells.lookup x = some c ∧ h.IsCell c (some u))
structure Cx.Ok (X : Cx) : Prop where
  mod : Mod X.K X.mg X.base
  kind : X.env.scope.kind = .function
  glob : X.env.globals = mainGlobals
  blt : X.env.builtins = builtinsNs
  above : X.s₀.heap.objs.size ≤ X.env.locals
  inj : ∀ x y c, X.env.cells.lookup x = some c → X.env.cells.lookup y = some c → x = y
  has : ∀ x, (X.env.kindOf x = some .cell ∨ X.env.kindOf x = some .free) → ∃ c, X.env.cells.lookup x = some c
  cab : ∀ x c, X.fn x = true → X.env.cells.lookup x = some c → X.s₀.heap.objs.size ≤ c
  hd : X.calm = true → X.A.handled = none
  frames : X.A.frames = some X.stack
  stk : X.stack = X.outer ∨ (X.stack = X.env :: X.outer ∧ X.env.frame = some X.env.locals)
  exf : ∀ b ∈ X.ex, b ≠ X.env.locals ∧ ∀ x c, X.env.cells.lookup x = some c → c ≠ b
  bs : ∀ b o, X.base.get? b = some o → X.s₀.heap.get? b = some o ∧ X.H₀ b = none
  bsz : X.base.objs.size ≤ X.s₀.heap.objs.size
  noex : ∀ b o, X.base.get? b = some o → b ∉ X.ex
  exfs : ∀ b ∈ X.ex, b ∉ X.fs
  funs : X.s₀.heap.FunFrames X.base X.outer
  frf : ∀ b ∈ X.fs, X.H₀ b = none
structure Inv (X : Cx) (pins : List (Addr × Obj)) (σ : List (Option V)) (H : Hp) (s : Shared) : Prop where
  ok : X.Ok
  os : s.os = X.s₀.os
  bare : AllBare s.gens
  base : Un X.fs X.ex X.H₀ H X.s₀.heap s.heap
  loc : ∃ m, s.heap.Ns X.env.locals m ∧ ∀ (i : Nat) (x : Str) (v : V), X.N[i]? = some x → σ[i]? = some (some v) → Vis X.env.scope x → ∃ u, RelV v u ∧ Look X.env s.heap m x u
  cell : ∀ x c, X.env.cells.lookup x = some c → ∃ v, s.heap.IsCell c v
  free : H X.env.locals = none
  freeC : ∀ x c, X.env.cells.lookup x = some c → H c = none
  pin : ∀ p ∈ X.pn ++ pins, s.heap.get? p.1 = some p.2 ∧ H p.1 = none ∧ p.1 ≠ X.env.locals ∧ p.1 ∉ X.fs ∧ ∀ v, p.2.data ≠ .cell v
  hok : HOk X.prog X.w H s.heap
  len : σ.length = X.N.length
section
variable {X : Cx} {pins : List (Addr × Obj)} {σ : List (Option V)} {H H' : Hp} {s : Shared} {h' : Heap}
theorem Cx.Ok.nofr (ok : X.Ok) {b : Addr} {o : Obj} (e : X.base.get? b = some o) : b ∉ X.fs := fun hb => by
  have := (ok.funs.mem hb).1
  rw [e] at this; cases this
theorem Inv.bs (I : Inv X pins σ H s) : ∀ b o, X.base.get? b = some o → s.heap.get? b = some o ∧ H b = none := fun b o e =>
  ⟨I.base.keep b o (I.ok.bs b o e).1 (I.ok.bs b o e).2 (I.ok.nofr e) (I.ok.noex b o e), I.base.free b o (I.ok.bs b o e).1 (I.ok.bs b o e).2 (I.ok.noex b o e)⟩
theorem Inv.bk (I : Inv X pins σ H s) : ∀ b o, X.base.get? b = some o → s.heap.get? b = some o := fun b o e => (I.bs b o e).1
theorem Inv.mod (I : Inv X pins σ H s) : Mod X.K X.mg X.base := I.ok.mod
theorem Inv.kIn (I : Inv X pins σ H s) : X.K.In s.heap := I.ok.mod.kin.keeps I.bk
theorem Inv.lt (I : Inv X pins σ H s) : X.env.locals < s.heap.objs.size := let ⟨_, hn, _⟩ := I.loc; hn.lt
theorem Inv.sz (I : Inv X pins σ H s) : X.s₀.heap.objs.size ≤ s.heap.objs.size := Nat.le_trans I.ok.above (Nat.le_of_lt I.lt)
theorem Inv.nofs (I : Inv X pins σ H s) {a : Addr} (h : s.heap.objs.size ≤ a) : a ∉ X.fs := fun hb => by
  obtain ⟨_, o, ho, _⟩ := I.ok.funs.mem hb
  exact absurd (Nat.lt_of_lt_of_le (Heap.lt_size ho) (Nat.le_trans I.sz h)) (Nat.lt_irrefl _)
theorem Inv.cne (I : Inv X pins σ H s) : ∀ x c, X.env.cells.lookup x = some c → c ≠ X.env.locals := fun x c e z => by
  obtain ⟨v, o, ho, hd⟩ := I.cell x c e
  obtain ⟨m, ⟨o', es, ep, ho', hd', _⟩, _⟩ := I.loc
  rw [z, ho'] at ho; cases ho; rw [hd'] at hd; cases hd
theorem Inv.funs (I : Inv X pins σ H s) : s.heap.FunFrames X.base X.outer := by
  have all : ∀ (l : List Env), (∀ b ∈ frs l, b ∈ X.fs) → X.s₀.heap.FunFrames X.base l → s.heap.FunFrames X.base l := by
    intro l
    induction l with
    | nil => intro _ _; trivial
    | cons env r ih =>
      intro hs hl
      obtain ⟨hk, ⟨L, o, hf, hn, ho, hd⟩, hr⟩ := hl
      have hL : L ∈ X.fs := hs L (by unfold frs; rw [List.filterMap_cons, hf]; exact List.mem_cons_self)
      obtain ⟨sl, e⟩ := I.base.slot L o ho (I.ok.frf L hL) hL fun z => I.ok.exfs L z hL
      exact ⟨hk, ⟨L, _, hf, hn, e, hd⟩, ih (fun b hb => hs b (by unfold frs; rw [List.filterMap_cons, hf]; exact List.mem_cons_of_mem _ hb)) hr⟩
  exact all X.outer (fun _ hb => hb) I.ok.funs
theorem Inv.stack (I : Inv X pins σ H s) : s.heap.FunFrames X.base X.stack := by
  rcases I.ok.stk with e | ⟨e, hf⟩
  · rw [e]; exact I.funs
  · rw [e]
    obtain ⟨m, hn, _⟩ := I.loc
    refine .cons (by rw [I.ok.kind]; decide) hf hn ?_ I.funs
    exact Heap.get?_none_of_le (Nat.le_trans I.ok.bsz I.ok.above)
theorem Inv.stkSub (I : Inv X pins σ H s) : ∀ b ∈ frs X.stack, b ∈ X.env.locals :: X.fs := fun b hb => by
  rcases I.ok.stk with e | ⟨e, hf⟩
  · rw [e] at hb; exact List.mem_cons_of_mem _ hb
  · rw [e] at hb
    unfold frs at hb
    rw [List.filterMap_cons, hf] at hb
    exact hb
theorem Inv.stkFree (I : Inv X pins σ H s) : ∀ b ∈ frs X.stack, H b = none := fun b hb => by
  rcases List.mem_cons.mp (I.stkSub b hb) with e | hb
  · rw [e]; exact I.free
  · obtain ⟨_, o, ho, _⟩ := I.ok.funs.mem hb
    exact I.base.free b o ho (I.ok.frf b hb) fun z => I.ok.exfs b z hb
theorem Inv.step {g' : Array GenState} {t' : Nat} {d' : Drawn} {ch : List Addr} (I : Inv X pins σ H s)
    (hch : ∀ b ∈ ch, (b ∈ X.ex ∨ X.s₀.heap.objs.size ≤ b) ∧ b ≠ X.env.locals ∧ (∀ x c, X.env.cells.lookup x = some c → c ≠ b) ∧ ∀ p ∈ X.pn ++ pins, p.1 ≠ b)
    (keep : ∀ b o, b ≠ X.env.locals → b ∉ X.fs → b ∉ ch → s.heap.get? b = some o → H b = none → h'.get? b = some o)
    (slot : ∀ b o, b ≠ X.env.locals → b ∈ X.fs → b ∉ ch → s.heap.get? b = some o → H b = none → ∃ sl, h'.get? b = some { o with slots := sl }) (free : ∀ b o, b ∉ ch → s.heap.get? b = some o → H b = none → H' b = none)
    (there : ∀ b o, b ∉ ch → s.heap.get? b = some o → ∃ o', h'.get? b = some o')
    (tups : ∀ b xs, H b = some (.tup xs) → H' b = some (.tup xs)) (frzs : ∀ b o u, H b = some (.frz o u) → H' b = some (.frz o u)) (tbls : ∀ b ps, H b = some (.tbl ps) → ∃ more, H' b = some (.tbl (ps ++ more)))
    (ns : ∀ m, s.heap.Ns X.env.locals m → h'.Ns X.env.locals m) (hok : HOk X.prog X.w H' h') (hg : AllBare g') :
    Inv X pins σ H' { s with heap := h', gens := g', drawn := d', toks := t' } := by
  have neL : ∀ b o, X.s₀.heap.get? b = some o → b ≠ X.env.locals := fun b o e => Nat.ne_of_lt (Nat.lt_of_lt_of_le (Heap.lt_size e) I.ok.above)
  have neC : ∀ b o, X.s₀.heap.get? b = some o → b ∉ X.ex → b ∉ ch := fun b o e hx hb => by
    rcases (hch b hb).1 with z | z
    · exact hx z
    · exact absurd (Nat.lt_of_lt_of_le (Heap.lt_size e) z) (Nat.lt_irrefl _)
  have cellK : ∀ x c, X.env.cells.lookup x = some c → ∀ v, s.heap.IsCell c v → h'.IsCell c v := fun x c e v ⟨o, ho, hd⟩ => by
    have nch : c ∉ ch := fun z => (hch c z).2.2.1 x c e rfl
    by_cases hc : c ∈ X.fs
    · obtain ⟨sl, q⟩ := slot c o (I.cne x c e) hc nch ho (I.freeC x c e)
      exact ⟨_, q, hd⟩
    · exact ⟨o, keep c o (I.cne x c e) hc nch ho (I.freeC x c e), hd⟩
  refine ⟨I.ok, I.os, hg, ⟨fun b o e n hb hx => ?_, fun b o e n hb hx => ?_, fun b o e n hx => ?_, fun b o e hx => ?_, fun b xs e => tups b xs (I.base.tups b xs e), fun b o xs e => frzs b o xs (I.base.frzs b o xs e), fun b ps e => ?_⟩, ?_, fun x c e => ?_, ?_, fun x c e => ?_, fun p hp => ?_, hok, I.len⟩
  · exact keep b o (neL b o e) hb (neC b o e hx) (I.base.keep b o e n hb hx) (I.base.free b o e n hx)
  · obtain ⟨sl, e1⟩ := I.base.slot b o e n hb hx
    obtain ⟨sl', e2⟩ := slot b _ (neL b o e) hb (neC b o e hx) e1 (I.base.free b o e n hx)
    exact ⟨sl', e2⟩
  · obtain ⟨o', e1⟩ := I.base.there b o e hx
    exact free b o' (neC b o e hx) e1 (I.base.free b o e n hx)
  · obtain ⟨o', e1⟩ := I.base.there b o e hx
    exact there b o' (neC b o e hx) e1
  · obtain ⟨m1, e1⟩ := I.base.tbls b ps e
    obtain ⟨m2, e2⟩ := tbls b _ e1
    exact ⟨m1 ++ m2, by rw [e2, Array.append_assoc]⟩
  · obtain ⟨m, hn, hl⟩ := I.loc
    refine ⟨m, ns m hn, fun i x v e1 e2 e3 => ?_⟩
    obtain ⟨u, r, l⟩ := hl i x v e1 e2 e3
    refine ⟨u, r, ?_⟩
    rcases l with l | ⟨k, c, e, z⟩
    · exact .inl l
    · exact .inr ⟨k, c, e, cellK x c e _ z⟩
  · obtain ⟨v, z⟩ := I.cell x c e
    exact ⟨v, cellK x c e v z⟩
  · obtain ⟨m, ⟨o, _, _, ho, _⟩, _⟩ := I.loc
    exact free _ o (fun z => (hch _ z).2.1 rfl) ho I.free
  · obtain ⟨v, o, ho, hd⟩ := I.cell x c e
    exact free c o (fun z => (hch c z).2.2.1 x c e rfl) ho (I.freeC x c e)
  · obtain ⟨e, n, ne, nf, d⟩ := I.pin p hp
    have nch : p.1 ∉ ch := fun z => (hch p.1 z).2.2.2 p hp rfl
    exact ⟨keep p.1 p.2 ne nf nch e n, free p.1 p.2 nch e n, ne, nf, d⟩
theorem Inv.un {t' : Nat} (I : Inv X pins σ H s) (u : Un X.fs [] H H' s.heap h') (hok : HOk X.prog X.w H' h') : Inv X pins σ H' { s with heap := h', toks := t' } := by
  obtain ⟨m, ⟨o, es, ep, ho, r⟩, _⟩ := id I.loc
  obtain ⟨sl, hL⟩ := u.any ho I.free (by simp)
  exact I.step (g' := s.gens) (d' := s.drawn) (ch := []) (fun _ z => nomatch z) (fun b o _ hb _ e n => u.keep b o e n hb (by simp)) (fun b o _ hb _ e n => u.slot b o e n hb (by simp)) (fun b o _ e n => u.free b o e n (by simp)) (fun b o _ e => u.there b o e (by simp)) u.tups u.frzs u.tbls (fun m' hm => by
    obtain ⟨o', es', ep', ho', r'⟩ := hm
    rw [ho] at ho'; cases ho'
    exact ⟨_, es', ep', hL, r'⟩) hok I.bare
theorem Inv.call {g' : Array GenState} {t' : Nat} {d' : Drawn} {ch : List Addr} (I : Inv X pins σ H s) (u : Un (frs X.stack) ch H H' s.heap h') (hok : HOk X.prog X.w H' h') (hg : AllBare g')
    (hch : ∀ b ∈ ch, (b ∈ X.ex ∨ X.s₀.heap.objs.size ≤ b) ∧ b ≠ X.env.locals ∧ (∀ x c, X.env.cells.lookup x = some c → c ≠ b) ∧ ∀ p ∈ X.pn ++ pins, p.1 ≠ b) :
    Inv X pins σ H' { s with heap := h', gens := g', drawn := d', toks := t' } := by
  obtain ⟨m, ⟨o, es, ep, ho, r⟩, _⟩ := id I.loc
  obtain ⟨sl, hL⟩ := u.any ho I.free fun z => (hch _ z).2.1 rfl
  exact I.step (ch := ch) hch (fun b o hL hb hc e n => u.keep b o e n (fun z => (List.mem_cons.mp (I.stkSub b z)).elim hL hb) hc) (fun b o _ _ hc e n => u.any e n hc) (fun b o hc e n => u.free b o e n hc) (fun b o hc e => u.there b o e hc) u.tups u.frzs u.tbls (fun m' hm => by
    obtain ⟨o', es', ep', ho', r'⟩ := hm
    rw [ho] at ho'; cases ho'
    exact ⟨_, es', ep', hL, r'⟩) hok hg
theorem Inv.turned {t' : Nat} {it : Addr} (I : Inv X pins σ H s) (k : ∀ b o, b ≠ it → s.heap.get? b = some o → h'.get? b = some o) (hn : H it = none) (hL : it ≠ X.env.locals)
    (h1 : it ∈ X.ex ∨ X.s₀.heap.objs.size ≤ it) (h2 : ∀ x c, X.env.cells.lookup x = some c → c ≠ it) (h3 : ∀ p ∈ X.pn ++ pins, p.1 ≠ it) : Inv X pins σ H { s with heap := h', toks := t' } := by
  have nit : ∀ b u, H b = some u → b ≠ it := fun b u e z => by rw [z, hn] at e; cases e
  refine I.step (g' := s.gens) (d' := s.drawn) (ch := [it]) (fun b hb => ?_) (fun b o _ _ hc e _ => k b o (fun z => hc (by simp [z])) e) (fun b o _ _ hc e _ => ⟨o.slots, k b o (fun z => hc (by simp [z])) e⟩) (fun _ _ _ _ n => n)
    (fun b o hc e => ⟨o, k b o (fun z => hc (by simp [z])) e⟩) (fun _ _ e => e) (fun _ _ _ e => e) (fun b ps e => ⟨#[], by rw [e]; simp⟩) (fun m hm => ?_) (fun b u e => ?_) I.bare
  · have e : b = it := by simpa using hb
    subst e
    exact ⟨h1, hL, h2, h3⟩
  · obtain ⟨o, es, ep, ho, r⟩ := hm
    exact ⟨o, es, ep, k _ o (Ne.symm hL) ho, r⟩
  · refine (I.hok b u e).stay (fun c v hc q => k c v ?_ q) (fun _ q => q) fun _ _ q => q
    rcases hc with z | z
    · rw [z]; exact nit b u e
    · exact nit c _ z
theorem Inv.tok (I : Inv X pins σ H s) (t : Nat) : Inv X pins σ H { s with toks := t } := I.un (h' := s.heap) (t' := t) Un.refl I.hok
theorem Inv.kept {t' : Nat} (I : Inv X pins σ H s) (k : ∀ b u, s.heap.get? b = some u → h'.get? b = some u) : Inv X pins σ H { s with heap := h', toks := t' } := I.un (Un.kept k) (I.hok.kept k)
theorem Inv.laid {a : Addr} {o : HO} {t' : Nat} (I : Inv X pins σ H s) (k : ∀ b u, s.heap.get? b = some u → h'.get? b = some u) (hp : s.heap.objs.size ≤ a) (new : ObjOk X.prog X.w (upd H a o) h' a o) :
    Inv X pins σ (upd H a o) { s with heap := h', toks := t' } := I.un (Un.laid k hp (I.hok.fresh hp)) (I.hok.laid k hp new)
theorem Inv.write {x e : Addr} {o : HO} {t' : Nat} (I : Inv X pins σ H s) (mu : Mut (H x)) (he : e = x ∨ H e = some (.own x)) (k : ∀ b u, b ≠ e → s.heap.get? b = some u → h'.get? b = some u) (heo : ∃ u, h'.get? e = some u)
    (new : ObjOk X.prog X.w (upd H x o) h' x o) : Inv X pins σ (upd H x o) { s with heap := h', toks := t' } := I.un (Un.write mu he k heo) (I.hok.write mu he k heo new)
theorem Inv.pins_of {pins' : List (Addr × Obj)} (I : Inv X pins σ H s) (h : ∀ p ∈ pins', s.heap.get? p.1 = some p.2 ∧ H p.1 = none ∧ p.1 ≠ X.env.locals ∧ p.1 ∉ X.fs ∧ ∀ v, p.2.data ≠ .cell v) : Inv X pins' σ H s :=
  ⟨I.ok, I.os, I.bare, I.base, I.loc, I.cell, I.free, I.freeC, fun p hp => (List.mem_append.mp hp).elim (fun z => I.pin p (List.mem_append_left _ z)) (h p), I.hok, I.len⟩
theorem nodup_ix {N : List Str} (hN : N.Nodup) {i j : Nat} {x : Str} (a : N[i]? = some x) (b : N[j]? = some x) : i = j := by
  obtain ⟨h1, e1⟩ := List.getElem?_eq_some_iff.mp a
  obtain ⟨h2, e2⟩ := List.getElem?_eq_some_iff.mp b
  exact (List.getElem_inj hN).mp (e1.trans e2.symm)
theorem store_ok2 {M : Model} {A : Around} {E : Value → Shared → Prop} {i : Nat} {x : Str} {v : V} {u : Value} {Q : Unit → Shared → Prop} (I : Inv X pins σ H s) (hN : X.N.Nodup) (hi : X.N[i]? = some x) (hx : Loc X.env.scope x) (r : RelV v u)
    (h : ∀ s', Inv X pins (σ.set i (some v)) H s' → (∃ a, Heap.SameBut a s.heap s'.heap ∧ (a = X.env.locals ∨ X.env.cells.lookup x = some a)) → Q () s') (hf : autoParam (X.fn x = true ∨ X.env.scope.names.lookup x = some .local) L2.aFst._auto_1) : wpAny M A (storeName X.env x u) Q E s := by
  obtain ⟨m, hn, hl⟩ := id I.loc
  have hcls : (X.env.scope.kind == .class || (X.env.scope.kind == .module && X.env.locals != X.env.globals)) = false := by rw [I.ok.kind]; rfl
  have hiσ : i < σ.length := by rw [I.len]; exact (List.getElem?_eq_some_iff.mp hi).1
  have cne := I.cne
  have tracked : ∀ {a : Addr} {h' : Heap}, (∃ o, s.heap.get? a = some o ∧ H a = none) → Heap.SameBut a s.heap h' → HOk X.prog X.w H h' := fun {a h'} ha hs b ob e => by
    obtain ⟨_, _, hfree⟩ := ha
    refine (I.hok b ob e).stay (fun c w' hc q => (hs.2 c ?_).trans q) (fun _ q => q) fun _ _ q => q
    rintro rfl
    rcases hc with rfl | hc
    · rw [hfree] at e; cases e
    · rw [hfree] at hc; cases hc
  rcases hx with hk | hk
  · refine wpAny_storeName_local hk hn (fun h' hn' hs => ?_) hcls
    obtain ⟨oL, _, _, hoL, _⟩ := id hn
    refine h _ ⟨I.ok, I.os, I.bare, ⟨fun b o e n hb hx => ?_, fun b o e n hb hx => ?_, I.base.free, fun b o e hx => ?_, I.base.tups, I.base.frzs, I.base.tbls⟩, ⟨_, hn', fun j y v' e1 e2 e3 => ?_⟩, fun y c e => ?_, I.free, I.freeC, fun p hp => ?_, tracked ⟨oL, hoL, I.free⟩ hs, by simpa using I.len⟩ ⟨_, hs, .inl rfl⟩
    · exact (hs.2 b (Nat.ne_of_lt (Nat.lt_of_lt_of_le (Heap.lt_size e) I.ok.above))).trans (I.base.keep b o e n hb hx)
    · obtain ⟨sl, e1⟩ := I.base.slot b o e n hb hx
      exact ⟨sl, (hs.2 b (Nat.ne_of_lt (Nat.lt_of_lt_of_le (Heap.lt_size e) I.ok.above))).trans e1⟩
    · obtain ⟨o', e1⟩ := I.base.there b o e hx
      exact ⟨o', (hs.2 b (Nat.ne_of_lt (Nat.lt_of_lt_of_le (Heap.lt_size e) I.ok.above))).trans e1⟩
    · by_cases hj : j = i
      · subst hj
        rw [hi] at e1; cases e1
        rw [List.getElem?_set_self hiσ] at e2
        cases e2
        exact ⟨u, r, .inl ⟨hk, by simp⟩⟩
      · rw [List.getElem?_set_ne (Ne.symm hj)] at e2
        obtain ⟨u', r', q⟩ := hl j y v' e1 e2 e3
        refine ⟨u', r', ?_⟩
        rcases q with ⟨k, e⟩ | ⟨k, c, e, z⟩
        · refine .inl ⟨k, ?_⟩
          have : y ≠ x := fun e => hj (nodup_ix hN e1 (e ▸ hi))
          simp [this, e]
        · exact .inr ⟨k, c, e, z.sameBut hs (cne y c e)⟩
    · obtain ⟨w', z⟩ := I.cell y c e
      exact ⟨w', z.sameBut hs (cne y c e)⟩
    · obtain ⟨e, n, ne, nf, d⟩ := I.pin p hp
      exact ⟨(hs.2 p.1 ne).trans e, n, ne, nf, d⟩
  · have hfn : X.fn x = true := by
      rcases hf with z | z
      · exact z
      · rw [z] at hk; cases hk
    obtain ⟨c, hc⟩ := I.ok.has x (.inl hk)
    obtain ⟨w', z⟩ := I.cell x c hc
    refine wpAny_storeName_cell I.ok.kind hk hc z (fun h' hc' hs => ?_)
    obtain ⟨oc, hoc, hocd⟩ := id z
    refine h { s with heap := h' } ⟨I.ok, I.os, I.bare, ⟨fun b o e n hb hx => ?_, fun b o e n hb hx => ?_, I.base.free, fun b o e hx => ?_, I.base.tups, I.base.frzs, I.base.tbls⟩, ⟨m, hn.sameBut hs (Ne.symm (cne x c hc)), fun j y v' e1 e2 e3 => ?_⟩, fun y c' e => ?_, I.free, I.freeC, fun p hp => ?_, tracked ⟨oc, hoc, I.freeC x c hc⟩ hs, by simpa using I.len⟩ ⟨c, hs, .inr hc⟩
    · exact (hs.2 b (Nat.ne_of_lt (Nat.lt_of_lt_of_le (Heap.lt_size e) (I.ok.cab x c hfn hc)))).trans (I.base.keep b o e n hb hx)
    · obtain ⟨sl, e1⟩ := I.base.slot b o e n hb hx
      exact ⟨sl, (hs.2 b (Nat.ne_of_lt (Nat.lt_of_lt_of_le (Heap.lt_size e) (I.ok.cab x c hfn hc)))).trans e1⟩
    · obtain ⟨o', e1⟩ := I.base.there b o e hx
      exact ⟨o', (hs.2 b (Nat.ne_of_lt (Nat.lt_of_lt_of_le (Heap.lt_size e) (I.ok.cab x c hfn hc)))).trans e1⟩
    · by_cases hj : j = i
      · subst hj
        rw [hi] at e1; cases e1
        rw [List.getElem?_set_self hiσ] at e2
        cases e2
        exact ⟨u, r, .inr ⟨.inl hk, c, hc, hc'⟩⟩
      · rw [List.getElem?_set_ne (Ne.symm hj)] at e2
        obtain ⟨u', r', q⟩ := hl j y v' e1 e2 e3
        refine ⟨u', r', ?_⟩
        rcases q with q | ⟨k, c', e, z'⟩
        · exact .inl q
        · refine .inr ⟨k, c', e, z'.sameBut hs ?_⟩
          rintro rfl
          exact hj (nodup_ix hN e1 (I.ok.inj _ _ _ e hc ▸ hi))
    · by_cases hcc : c' = c
      · subst hcc; exact ⟨_, hc'⟩
      · obtain ⟨w2, z2⟩ := I.cell y c' e
        exact ⟨w2, z2.sameBut hs hcc⟩
    · obtain ⟨e, n, ne, nf, d⟩ := I.pin p hp
      refine ⟨(hs.2 p.1 ?_).trans e, n, ne, nf, d⟩
      intro q
      rw [q, hoc] at e
      have q' : oc = p.2 := Option.some.inj e
      exact d w' (by rw [← q']; exact hocd)
theorem store_ok {M : Model} {A : Around} {E : Value → Shared → Prop} {i : Nat} {x : Str} {v : V} {u : Value} {Q : Unit → Shared → Prop} (I : Inv X pins σ H s) (hN : X.N.Nodup) (hi : X.N[i]? = some x) (hx : Loc X.env.scope x) (r : RelV v u)
    (h : ∀ s', Inv X pins (σ.set i (some v)) H s' → Q () s') (hf : autoParam (X.fn x = true ∨ X.env.scope.names.lookup x = some .local) L2.aFst._auto_1) : wpAny M A (storeName X.env x u) Q E s :=
  store_ok2 I hN hi hx r (fun s' I' _ => h s' I') hf
theorem Inv.call' {s' : Shared} {ch : List Addr} (I : Inv X pins σ H s) (ho : s'.os = s.os) (u : Un (frs X.stack) ch H H' s.heap s'.heap) (hok : HOk X.prog X.w H' s'.heap) (hg : AllBare s'.gens)
    (hch : ∀ b ∈ ch, (b ∈ X.ex ∨ X.s₀.heap.objs.size ≤ b) ∧ b ≠ X.env.locals ∧ (∀ x c, X.env.cells.lookup x = some c → c ≠ b) ∧ ∀ p ∈ X.pn ++ pins, p.1 ≠ b) : Inv X pins σ H' s' := by
  obtain ⟨h', g', d', t', o'⟩ := s'
  have e : o' = s.os := ho
  subst e
  exact I.call (g' := g') (t' := t') (d' := d') u hok hg hch
end
noncomputable abbrev XK := Value → Option Addr → Hp → Prop
noncomputable abbrev St := List (Option V)
noncomputable abbrev VK := V → Hp → Prop
noncomputable abbrev TE := St → Hp → VK → Prop
noncomputable abbrev TT := St → Hp → (Bool → Hp → Prop) → Prop
noncomputable abbrev TA := St → Hp → (List V → Hp → Prop) → Prop
structure Ends where
  nx : St → Hp → Prop
  rt : VK
  bk : St → Hp → Prop := fun _ _ => False
  ct : St → Hp → Prop := fun _ _ => False
noncomputable abbrev TS := Ends → St → Hp → Prop
noncomputable def EP (X : Cx) (pins : List (Addr × Obj)) (σ : St) (Q : VK) (u : Value) (s' : Shared) : Prop := ∃ v H', Inv X pins σ H' s' ∧ RelV v u ∧ Q v H'
noncomputable def TP (X : Cx) (pins : List (Addr × Obj)) (σ : St) (Q : Bool → Hp → Prop) (b : Bool) (s' : Shared) : Prop := ∃ H', Inv X pins σ H' s' ∧ Q b H'
noncomputable def AP (X : Cx) (pins : List (Addr × Obj)) (σ : St) (Q : List V → Hp → Prop) (us : List Value) (s' : Shared) : Prop := ∃ vs H', Inv X pins σ H' s' ∧ Vals vs us ∧ Q vs H'
noncomputable def SP (X : Cx) (pins : List (Addr × Obj)) (D : Ends) (f : Flow) (s' : Shared) : Prop :=
  match f with
  | .next => ∃ σ' H', Inv X pins σ' H' s' ∧ D.nx σ' H'
  | .brk => ∃ σ' H', Inv X pins σ' H' s' ∧ D.bk σ' H'
  | .cont => ∃ σ' H', Inv X pins σ' H' s' ∧ D.ct σ' H'
  | .ret u => ∃ v σ' H', Inv X pins σ' H' s' ∧ RelV v u ∧ D.rt v H'
noncomputable def PE (X : Cx) (e : Expr) (t : TE) : Prop :=
  ∀ (pins : List (Addr × Obj)) (s : Shared) (σ : St) (H : Hp) (Q : VK), Inv X pins σ H s → t σ H Q → wpAny (model X.prog X.w) X.A (eval e X.env) (EP X pins σ Q) X.xe s
noncomputable def PT (X : Cx) (e : Expr) (t : TT) : Prop :=
  ∀ (pins : List (Addr × Obj)) (s : Shared) (σ : St) (H : Hp) (Q : Bool → Hp → Prop), Inv X pins σ H s → t σ H Q → wpAny (model X.prog X.w) X.A (isTrue e X.env (eval e X.env)) (TP X pins σ Q) X.xe s
noncomputable def PW (X : Cx) (e : Expr) (t : TT) : Prop :=
  ∀ (whole : Sem Value) (pins : List (Addr × Obj)) (s : Shared) (σ : St) (H : Hp) (Q : Bool → Hp → Prop), Inv X pins σ H s → t σ H Q → wpAny (model X.prog X.w) X.A (isTrue e X.env whole) (TP X pins σ Q) X.xe s
theorem PW.pt {X : Cx} {e : Expr} {t : TT} (h : PW X e t) : PT X e t := h _
noncomputable def PA (X : Cx) (es : List Expr) (t : TA) : Prop :=
  ∀ (pos : Pos) (pins : List (Addr × Obj)) (s : Shared) (σ : St) (H : Hp) (Q : List V → Hp → Prop), Inv X pins σ H s → t σ H Q → wpAny (model X.prog X.w) X.A (spliced (backTo pos (starEach es X.env))) (AP X pins σ Q) X.xe s
noncomputable def PS (X : Cx) (st : Stmt) (t : TS) : Prop :=
  ∀ (pins : List (Addr × Obj)) (s : Shared) (σ : St) (H : Hp) (D : Ends), Inv X pins σ H s → t D σ H → wpAny (model X.prog X.w) X.A (exec st X.env) (SP X pins D) X.xe s
noncomputable def PSs (X : Cx) (st : List Stmt) (t : TS) : Prop :=
  ∀ (pins : List (Addr × Obj)) (s : Shared) (σ : St) (H : Hp) (D : Ends), Inv X pins σ H s → t D σ H → wpAny (model X.prog X.w) X.A (execs st X.env) (SP X pins D) X.xe s
theorem thn {α : Type} {t : Sem α} {Q Q' : α → Shared → Prop} {M : Model} {A : Around} {E : Value → Shared → Prop} {s : Shared} (h : wpAny M A t Q E s) (hQ : ∀ a s, Q a s → Q' a s) : wpAny M A t Q' E s := wpAny_mono h hQ fun _ _ x => x
end L2
namespace L2
open PySem PySem.Spec PyProof.Rows
section
variable {X : Cx}
noncomputable def tVar (i : Nat) : TE := fun σ H Q => ∃ v, σ[i]? = some (some v) ∧ Q v H
noncomputable def tC (v : V) : TE := fun _ H Q => Q v H
theorem pe_var {i : Nat} {x : Str} {pos : Pos} (hN : X.N[i]? = some x) (hv : Vis X.env.scope x) (hd : autoParam ((x == ("__debug__" : Str)) = false) L2.aDec._auto_1) (hcd : autoParam ((x == ("__classdict__" : Str)) = false) L2.aDec._auto_1) : PE X (.Name x pos) (tVar i) := by
  intro pins s σ H Q I h
  obtain ⟨v, e, h⟩ := h
  obtain ⟨m, hn, hl⟩ := I.loc
  obtain ⟨u, r, l⟩ := hl i x v hN e hv
  have fin : EP X pins σ Q u s := ⟨v, H, I, r, h⟩
  rcases l with ⟨hk, hm⟩ | ⟨hk, c, hc, hcell⟩
  · exact wpAny_Name (wpAny_loadName_local I.ok.kind hk hn hm fin) hd
  · rcases hk with hk | hk
    · exact wpAny_Name (wpAny_loadName_cell I.ok.kind hk hc hcell fin) hd
    · exact wpAny_Name (wpAny_loadName_free I.ok.kind hk hc hcell fin hcd) hd
theorem pe_int {i j pos} : PE X (.Constant (.int i) j pos) (tC (.int i)) := fun _ _ _ H _ I h => wpAny_Constant_int ⟨.int i, H, I.tok _, ⟨_, rfl⟩, h⟩
theorem pe_bl {b j pos} : PE X (.Constant (.bool b) j pos) (tC (.bl b)) := fun _ _ _ H _ I h => Constant_bool ⟨.bl b, H, I, rfl, h⟩
theorem pe_str {x j pos} : PE X (.Constant (.str x) j pos) (tC (.str x)) := fun _ _ _ H _ I h => Calls.Constant_str ⟨.str x, H, I.tok _, ⟨_, rfl⟩, h⟩
noncomputable def Gl (X : Cx) (x : Str) : Prop := X.env.kindOf x = some .globalImplicit
theorem ld_glob {E : Value → Shared → Prop} {pins : List (Addr × Obj)} {s : Shared} {σ : St} {H : Hp} {x : Str} {u : Value} {pos : Pos} {Q : Value → Shared → Prop} (I : Inv X pins σ H s) (hg : Gl X x) (hm : X.mg x = some u) (h : Q u s)
    (hd : autoParam ((x == ("__debug__" : Str)) = false) L2.aDec._auto_1) : wpAny (model X.prog X.w) X.A (eval (.Name x pos) X.env) Q E s :=
  Calls.Name_function_global I.ok.kind hg (Calls.loadGlobal_global (by rw [I.ok.glob]; exact I.mod.glob.keeps I.bk) hm h) hd
theorem ld_blt {E : Value → Shared → Prop} {pins : List (Addr × Obj)} {s : Shared} {σ : St} {H : Hp} {x : Str} {u : Value} {pos : Pos} {Q : Value → Shared → Prop} (I : Inv X pins σ H s) (hg : Gl X x) (hm : X.mg x = none) (hv : bootBuiltins x = some u) (h : Q u s)
    (hn : autoParam (x ≠ "__name__") L2.aDec._auto_1) (hd : autoParam ((x == ("__debug__" : Str)) = false) L2.aDec._auto_1) : wpAny (model X.prog X.w) X.A (eval (.Name x pos) X.env) Q E s := by
  obtain ⟨mb, h1, h2⟩ := I.mod.blt
  exact Calls.Name_function_global I.ok.kind hg (Calls.loadGlobal_builtin (by rw [I.ok.glob]; exact I.mod.glob.keeps I.bk) hm (by rw [I.ok.blt]; exact h1.keeps I.bk) ((h2 x hn).trans hv) h) hd
theorem pe_glob {x : Str} {v : V} {u : Value} {pos : Pos} (hg : Gl X x) (hm : X.mg x = some u) (r : RelV v u) (hd : autoParam ((x == ("__debug__" : Str)) = false) L2.aDec._auto_1) : PE X (.Name x pos) (tC v) :=
  fun _ _ _ H _ I h => ld_glob I hg hm ⟨v, H, I, r, h⟩ hd
theorem pe_bltn {x : Str} {v : V} {u : Value} {pos : Pos} (hg : Gl X x) (hm : X.mg x = none) (hv : bootBuiltins x = some u) (r : RelV v u) (hn : autoParam (x ≠ "__name__") L2.aDec._auto_1) (hd : autoParam ((x == ("__debug__" : Str)) = false) L2.aDec._auto_1) : PE X (.Name x pos) (tC v) :=
  fun _ _ _ H _ I h => ld_blt I hg hm hv ⟨v, H, I, r, h⟩ hn hd
variable {a b : Expr} {ta tb : TE} {pos : Pos}
noncomputable def tB (t : TE) : TT := fun σ H Q => t σ H fun x H1 => ∃ c, x = .bl c ∧ Q c H1
theorem pt_val {e : Expr} {t : TE} (h : PE X e t) (he : autoParam (∀ whole, isTrue e X.env whole = (do let v ← whole; standAt e.pos; holding [v] (truthy v))) L2.aIrf._auto_1) : PT X e (tB t) := by
  intro pins s σ H Q I hw
  refine isTrue_plain (thn (h pins s σ H _ I hw) fun v s1 ⟨x, H1, I1, r1, q1⟩ => ?_) (he _)
  obtain ⟨d, rfl, q⟩ := q1
  cases r1
  exact wpAny_truthy_bool ⟨H1, I1, q⟩
variable {tA tB' : TT} {rest : List Expr}
noncomputable def tAnd (t u : TT) : TT := fun σ H Q => t σ H fun c H1 => if c = true then u σ H1 Q else Q false H1
noncomputable def tOr (t u : TT) : TT := fun σ H Q => t σ H fun c H1 => if c = true then Q true H1 else u σ H1 Q
noncomputable def tNot (t : TT) : TT := fun σ H Q => t σ H fun c H1 => Q (!c) H1
theorem pw_and1 (ha : PT X a tA) : PW X (.BoolOp .And [a] pos) tA := by
  intro wh pins s σ H Q I h
  refine isTrue_and (thn (ha pins s σ H Q I h) fun c s1 e => ?_)
  cases c with
  | true => exact isTrue_and_nil e
  | false => exact e
theorem pw_or1 (ha : PT X a tA) : PW X (.BoolOp .Or [a] pos) tA := by
  intro wh pins s σ H Q I h
  refine isTrue_or (thn (ha pins s σ H Q I h) fun c s1 e => ?_)
  cases c with
  | false => exact isTrue_or_nil e
  | true => exact e
theorem pw_and (ha : PT X a tA) (hb : PW X (.BoolOp .And (b :: rest) pos) tB') : PW X (.BoolOp .And (a :: b :: rest) pos) (tAnd tA tB') := by
  intro wh pins s σ H Q I h
  refine isTrue_and (thn (ha pins s σ H _ I h) fun c s1 ⟨H1, I1, q1⟩ => ?_)
  cases c with
  | true => exact hb wh pins s1 σ H1 Q I1 q1
  | false => exact ⟨H1, I1, q1⟩
theorem pw_or (ha : PT X a tA) (hb : PW X (.BoolOp .Or (b :: rest) pos) tB') : PW X (.BoolOp .Or (a :: b :: rest) pos) (tOr tA tB') := by
  intro wh pins s σ H Q I h
  refine isTrue_or (thn (ha pins s σ H _ I h) fun c s1 ⟨H1, I1, q1⟩ => ?_)
  cases c with
  | true => exact ⟨H1, I1, q1⟩
  | false => exact hb wh pins s1 σ H1 Q I1 q1
theorem pt_not (ha : PT X a tA) : PT X (.UnaryOp .Not a pos) (tNot tA) := by
  intro pins s σ H Q I h
  exact isTrue_not (ha pins s σ H (fun c H1 => Q (!c) H1) I h)
noncomputable def tAndV (ta tb : TE) : TE := fun σ H Q => ta σ H fun x H1 => ∃ c, x = .bl c ∧ if c = true then tb σ H1 Q else Q (.bl false) H1
noncomputable def tNotV (ta : TE) : TE := fun σ H Q => ta σ H fun x H1 => ∃ c, x = .bl c ∧ Q (.bl (!c)) H1
theorem pe_one {op} {t : TE} (h : PE X a t) : PE X (.BoolOp op [a] pos) t := fun pins s σ H Q I hw => BoolOp_one (h pins s σ H Q I hw)
theorem pe_and (ha : PE X a ta) (hb : PE X (.BoolOp .And (b :: rest) pos) tb) : PE X (.BoolOp .And (a :: b :: rest) pos) (tAndV ta tb) := by
  intro pins s σ H Q I h
  refine BoolOp_and (thn (ha pins s σ H _ I h) fun v s1 ⟨x, H1, I1, r1, q1⟩ => ?_)
  obtain ⟨c, rfl, q1⟩ := q1
  cases r1
  refine wpAny_truthy_bool ?_
  cases c with
  | true => exact hb pins s1 σ H1 Q I1 q1
  | false => exact ⟨.bl false, H1, I1, rfl, q1⟩
theorem pe_not (ha : PE X a ta) : PE X (.UnaryOp .Not a pos) (tNotV ta) := by
  intro pins s σ H Q I h
  refine UnaryOp_ (thn (ha pins s σ H _ I h) fun v s1 ⟨x, H1, I1, r1, q1⟩ => ?_)
  obtain ⟨c, rfl, q1⟩ := q1
  cases r1
  exact not_of (wpAny_truthy_bool ⟨.bl (!c), H1, I1, rfl, q1⟩)
end
end L2
namespace L2
open PySem PySem.Spec PyProof.Rows
noncomputable def SqL (K : PySem.W.Frag) (H : Hp) (a : Addr) (xs : List V) : Prop :=
  Rd H a (.lst xs) ∨
    ∃ (o : Obj) (its : Array Value) (n : Nat), K.lookup a = some o ∧ o.cls = .type "list" ∧ o.dict = none ∧ o.data = .seq its n ∧ its.size ≤ sizeLine ∧ Vals xs its.toList
noncomputable def SqT (K : PySem.W.Frag) (H : Hp) (a : Addr) (xs : List V) : Prop :=
  Rd H a (.tup xs) ∨
    ∃ (o : Obj) (its : Array Value) (n : Nat), K.lookup a = some o ∧ o.cls = .type "tuple" ∧ o.data = .seq its n ∧ its.size ≤ sizeLine ∧ Vals xs its.toList
noncomputable def absV : Value → Option V
  | .none => some .non
  | .bool b => some (.bl b)
  | .int i _ => some (.int i)
  | .str x _ => some (.str x)
  | .bytes b _ => some (.byt b)
  | .float b _ => some (.flt b)
  | .ref a => some (.ref a)
  | .type n => some (.ty n)
  | _ => none
theorem RelV.abs {x : V} {u : Value} (r : RelV x u) : absV u = some x := by
  cases x with
  | non => cases r; rfl
  | bl _ => cases r; rfl
  | int _ => obtain ⟨t, rfl⟩ := r; rfl
  | str _ => obtain ⟨t, rfl⟩ := r; rfl
  | byt _ => obtain ⟨t, rfl⟩ := r; rfl
  | flt _ => obtain ⟨t, rfl⟩ := r; rfl
  | ref _ => cases r; rfl
  | ty _ => cases r; rfl
theorem RelV.inj {x y : V} {u : Value} (r : RelV x u) (q : RelV y u) : x = y := Option.some.inj (r.abs.symm.trans q.abs)
theorem Vals.inj {xs ys : List V} {us : List Value} (h : Vals xs us) (g : Vals ys us) : xs = ys := by
  induction h generalizing ys with
  | nil => cases g; rfl
  | cons r t ih =>
    cases g with
    | cons r' t' => rw [r.inj r', ih t']
section
variable {X : Cx} {pins : List (Addr × Obj)} {σ : St} {H : Hp} {s : Shared} {a : Addr} {xs ys : List V}
theorem SqL.of {K : PySem.W.Frag} (h : H a = some (.lst xs)) : SqL K H a xs := .inl (.inl h)
theorem Inv.list (I : Inv X pins σ H s) (h : SqL X.K H a xs) : ∃ its : List Value, Vals xs its ∧ PlainL s.heap a its.toArray ∧ xs.length ≤ sizeLine := by
  rcases h with h | ⟨o, its, n, hk, hc, hd, hs, hz, r⟩
  · obtain ⟨z, its, n, r, e⟩ := h.ok I.hok
    exact ⟨its, r, ⟨_, n, e, rfl, rfl, rfl⟩, z⟩
  · refine ⟨its.toList, r, ⟨o, n, I.kIn a o hk, hc, hd, by simpa using hs⟩, ?_⟩
    have e := r.length
    simp only [Array.length_toList] at e
    omega
theorem Inv.tuple (I : Inv X pins σ H s) (h : SqT X.K H a xs) : ∃ its : List Value, Vals xs its ∧ IsTup s.heap a its.toArray ∧ xs.length ≤ sizeLine := by
  rcases h with h | ⟨o, its, n, hk, hc, hs, hz, r⟩
  · obtain ⟨z, its, r, p⟩ := h.ok I.hok
    exact ⟨its, r, p, z⟩
  · refine ⟨its.toList, r, ⟨o, I.kIn a o hk, hc, n, by simpa using hs⟩, ?_⟩
    have e := r.length
    simp only [Array.length_toList] at e
    omega
theorem Inv.list_inj (I : Inv X pins σ H s) (h : SqL X.K H a xs) (h' : SqL X.K H a ys) : xs = ys := by
  obtain ⟨its, r, ⟨o, n, e, _, _, d⟩, _⟩ := I.list h
  obtain ⟨its', r', ⟨o', n', e', _, _, d'⟩, _⟩ := I.list h'
  rw [e] at e'; cases e'
  rw [d] at d'
  injection d' with d1 _
  have : its = its' := by simpa using congrArg Array.toList d1
  subst this
  exact r.inj r'
theorem Inv.tuple_inj (I : Inv X pins σ H s) (h : SqT X.K H a xs) (h' : SqT X.K H a ys) : xs = ys := by
  obtain ⟨its, r, ⟨o, e, _, n, d⟩, _⟩ := I.tuple h
  obtain ⟨its', r', ⟨o', e', _, n', d'⟩, _⟩ := I.tuple h'
  rw [e] at e'; cases e'
  rw [d] at d'
  injection d' with d1 _
  have : its = its' := by simpa using congrArg Array.toList d1
  subst this
  exact r.inj r'
end
noncomputable abbrev Cx.wish (X : Cx) (E : Value → Shared → Prop) : Cx := { X with xe := E }
noncomputable abbrev Cx.nox (X : Cx) : Cx := X.wish fun _ _ => False
theorem Cx.Ok.wish {X : Cx} (ok : X.Ok) (E : Value → Shared → Prop) : (X.wish E).Ok :=
  ⟨ok.mod, ok.kind, ok.glob, ok.blt, ok.above, ok.inj, ok.has, ok.cab, ok.hd, ok.frames, ok.stk, ok.exf, ok.bs, ok.bsz, ok.noex, ok.exfs, ok.funs, ok.frf⟩
theorem Cx.Ok.unwish {X : Cx} {E : Value → Shared → Prop} (ok : (X.wish E).Ok) : X.Ok :=
  ⟨ok.mod, ok.kind, ok.glob, ok.blt, ok.above, ok.inj, ok.has, ok.cab, ok.hd, ok.frames, ok.stk, ok.exf, ok.bs, ok.bsz, ok.noex, ok.exfs, ok.funs, ok.frf⟩
section
variable {X : Cx} {pins : List (Addr × Obj)} {σ : St} {H : Hp} {s : Shared} {E : Value → Shared → Prop}
theorem Inv.wish (I : Inv X pins σ H s) (E : Value → Shared → Prop) : Inv (X.wish E) pins σ H s := ⟨I.ok.wish E, I.os, I.bare, I.base, I.loc, I.cell, I.free, I.freeC, I.pin, I.hok, I.len⟩
theorem Inv.unwish (I : Inv (X.wish E) pins σ H s) : Inv X pins σ H s := ⟨I.ok.unwish, I.os, I.bare, I.base, I.loc, I.cell, I.free, I.freeC, I.pin, I.hok, I.len⟩
theorem SP.unwish {D : Ends} {f : Flow} {s' : Shared} (h : SP (X.wish E) pins D f s') : SP X pins D f s' := by
  cases f with
  | next => obtain ⟨σ', H', I, q⟩ := h; exact ⟨σ', H', I.unwish, q⟩
  | brk => obtain ⟨σ', H', I, q⟩ := h; exact ⟨σ', H', I.unwish, q⟩
  | cont => obtain ⟨σ', H', I, q⟩ := h; exact ⟨σ', H', I.unwish, q⟩
  | ret u => obtain ⟨v, σ', H', I, r, q⟩ := h; exact ⟨v, σ', H', I.unwish, r, q⟩
theorem PSs.nox {st : List Stmt} {t : TS} (h : PSs X.nox st t) : PSs X st t := fun pins s σ H D I hw =>
  wpAny_mono (h pins s σ H D (I.wish _) hw) (fun _ _ q => q.unwish) fun _ _ z => False.elim z
end
section
variable {X : Cx} {st : Stmt} {rest : List Stmt} {t u : TS} {e : Expr} {te : TE} {pos : Pos}
noncomputable def tNext : TS := fun D σ H => D.nx σ H
noncomputable def tSeq (t u : TS) : TS := fun D σ H => t { D with nx := u D } σ H
theorem pss_nil : PSs X [] tNext := fun _ _ σ H _ I h => wpAny_execs_nil ⟨σ, H, I, h⟩
theorem pss_cons (h1 : PS X st t) (h2 : PSs X rest u) : PSs X (st :: rest) (tSeq t u) := by
  intro pins s σ H D I h
  refine wpAny_execs_cons (thn (h1 pins s σ H { D with nx := u D } I h) fun f s1 q => ?_)
  cases f with
  | next =>
    obtain ⟨σ', H', I', q⟩ := q
    exact h2 pins s1 σ' H' D I' q
  | ret v => exact q
  | brk => exact q
  | cont => exact q
theorem pss_one (h1 : PS X st t) : PSs X [st] t := by
  intro pins s σ H D I h
  refine wpAny_execs_cons (thn (h1 pins s σ H D I h) fun f s1 q => ?_)
  cases f with
  | next => exact wpAny_execs_nil q
  | ret v => exact q
  | brk => exact q
  | cont => exact q
theorem Inv.quiet {pins : List (Addr × Obj)} {σ : St} {H : Hp} {s : Shared} (I : Inv X pins σ H s) : interactive X.env = false := by simp [interactive, I.ok.kind]
noncomputable def tDrop (te : TE) : TS := fun D σ H => te σ H fun _ H1 => D.nx σ H1
theorem ps_expr (he : PE X e te) (hs : autoParam (swapsWith e none pos.line X.env = pure false) L2.aRfl._auto_1) : PS X (.Expr e pos) (tDrop te) := by
  intro pins s σ H D I h
  exact wpAny_Expr_any (thn (he pins s σ H _ I h) fun v s1 ⟨x, H1, I1, r1, q1⟩ => ⟨σ, H1, I1, q1⟩) I.quiet hs
noncomputable def tRet (te : TE) : TS := fun D σ H => te σ H D.rt
theorem ps_ret (he : PE X e te) : PS X (.Return (some e) pos) (tRet te) := by
  intro pins s σ H D I h
  exact wpAny_Return_some (thn (he pins s σ H _ I h) fun v s1 ⟨x, H1, I1, r1, q1⟩ => ⟨x, σ, H1, I1, r1, q1⟩)
noncomputable def tIfS (c : TT) (t u : TS) : TS := fun D σ H => c σ H fun b H1 => if b = true then t D σ H1 else u D σ H1
theorem ps_if {c : Expr} {a b : List Stmt} {tc : TT} (hc : PT X c tc) (ha : PSs X a t) (hb : PSs X b u) : PS X (.If c a b pos) (tIfS tc t u) := by
  intro pins s σ H D I h
  refine wpAny_If (thn (hc pins s σ H _ I h) fun d s1 ⟨H1, I1, q1⟩ => ?_)
  cases d with
  | true => exact ha pins s1 σ H1 D I1 q1
  | false => exact hb pins s1 σ H1 D I1 q1
end
noncomputable abbrev TG := V → St → Hp → (St → Hp → Prop) → Prop
noncomputable abbrev TGs := List V → St → Hp → (St → Hp → Prop) → Prop
noncomputable def PG (X : Cx) (target : Expr) (t : TG) : Prop :=
  ∀ (pins : List (Addr × Obj)) (s : Shared) (σ : St) (H : Hp) (v : V) (u : Value) (Q : St → Hp → Prop), Inv X pins σ H s → RelV v u → t v σ H Q →
    wpAny (model X.prog X.w) X.A (assign target X.env u) (fun _ s' => ∃ σ' H', Inv X pins σ' H' s' ∧ Q σ' H') X.xe s
noncomputable def PGs (X : Cx) (ts : List Expr) (t : TGs) : Prop :=
  ∀ (pins : List (Addr × Obj)) (s : Shared) (σ : St) (H : Hp) (vs : List V) (us : List Value) (Q : St → Hp → Prop), Inv X pins σ H s → Vals vs us → t vs σ H Q →
    wpAny (model X.prog X.w) X.A (assignInOrder ((assignEach ts X.env).map (·.2)) us) (fun _ s' => ∃ σ' H', Inv X pins σ' H' s' ∧ Q σ' H') X.xe s
section
variable {X : Cx} {pos : Pos}
noncomputable def gName (i : Nat) : TG := fun v σ H Q => Q (σ.set i (some v)) H
theorem pg_name {i : Nat} {x : Str} (hN : X.N.Nodup) (hi : X.N[i]? = some x) (hx : Loc X.env.scope x) (hf : autoParam (X.fn x = true ∨ X.env.scope.names.lookup x = some .local) L2.aFst._auto_1) : PG X (.Name x pos) (gName i) := by
  intro pins s σ H v u Q I r h
  exact wpAny_assign_Name (store_ok I hN hi hx r (fun s' I' => ⟨_, H, I', h⟩) hf)
noncomputable def gNil : TGs := fun vs σ H Q => vs = [] ∧ Q σ H
noncomputable def gCons (t : TG) (u : TGs) : TGs := fun vs σ H Q => ∃ v r, vs = v :: r ∧ t v σ H fun σ' H' => u r σ' H' Q
theorem pgs_nil : PGs X [] gNil := by
  intro pins s σ H vs us Q I r h
  obtain ⟨e, h⟩ := h
  subst e
  cases r
  exact assignInOrder_nil ⟨σ, H, I, h⟩
theorem pgs_cons {e : Expr} {es : List Expr} {t : TG} {u : TGs} (h1 : PG X e t) (h2 : PGs X es u)
    (hs : autoParam ((assignEach (e :: es) X.env).map (·.2) = assign e X.env :: (assignEach es X.env).map (·.2)) L2.aRfl._auto_1) : PGs X (e :: es) (gCons t u) := by
  intro pins s σ H vs us Q I r h
  obtain ⟨v, vr, e1, h⟩ := h
  subst e1
  cases r with
  | cons r rr =>
    rw [hs]
    refine assignInOrder_cons (thn (h1 pins s σ H _ _ _ I r h) fun _ s1 ⟨σ1, H1, I1, q1⟩ => ?_)
    exact h2 pins s1 σ1 H1 _ _ Q I1 rr q1
noncomputable def gTup (K : PySem.W.Frag) (n : Nat) (t : TGs) : TG := fun v σ H Q => ∃ a xs, v = .ref a ∧ SqT K H a xs ∧ xs.length = n ∧ t xs σ H Q
theorem pg_tup {es : List Expr} {k : Nat} {t : TGs} {n : Nat} (hc : X.calm = true) (h : PGs X es t)
    (hn : autoParam ((assignEach es X.env).length = n) L2.aRfl._auto_1) (hst : autoParam ((assignEach es X.env).findIdx? (·.1) = none) L2.aRfl._auto_1) : PG X (.Tuple es k pos) (gTup X.K n t) := by
  intro pins s σ H v u Q I r hw
  obtain ⟨a, xs, e1, hq, hl, hw⟩ := hw
  subst e1
  cases r
  obtain ⟨its, rv, ht, hz⟩ := I.tuple hq
  refine assign_Tuple_tuple (I.ok.hd hc) ht (by simp [hn, ← hl, rv.length]) hst fun h' hx => ?_
  have I1 : Inv X pins σ H { s with heap := h' } := I.kept (t' := s.toks) fun b o e => hx b o (Nat.ne_of_lt (Heap.lt_size e)) e
  exact h pins _ σ H xs _ Q I1 (by simpa using rv) hw
noncomputable def tAsg (te : TE) (g : TG) : TS := fun D σ H => te σ H fun x H1 => g x σ H1 D.nx
theorem ps_asg {tg e : Expr} {te : TE} {g : TG} (he : PE X e te) (hg : PG X tg g) (hs : autoParam (swapsWithSole [tg] e pos.line X.env = pure false) L2.aRfl._auto_1) (hw : autoParam (swappedStores [tg] e X.env = pure none) L2.aRfl._auto_1)
    (h1 : autoParam ((assignEach [tg] X.env).map (·.2) = [assign tg X.env]) L2.aRfl._auto_1) : PS X (.Assign [tg] e pos) (tAsg te g) := by
  intro pins s σ H D I h
  refine wpAny_Assign_stores (thn (he pins s σ H _ I h) fun v s1 ⟨x, H1, I1, r1, q1⟩ => ?_) hs hw
  rw [h1]
  exact thn (hg pins s1 σ H1 x v _ I1 r1 q1) fun _ s2 q => q
theorem ps_set {i : Nat} {x : Str} {e : Expr} {te : TE} {pos' : Pos} (hN : X.N.Nodup) (hi : X.N[i]? = some x) (hx : Loc X.env.scope x) (he : PE X e te) (hs : autoParam (swapsWith e (some (.Name x pos')) pos.line X.env = pure false) L2.aRfl._auto_1) (hf : autoParam (X.fn x = true ∨ X.env.scope.names.lookup x = some .local) L2.aFst._auto_1) :
    PS X (.Assign [.Name x pos'] e pos) (tAsg te (gName i)) := by
  intro pins s σ H D I h
  refine wpAny_Assign_Name (thn (he pins s σ H _ I h) fun v s1 ⟨y, H1, I1, r1, q1⟩ => ?_) hs
  exact store_ok I1 hN hi hx r1 (fun s2 I2 => ⟨_, H1, I2, q1⟩) hf
end
section
variable {X : Cx} {pos : Pos}
end
structure It where
  go : Nat → Hp → Prop
  yld : Nat → Hp → V → Hp → Prop
  stop : Nat → Hp → Prop
noncomputable def FpOk (X : Cx) (pins : List (Addr × Obj)) (H : Hp) (b : Addr) : Prop :=
  H b = none ∧ b ≠ X.env.locals ∧ b ∉ X.fs ∧ (b ∈ X.ex ∨ X.s₀.heap.objs.size ≤ b) ∧ (∀ x c, X.env.cells.lookup x = some c → c ≠ b) ∧ ∀ p ∈ X.pn ++ pins, p.1 ≠ b
theorem Inv.fpOk {X : Cx} {pins : List (Addr × Obj)} {σ : St} {H H' : Hp} {s : Shared} {b : Addr} (I : Inv X pins σ H s) (hb : s.heap.objs.size ≤ b) (hn : H' b = none) : FpOk X pins H' b := by
  refine ⟨hn, Nat.ne_of_gt (Nat.lt_of_lt_of_le I.lt hb), I.nofs hb, .inr (Nat.le_trans I.sz hb), fun x c e z => ?_, fun p hp z => ?_⟩
  · obtain ⟨v, q⟩ := I.cell x c e
    exact absurd (Nat.lt_of_lt_of_le q.lt (by rw [z]; exact hb)) (Nat.lt_irrefl _)
  · exact absurd (Nat.lt_of_lt_of_le (Heap.lt_size (I.pin p hp).1) (by rw [z]; exact hb)) (Nat.lt_irrefl _)
structure Turn (P : Program) (w : World) (K : PySem.W.Frag) (tg : Expr) (J : It) (fp : List Addr) (it : Addr) (tn : Nat → Heap → Prop) : Prop where
  mem : it ∈ fp
  obj : ∀ i h, tn i h → ∀ b ∈ fp, ∃ o, h.get? b = some o ∧ ∀ v, o.data ≠ .cell v
  keep : ∀ i h h', tn i h → (∀ b ∈ fp, ∀ o, h.get? b = some o → h'.get? b = some o) → tn i h'
  item : ∀ (X : Cx), X.prog = P → X.w = w → X.K = K → X.calm = true → ∀ (i : Nat) (pins : List (Addr × Obj)) (s : Shared) (σ : St) (H : Hp) (E : Value → Shared → Prop), Inv X pins σ H s → (∀ b ∈ fp, FpOk X pins H b) → tn i s.heap → J.go i H →
    wpAny (model P w) X.A (pyNext (.ref it)) (fun r s1 => ∃ u, r = some u ∧
      wpAny (model P w) X.A (letOwnedTupleGo tg (.ref it) u) (fun _ s2 => ∃ x H', Inv X pins σ H' s2 ∧ RelV x u ∧ J.yld i H x H' ∧ tn (i + 1) s2.heap ∧ ∀ b ∈ fp, H' b = none) E s1) E s
  done : ∀ (X : Cx), X.prog = P → X.w = w → X.K = K → X.calm = true → ∀ (i : Nat) (pins : List (Addr × Obj)) (s : Shared) (σ : St) (H : Hp) (E : Value → Shared → Prop), Inv X pins σ H s → (∀ b ∈ fp, FpOk X pins H b) → tn i s.heap → J.stop i H →
    wpAny (model P w) X.A (pyNext (.ref it)) (fun r s1 => r = none ∧ Inv X pins σ H s1) E s
  self : ∀ (A : Around) (i : Nat) (s : Shared) (Q : Value → Shared → Prop) (E : Value → Shared → Prop), tn i s.heap → Q (.ref it) s → wpAny (model P w) A (pyIter (.ref it)) Q E s
noncomputable abbrev TI := St → Hp → (It → Hp → Prop) → Prop
noncomputable def PIE (X : Cx) (pins : List (Addr × Obj)) (σ : St) (tg : Expr) (R : It → Hp → Prop) (itv : Value) (s2 : Shared) : Prop :=
  ∃ (it : Addr) (fp : List Addr) (tn : Nat → Heap → Prop) (J : It) (H' : Hp), itv = .ref it ∧ Inv X pins σ H' s2 ∧ Turn X.prog X.w X.K tg J fp it tn ∧ tn 0 s2.heap ∧ (∀ b ∈ fp, FpOk X pins H' b) ∧ R J H'
noncomputable def PI (X : Cx) (tg iter : Expr) (wi : TI) : Prop :=
  ∀ (pins : List (Addr × Obj)) (s : Shared) (σ : St) (H : Hp) (R : It → Hp → Prop), Inv X pins σ H s → wi σ H R →
    wpAny (model X.prog X.w) X.A (eval iter X.env) (fun v s1 => wpAny (model X.prog X.w) X.A (pyIter v) (PIE X pins σ tg R) X.xe s1) X.xe s
theorem go_of {M : Model} {A : Around} {E : Value → Shared → Prop} {s : Shared} {tg : Expr} {it : Addr} {u : Value} {o : Obj} {n : String} {vs : Array Value} {Q : Unit → Shared → Prop} (ho : s.heap.get? it = some o) (hc : o.cls = .type n) (hd : o.data = .fields vs)
    (hn : ["enumerate", "zip", "dict_itemiterator", "dict_reverseitemiterator", "odict_iterator", "itertools.zip_longest", "itertools.pairwise"].contains n = false) (hQ : Q () s) : wpAny M A (letOwnedTupleGo tg (.ref it) u) Q E s := by
  unfold letOwnedTupleGo
  cases tg <;> first
    | exact wpAny_pure hQ
    | (cases u <;> first
        | exact wpAny_pure hQ
        | (refine wpAny_bind (wpAny_load ho ?_)
           rw [hc, hd]
           show wpAny M A (if (["enumerate", "zip", "dict_itemiterator", "dict_reverseitemiterator", "odict_iterator", "itertools.zip_longest", "itertools.pairwise"].contains n && vs[0]? == some (rawInt _)) = true then _ else _) Q E s
           rw [if_neg (by intro h; rw [hn, Bool.false_and] at h; cases h)]
           exact wpAny_pure hQ))
noncomputable def Itl (K : PySem.W.Frag) (a : Addr) : It :=
  ⟨fun i H => ∃ xs x, SqL K H a xs ∧ xs[i]? = some x, fun i H x H' => H' = H ∧ ∀ xs, SqL K H a xs → xs[i]? = some x, fun i H => ∃ xs, SqL K H a xs ∧ xs.length ≤ i⟩
noncomputable def Itr (lo : Int) (n : Nat) : It := ⟨fun i _ => i < n, fun i H x H' => H' = H ∧ x = .int (lo + i), fun i _ => n ≤ i⟩
theorem turn_list {P : Program} {w : World} {K : PySem.W.Frag} {tg : Expr} (a it : Addr) : Turn P w K tg (Itl K a) [it] it (fun i h => h.IsListIter it a i) where
  mem := by simp
  obj := fun i h st b hb => by
    have e : b = it := by simpa using hb
    subst e
    obtain ⟨o, e, c, d⟩ := st
    exact ⟨o, e, fun v z => by rw [d] at z; cases z⟩
  keep := fun i h h' st k => st.at fun o e => k it (by simp) o e
  item := by
    intro X hP hw hK hc i pins s σ H E I hf st hg
    subst hP hw hK
    obtain ⟨xs, x, hq, hx⟩ := hg
    obtain ⟨its, rv, p, hz⟩ := I.list hq
    obtain ⟨u, hu, ru⟩ := rv.get hx
    obtain ⟨f0, f1, f2, f3, f4, f5⟩ := hf it (by simp)
    refine wpAny_pyNext_list_item st p.isList (x := u) (by simpa using hu) fun h' st' sb => ?_
    have I1 : Inv X pins σ H { s with heap := h' } := I.turned (t' := s.toks) (fun b o hb e => (sb.2 b hb).trans e) f0 f1 f3 f4 f5
    obtain ⟨o, e, c, d⟩ := id st'
    exact ⟨u, rfl, go_of (s := { s with heap := h' }) e c d (by decide) ⟨x, H, I1, ru, ⟨rfl, fun ys hy => by rw [I.list_inj hy hq]; exact hx⟩, st', fun b hb => (hf b hb).1⟩⟩
  done := by
    intro X hP hw hK hc i pins s σ H E I hf st hg
    subst hP hw hK
    obtain ⟨xs, hq, hx⟩ := hg
    obtain ⟨its, rv, p, hz⟩ := I.list hq
    obtain ⟨f0, f1, f2, f3, f4, f5⟩ := hf it (by simp)
    have hl := rv.length
    exact wpAny_pyNext_list_end (I.ok.hd hc) st p.isList (by simp; omega) fun h' eb => ⟨rfl, I.turned (t' := s.toks) (fun b o hb e => eb b o hb e) f0 f1 f3 f4 f5⟩
  self := fun _ _ _ _ _ st h => wpAny_pyIter_listiter st h
theorem turn_range {P : Program} {w : World} {K : PySem.W.Frag} {tg : Expr} (it : Addr) (lo : Int) (n : Nat) : Turn P w K tg (Itr lo n) [it] it (fun i h => IsRangeIter h it (lo + (i : Nat) * 1) ((n : Int) - (i : Nat)) 1) where
  mem := by simp
  obj := fun i h st b hb => by
    have e : b = it := by simpa using hb
    subst e
    exact ⟨_, st, fun v z => by
      have z' : Data.fields _ = Data.cell v := z
      cases z'⟩
  keep := fun i h h' st k => k it (by simp) _ st
  item := by
    intro X hP hw hK hc i pins s σ H E I hf st hg
    subst hP hw hK
    obtain ⟨f0, f1, f2, f3, f4, f5⟩ := hf it (by simp)
    have W := Walks.range (prog := X.prog) (w := X.w) (I.ok.hd hc) it lo 1 n
    refine W.item i s _ _ hg st fun v h' tk hv st' kk => ?_
    obtain ⟨t, rfl⟩ := hv
    have I1 : Inv X pins σ H { s with heap := h', toks := tk } := I.turned (fun b o hb e => kk b o (by simpa using hb) e) f0 f1 f3 f4 f5
    refine ⟨_, rfl, go_of (s := { s with heap := h', toks := tk }) (n := "range_iterator") st' rfl rfl (by decide) ⟨.int (lo + i), H, I1, ⟨t, ?_⟩, ⟨rfl, rfl⟩, st', fun b hb => (hf b hb).1⟩⟩
    rw [Int.mul_one]
  done := by
    intro X hP hw hK hc i pins s σ H E I hf st hg
    subst hP hw hK
    obtain ⟨f0, f1, f2, f3, f4, f5⟩ := hf it (by simp)
    exact wpAny_pyNext_range_end (I.ok.hd hc) st (by have : n ≤ i := hg; omega) fun h' eb => ⟨rfl, I.turned (t' := s.toks) (fun b o hb e => eb b o hb e) f0 f1 f3 f4 f5⟩
  self := fun _ _ _ _ _ st h => wpAny_pyIter_rangeiter st h
end L2
namespace L2
open PySem PySem.Spec PyProof.Rows
section
variable {X : Cx} {tg : Expr}
noncomputable def iList (K : PySem.W.Frag) (tl : TE) : TI := fun σ H R => tl σ H fun x H1 => ∃ a, x = .ref a ∧ (∃ xs, SqL K H1 a xs) ∧ R (Itl K a) H1
theorem pi_list {l : Expr} {tl : TE} (hl : PE X l tl) : PI X tg l (iList X.K tl) := by
  intro pins s σ H R I h
  refine thn (hl pins s σ H _ I h) fun v s1 ⟨x, H1, I1, r1, q1⟩ => ?_
  obtain ⟨a, e, ⟨xs, hq⟩, q⟩ := q1
  subst e
  cases r1
  obtain ⟨its, rv, p, hz⟩ := I1.list hq
  refine wpAny_pyIter_list p.isList ?_
  refine ⟨s1.heap.objs.size, [s1.heap.objs.size], _, _, H1, rfl, I1.kept (t' := s1.toks) fun b o e => Heap.get?_push_of_some _ e, turn_list a _, ⟨_, Heap.get?_push_size _ rfl, rfl, rfl⟩, fun b hb => ?_, q⟩
  have e : b = s1.heap.objs.size := by simpa using hb
  subst e
  exact I1.fpOk (Nat.le_refl _) (I1.hok.fresh (Nat.le_refl _))
theorem range_it {pins : List (Addr × Obj)} {σ : St} {H : Hp} {s : Shared} {R : It → Hp → Prop} {E : Value → Shared → Prop} {lo hi : Int} {t u v : Tok} {tk : Nat} (I : Inv X pins σ H s) (h1 : -(2 ^ 62) ≤ lo) (h2 : lo < 2 ^ 62) (h3 : -(2 ^ 62) ≤ hi) (h4 : hi < 2 ^ 62)
    (q : R (Itr lo (hi - lo).toNat) H) : wpAny (model X.prog X.w) X.A (pyIter (.ref s.heap.objs.size)) (PIE X pins σ tg R) E { s with heap := s.heap.push { cls := .type "range", data := .fields #[.int lo t, .int hi u, .int 1 v] }, toks := tk } := by
  refine wpAny_pyIter_range (IsRange.new ..) (small_one h1 h2 h3 h4) ?_
  have I1 : Inv X pins σ H { s with heap := s.heap.push { cls := .type "range", data := .fields #[.int lo t, .int hi u, .int 1 v] }, toks := tk } := I.kept fun b o e => Heap.get?_push_of_some _ e
  refine ⟨(s.heap.push { cls := .type "range", data := .fields #[.int lo t, .int hi u, .int 1 v] }).objs.size, [(s.heap.push { cls := .type "range", data := .fields #[.int lo t, .int hi u, .int 1 v] }).objs.size], _, _, H, rfl,
    I1.kept (t' := tk) fun b o e => Heap.get?_push_of_some _ e, turn_range _ lo (hi - lo).toNat, ?_, fun b hb => ?_, q⟩
  · have e1 : lo + ((0 : Nat) : Int) * 1 = lo := by simp
    have e2 : (((hi - lo).toNat : Nat) : Int) - ((0 : Nat) : Int) = Builtin.Range.rangeSize lo hi 1 := by rw [rangeSize_one]; split <;> omega
    show IsRangeIter _ _ (lo + ((0 : Nat) : Int) * 1) ((((hi - lo).toNat : Nat) : Int) - ((0 : Nat) : Int)) 1
    rw [e1, e2]
    exact Heap.get?_push_size _ rfl
  · have e : b = (s.heap.push { cls := .type "range", data := .fields #[.int lo t, .int hi u, .int 1 v] }).objs.size := by simpa using hb
    subst e
    exact I1.fpOk (Nat.le_refl _) (I1.hok.fresh (Nat.le_refl _))
noncomputable def iRng1 (ta : TA) : TI := fun σ H R => ta σ H fun vs H1 => ∃ j : Int, vs = [.int j] ∧ -(2 ^ 62) ≤ j ∧ j < 2 ^ 62 ∧ R (Itr 0 j.toNat) H1
theorem pi_range1 {a : Expr} {ta : TA} {p pos : Pos} (hg : Gl X "range") (hm : X.mg "range" = none) (ha : PA X [a] ta) (hs : autoParam (starEach [a] X.env = [(false, eval a X.env)]) L2.aRfl._auto_1) : PI X tg (.Call (.Name "range" p) [a] [] pos) (iRng1 ta) := by
  intro pins s σ H R I h
  refine Call_ (ld_blt I hg hm boot_range (PyProof.Rows.callWith_type1 (thn (ha pos pins s σ H _ I h) fun us s1 ⟨vs, H1, I1, r1, q1⟩ => ?_) hs rfl))
  obtain ⟨j, e, q1, q2, q⟩ := q1
  subst e
  cases r1 with
  | cons r rr =>
    cases rr
    obtain ⟨t, rfl⟩ := r
    exact call_range_1 (range_it I1 (by omega) (by omega) q1 q2 (by simpa using q))
noncomputable def tFor (wi : TI) (g : TG) (tb : TS) : TS := fun D σ H => wi σ H fun J H1 => ∃ W : Nat → Nat → St → Hp → Prop, (∃ m, W 0 m σ H1) ∧ ∀ i m σ H, W i m σ H →
  (J.stop i H ∧ D.nx σ H) ∨ (J.go i H ∧ ∃ N : St → Hp → Prop, (∀ σ' H', N σ' H' → ∃ m', m' < m ∧ W (i + 1) m' σ' H') ∧ ∀ x H', J.yld i H x H' → g x σ H' fun σ2 H2 => tb { D with nx := N, ct := N, bk := D.nx } σ2 H2)
noncomputable def pinsAt (fp : List Addr) (h : Heap) : List (Addr × Obj) := fp.filterMap fun b => (h.get? b).map fun o => (b, o)
theorem mem_pinsAt {fp : List Addr} {h : Heap} {b : Addr} {o : Obj} (hb : b ∈ fp) (e : h.get? b = some o) : (b, o) ∈ pinsAt fp h := List.mem_filterMap.mpr ⟨b, hb, by rw [e]; rfl⟩
theorem of_pinsAt {fp : List Addr} {h : Heap} {p : Addr × Obj} (hp : p ∈ pinsAt fp h) : p.1 ∈ fp ∧ h.get? p.1 = some p.2 := by
  obtain ⟨b, hb, e⟩ := List.mem_filterMap.mp hp
  cases q : h.get? b with
  | none => rw [q] at e; cases e
  | some o =>
    rw [q] at e
    have e' : (b, o) = p := Option.some.inj e
    subst e'
    exact ⟨hb, q⟩
theorem Inv.pinned {pins : List (Addr × Obj)} {σ : St} {H : Hp} {s : Shared} {fp : List Addr} (I : Inv X pins σ H s) (hf : ∀ b ∈ fp, FpOk X pins H b) (ho : ∀ b ∈ fp, ∃ o, s.heap.get? b = some o ∧ ∀ v, o.data ≠ .cell v) : Inv X (pins ++ pinsAt fp s.heap) σ H s :=
  I.pins_of fun p hp => (List.mem_append.mp hp).elim (fun z => I.pin p (List.mem_append_right _ z)) fun z => by
    obtain ⟨hb, e⟩ := of_pinsAt z
    obtain ⟨f0, f1, f2, _⟩ := hf p.1 hb
    obtain ⟨o, e', d⟩ := ho p.1 hb
    rw [e] at e'; cases e'
    exact ⟨e, f0, f1, f2, d⟩
theorem Inv.unpinned {pins pl : List (Addr × Obj)} {σ : St} {H : Hp} {s : Shared} (I : Inv X (pins ++ pl) σ H s) : Inv X pins σ H s := I.pins_of fun p hp => I.pin p (List.mem_append_right _ (List.mem_append_left _ hp))
theorem ps_for {iter : Expr} {body : List Stmt} {wi : TI} {g : TG} {tb : TS} {pos : Pos} (hp : PassesOwn (model X.prog X.w) X.A X.env X.xe) (hc : X.calm = true) (hi : PI X tg iter wi) (hg : PG X tg g) (hb : PSs X body tb)
    (hs : autoParam (∀ x, foldedSetIterable iter X.env x = pure x) L2.aIrf._auto_1) : PS X (.For tg iter body [] pos) (tFor wi g tb) := by
  intro pins s σ H D I h
  refine wpAny_For (thn (hi pins s σ H _ I h) fun v s1 h1 => thn h1 fun itv s2 h2 => ?_) hs
  obtain ⟨it, fp, tn, J, H2, e, I2, T, st2, f2, W, ⟨m0, w0⟩, turn⟩ := h2
  subst e
  -- what stays true of the iterator's objects through the loop
  have stat : ∀ {H' : Hp}, (∀ b ∈ fp, H' b = none) → ∀ b ∈ fp, FpOk X pins H' b := fun hn b hb => ⟨hn b hb, (f2 b hb).2⟩
  refine codeAny_forLoop_any (fun n s' => ∃ i σ' H', Inv X pins σ' H' s' ∧ tn i s'.heap ∧ (∀ b ∈ fp, H' b = none) ∧ W i n σ' H') ?_ m0 ⟨0, σ, H2, I2, st2, fun b hb => (f2 b hb).1, w0⟩
  rintro n s3 ⟨i, σ3, H3, I3, st3, fr3, w3⟩
  rcases turn i n σ3 H3 w3 with ⟨stop, qn⟩ | ⟨go, N, hN, step⟩
  · refine wpAny_passesOwn hp (thn (T.done X rfl rfl rfl hc i pins s3 σ3 H3 X.xe I3 (stat fr3) st3 stop) fun r s4 ⟨hr, I4⟩ => ?_)
    subst hr
    exact wpAny_execs_nil ⟨σ3, H3, I4, qn⟩
  · refine wpAny_passesOwn hp (thn (T.item X rfl rfl rfl hc i pins s3 σ3 H3 X.xe I3 (stat fr3) st3 go) fun r s4 ⟨u, hr, h4⟩ => ?_)
    subst hr
    refine wpAny_passesOwn hp (thn h4 fun _ s5 ⟨x, H5, I5, r5, y5, st5, fr5⟩ => ?_)
    have I5' := I5.pinned (stat fr5) (T.obj _ _ st5)
    refine wpAny_passesOwn hp (thn (hg _ s5 σ3 H5 x u _ I5' r5 (step x H5 y5)) fun _ s6 ⟨σ6, H6, I6, q6⟩ => ?_)
    refine wpAny_passesOwn hp (thn (hb _ s6 σ6 H6 _ I6 q6) fun f s7 q7 => ?_)
    have again : ∀ {σ7 : St} {H7 : Hp}, Inv X (pins ++ pinsAt fp s5.heap) σ7 H7 s7 → N σ7 H7 → ∃ m, m < n ∧ ∃ i σ' H', Inv X pins σ' H' s7 ∧ tn i s7.heap ∧ (∀ b ∈ fp, H' b = none) ∧ W i m σ' H' := fun {σ7 H7} I7 n7 => by
      obtain ⟨m', hm, w7⟩ := hN σ7 H7 n7
      refine ⟨m', hm, i + 1, σ7, H7, I7.unpinned, T.keep _ _ _ st5 fun b hb o e => (I7.pin (b, o) (List.mem_append_right _ (List.mem_append_right _ (mem_pinsAt hb e)))).1, fun b hb => ?_, w7⟩
      obtain ⟨o, e, d⟩ := T.obj _ _ st5 b hb
      exact (I7.pin (b, o) (List.mem_append_right _ (List.mem_append_right _ (mem_pinsAt hb e)))).2.1
    cases f with
    | next => obtain ⟨σ7, H7, I7, n7⟩ := q7; exact again I7 n7
    | cont => obtain ⟨σ7, H7, I7, n7⟩ := q7; exact again I7 n7
    | brk => obtain ⟨σ7, H7, I7, q7⟩ := q7; exact ⟨σ7, H7, I7.unpinned, q7⟩
    | ret v => obtain ⟨x7, σ7, H7, I7, r7, q7⟩ := q7; exact ⟨x7, σ7, H7, I7.unpinned, r7, q7⟩
end
theorem for_list {K : PySem.W.Frag} {a : Addr} {xs : List V} {g : TG} {tb : TS} {D : Ends} {σ : St} {H : Hp} (Pv : Nat → St → Hp → Prop) (h0 : Pv 0 σ H) (hl : ∀ i σ H, i ≤ xs.length → Pv i σ H → SqL K H a xs)
    (hs : ∀ i x σ H, xs[i]? = some x → Pv i σ H → g x σ H fun σ2 H2 => tb { D with nx := Pv (i + 1), ct := Pv (i + 1), bk := D.nx } σ2 H2) (hd : ∀ σ H, Pv xs.length σ H → D.nx σ H) :
    ∃ W : Nat → Nat → St → Hp → Prop, (∃ m, W 0 m σ H) ∧ ∀ i m σ H, W i m σ H →
      ((Itl K a).stop i H ∧ D.nx σ H) ∨ ((Itl K a).go i H ∧ ∃ N : St → Hp → Prop, (∀ σ' H', N σ' H' → ∃ m', m' < m ∧ W (i + 1) m' σ' H') ∧ ∀ x H', (Itl K a).yld i H x H' → g x σ H' fun σ2 H2 => tb { D with nx := N, ct := N, bk := D.nx } σ2 H2) := by
  refine ⟨fun i m σ H => m = xs.length - i ∧ i ≤ xs.length ∧ Pv i σ H, ⟨xs.length, by simp, Nat.zero_le _, h0⟩, ?_⟩
  rintro i m σ H ⟨rfl, hi, p⟩
  have q := hl i σ H hi p
  by_cases hlt : i < xs.length
  · refine .inr ⟨⟨xs, xs[i], q, by simp [hlt]⟩, Pv (i + 1), fun σ' H' p' => ⟨xs.length - (i + 1), by omega, rfl, hlt, p'⟩, fun x H' y => ?_⟩
    obtain ⟨e, y⟩ := y
    subst e
    exact hs i x σ _ (y xs q) p
  · have e : i = xs.length := by omega
    subst e
    exact .inl ⟨⟨xs, q, Nat.le_refl _⟩, hd σ H p⟩
theorem for_range {lo : Int} {n : Nat} {g : TG} {tb : TS} {D : Ends} {σ : St} {H : Hp} (Pv : Nat → St → Hp → Prop) (h0 : Pv 0 σ H)
    (hs : ∀ i σ H, i < n → Pv i σ H → g (.int (lo + i)) σ H fun σ2 H2 => tb { D with nx := Pv (i + 1), ct := Pv (i + 1), bk := D.nx } σ2 H2) (hd : ∀ σ H, Pv n σ H → D.nx σ H) :
    ∃ W : Nat → Nat → St → Hp → Prop, (∃ m, W 0 m σ H) ∧ ∀ i m σ H, W i m σ H →
      ((Itr lo n).stop i H ∧ D.nx σ H) ∨ ((Itr lo n).go i H ∧ ∃ N : St → Hp → Prop, (∀ σ' H', N σ' H' → ∃ m', m' < m ∧ W (i + 1) m' σ' H') ∧ ∀ x H', (Itr lo n).yld i H x H' → g x σ H' fun σ2 H2 => tb { D with nx := N, ct := N, bk := D.nx } σ2 H2) := by
  refine ⟨fun i m σ H => m = n - i ∧ i ≤ n ∧ Pv i σ H, ⟨n, by simp, Nat.zero_le _, h0⟩, ?_⟩
  rintro i m σ H ⟨rfl, hi, p⟩
  by_cases hlt : i < n
  · refine .inr ⟨hlt, Pv (i + 1), fun σ' H' p' => ⟨n - (i + 1), by omega, rfl, hlt, p'⟩, fun x H' y => ?_⟩
    obtain ⟨e, y⟩ := y
    subst e y
    exact hs i σ _ hlt p
  · have e : i = n := by omega
    subst e
    exact .inl ⟨Nat.le_refl _, hd σ H p⟩
end L2
namespace L2
open PySem PySem.Spec PyProof.Rows
noncomputable abbrev R2 := V → V → Hp → VK → Prop
noncomputable def OpR (X : Cx) (f : Value → Value → Sem Value) (r : R2) : Prop :=
  ∀ (pins : List (Addr × Obj)) (s : Shared) (σ : St) (H : Hp) (x y : V) (v u : Value) (Q : VK), Inv X pins σ H s → RelV x v → RelV y u → r x y H Q →
    wpAny (model X.prog X.w) X.A (f v u) (EP X pins σ Q) X.xe s
noncomputable def CallR (X : Cx) (f : Value) (r : List V → Hp → VK → Prop) : Prop :=
  ∀ (pins : List (Addr × Obj)) (s : Shared) (σ : St) (H : Hp) (xs : List V) (us : List Value) (Q : VK), Inv X pins σ H s → Vals xs us → r xs H Q →
    wpAny (model X.prog X.w) X.A (call f us) (EP X pins σ Q) X.xe s
noncomputable def tOp (r : R2) (ta tb : TE) : TE := fun σ H Q => ta σ H fun x H1 => tb σ H1 fun y H2 => r x y H2 Q
noncomputable def rI (C : Int → Int → Prop) (g : Int → Int → V) : R2 := fun x y H Q => ∃ i j, x = .int i ∧ y = .int j ∧ C i j ∧ Q (g i j) H
noncomputable def rI0 (g : Int → Int → V) : R2 := fun x y H Q => ∃ i j, x = .int i ∧ y = .int j ∧ Q (g i j) H
section
variable {X : Cx} {a b c : Expr} {ta tb tc : TE} {pos : Pos}
theorem binT (ha : PE X a ta) (hb : PE X b tb) {pins : List (Addr × Obj)} {s : Shared} {σ : St} {H : Hp} {R : V → V → Hp → Prop} (I : Inv X pins σ H s)
    (h : ta σ H fun x H1 => tb σ H1 fun y H2 => R x y H2) {Q : Value → Shared → Prop} {f : Value → Value → Sem Value}
    (hf : ∀ v u s2 x y H2, Inv X pins σ H2 s2 → RelV x v → RelV y u → R x y H2 → wpAny (model X.prog X.w) X.A (f v u) Q X.xe s2) :
    wpAny (model X.prog X.w) X.A (eval a X.env) (fun v s₁ => wpAny (model X.prog X.w) X.A (eval b X.env) (fun u s₂ => wpAny (model X.prog X.w) X.A (f v u) Q X.xe s₂) X.xe s₁) X.xe s := by
  refine thn (ha pins s σ H _ I h) fun v s1 ⟨x, H1, I1, r1, q1⟩ => ?_
  refine thn (hb pins s1 σ H1 _ I1 q1) fun u s2 ⟨y, H2, I2, r2, q2⟩ => ?_
  exact hf v u s2 x y H2 I2 r1 r2 q2
theorem pe_op {op : Operator} {r : R2} (ho : OpR X (binaryOp op) r) (ha : PE X a ta) (hb : PE X b tb) : PE X (.BinOp a op b pos) (tOp r ta tb) := by
  intro pins s σ H Q I h
  exact wpAny_BinOp (binT ha hb I h fun v u s2 x y H2 I2 rx ry q => ho pins s2 σ H2 x y v u Q I2 rx ry q)
theorem opI {f : Value → Value → Sem Value} {C : Int → Int → Prop} {g : Int → Int → Int}
    (rule : ∀ (i j : Int) (t u : Tok) (s : Shared) (Q : Value → Shared → Prop) (E : Value → Shared → Prop), C i j → Q (.int (g i j) s.toks) { s with toks := s.toks + 1 } → wpAny (model X.prog X.w) X.A (f (.int i t) (.int j u)) Q E s) :
    OpR X f (rI C fun i j => .int (g i j)) := by
  intro pins s σ H x y v u Q I rx ry h
  obtain ⟨i, j, rfl, rfl, hc, q⟩ := h
  obtain ⟨t, rfl⟩ := rx
  obtain ⟨t', rfl⟩ := ry
  exact rule i j t t' s _ _ hc ⟨.int (g i j), H, I.tok _, ⟨_, rfl⟩, q⟩
theorem opI0 {f : Value → Value → Sem Value} {g : Int → Int → Int}
    (rule : ∀ (i j : Int) (t u : Tok) (s : Shared) (Q : Value → Shared → Prop) (E : Value → Shared → Prop), Q (.int (g i j) s.toks) { s with toks := s.toks + 1 } → wpAny (model X.prog X.w) X.A (f (.int i t) (.int j u)) Q E s) :
    OpR X f (rI0 fun i j => .int (g i j)) := by
  intro pins s σ H x y v u Q I rx ry h
  obtain ⟨i, j, rfl, rfl, q⟩ := h
  obtain ⟨t, rfl⟩ := rx
  obtain ⟨t', rfl⟩ := ry
  exact rule i j t t' s _ _ ⟨.int (g i j), H, I.tok _, ⟨_, rfl⟩, q⟩
theorem opB0 {f : Value → Value → Sem Value} {g : Int → Int → Bool}
    (rule : ∀ (i j : Int) (t u : Tok) (s : Shared) (Q : Value → Shared → Prop) (E : Value → Shared → Prop), Q (.bool (g i j)) s → wpAny (model X.prog X.w) X.A (f (.int i t) (.int j u)) Q E s) :
    OpR X f (rI0 fun i j => .bl (g i j)) := by
  intro pins s σ H x y v u Q I rx ry h
  obtain ⟨i, j, rfl, rfl, q⟩ := h
  obtain ⟨t, rfl⟩ := rx
  obtain ⟨t', rfl⟩ := ry
  exact rule i j t t' s _ _ ⟨.bl (g i j), H, I, rfl, q⟩
noncomputable def CDiv (i j : Int) : Prop := 0 < j ∧ j < 1073741824
noncomputable def CPow (i j : Int) : Prop := 0 ≤ j ∧ j ≤ 1000000 ∧ i.natAbs < 2 ^ 64
noncomputable def CMul (i j : Int) : Prop := (-(2 ^ 64) < i ∧ i < 2 ^ 64) ∨ (-(2 ^ 64) < j ∧ j < 2 ^ 64)
theorem CMul.ok {i j : Int} (h : CMul i j) : IntMulOk i j := by
  rcases h with ⟨h1, h2⟩ | ⟨h1, h2⟩
  · exact .of_left (intBits_le_64 h1 h2)
  · exact .of_right (intBits_le_64 h1 h2)
theorem op_add : OpR X (binaryOp .Add) (rI0 fun i j => .int (i + j)) := opI0 fun _ _ _ _ _ _ _ q => add_int q
theorem op_sub : OpR X (binaryOp .Sub) (rI0 fun i j => .int (i - j)) := opI0 fun _ _ _ _ _ _ _ q => sub_int q
theorem op_mul : OpR X (binaryOp .Mult) (rI CMul fun i j => .int (i * j)) := opI fun _ _ _ _ _ _ _ hc q => mul_int q hc.ok
theorem op_fdiv : OpR X (binaryOp .FloorDiv) (rI CDiv fun i j => .int (i / j)) := opI fun i j _ _ _ _ _ hc q => by
  have h1 : (0 : Int) < j := hc.1
  have h2 : j < 1073741824 := hc.2
  exact floordiv_int (by omega) (by rw [Int.fdiv_eq_ediv_of_nonneg i (by omega)]; exact q) (.inl (PyProof.noPylong_small (by omega)))
theorem op_mod : OpR X (binaryOp .Mod) (rI (fun _ j => 0 < j) fun i j => .int (i % j)) := opI fun i j _ _ _ _ _ hc q => by
  have h1 : (0 : Int) < j := hc
  exact mod_int' (by omega) (by rw [Int.fmod_eq_emod_of_nonneg i (by omega)]; exact q)
theorem op_pow : OpR X (binaryOp .Pow) (rI CPow fun i j => .int (i ^ j.toNat)) := opI fun _ _ _ _ _ _ _ hc q => pow_int_small hc.1 hc.2.1 hc.2.2 q
end
noncomputable def scal : V → V → Bool
  | .non, .non => true | .non, .int _ => true | .int _, .non => true | .non, .bl _ => true | .bl _, .non => true | .non, .str _ => true | .str _, .non => true
  | .int _, .int _ => true | .bl _, .bl _ => true | .str _, .str _ => true | .byt _, .byt _ => true
  | .int _, .str _ => true | .str _, .int _ => true | .bl _, .str _ => true | .str _, .bl _ => true
  | _, _ => false
noncomputable def rEq : R2 := fun x y H Q => scal x y = true ∧ Q (.bl (decide (x = y))) H
noncomputable def rNe : R2 := fun x y H Q => scal x y = true ∧ Q (.bl (!decide (x = y))) H
theorem dec_int {i j : Int} : decide (V.int i = V.int j) = (i == j) := by
  rw [Bool.eq_iff_iff]
  simp
theorem dec_bl {i j : Bool} : decide (V.bl i = V.bl j) = (i == j) := by
  rw [Bool.eq_iff_iff]
  simp
theorem dec_str {i j : Str} : decide (V.str i = V.str j) = (i == j) := by
  rw [Bool.eq_iff_iff]
  simp
theorem dec_byt {i j : Array UInt8} : decide (V.byt i = V.byt j) = (i.toList == j.toList) := by
  rw [Bool.eq_iff_iff]
  cases i
  cases j
  simp
section
variable {X : Cx} {a b c : Expr} {ta tb tc : TE} {pos : Pos}
theorem fin_bl {pins : List (Addr × Obj)} {σ : St} {H : Hp} {s : Shared} {Q : VK} {k k' : Bool} (I : Inv X pins σ H s) (q : Q (.bl k) H) (e : k = k') : EP X pins σ Q (.bool k') s := by
  subst e
  exact ⟨.bl k, H, I, rfl, q⟩
theorem op_eq : OpR X (compareOp .Eq) rEq := by
  intro pins s σ H x y v u Q I rx ry h
  obtain ⟨hs, q⟩ := h
  cases x with
  | non =>
    cases rx
    cases y with
    | non => cases ry; exact PySem.EqNone.eq_none_none (fin_bl I q (by simp))
    | bl j => cases ry; exact PySem.EqNone.eq_none_bool (fin_bl I q (by simp))
    | int j => obtain ⟨t', rfl⟩ := ry; exact PySem.EqNone.eq_none_int (fin_bl I q (by simp))
    | str j => obtain ⟨t', rfl⟩ := ry; exact PySem.EqNone.eq_none_str (fin_bl I q (by simp))
    | _ => exact absurd (show false = true from hs) Bool.false_ne_true
  | bl i =>
    cases rx
    cases y with
    | non => cases ry; exact PySem.EqNone.eq_bool_none (fin_bl I q (by simp))
    | bl j => cases ry; exact eq_bool (fin_bl I q dec_bl)
    | str j => obtain ⟨t', rfl⟩ := ry; exact PySem.EqMixed.eq_bool_str (fin_bl I q (by simp))
    | _ => exact absurd (show false = true from hs) Bool.false_ne_true
  | int i =>
    obtain ⟨t, rfl⟩ := rx
    cases y with
    | non => cases ry; exact PySem.EqNone.eq_int_none (fin_bl I q (by simp))
    | int j => obtain ⟨t', rfl⟩ := ry; exact eq_int (fin_bl I q dec_int)
    | str j => obtain ⟨t', rfl⟩ := ry; exact PySem.EqMixed.eq_int_str (fin_bl I q (by simp))
    | _ => exact absurd (show false = true from hs) Bool.false_ne_true
  | str i =>
    obtain ⟨t, rfl⟩ := rx
    cases y with
    | non => cases ry; exact PySem.EqNone.eq_str_none (fin_bl I q (by simp))
    | bl j => cases ry; exact PySem.EqMixed.eq_str_bool (fin_bl I q (by simp))
    | int j => obtain ⟨t', rfl⟩ := ry; exact PySem.EqMixed.eq_str_int (fin_bl I q (by simp))
    | str j => obtain ⟨t', rfl⟩ := ry; exact eq_str (fin_bl I q dec_str)
    | _ => exact absurd (show false = true from hs) Bool.false_ne_true
  | byt i =>
    obtain ⟨t, rfl⟩ := rx
    cases y with
    | byt j => obtain ⟨t', rfl⟩ := ry; exact PySem.W.eq_bytes (fin_bl I q dec_byt)
    | _ => exact absurd (show false = true from hs) Bool.false_ne_true
  | _ => cases y <;> exact absurd (show false = true from hs) Bool.false_ne_true
theorem op_ne : OpR X (compareOp .NotEq) rNe := by
  intro pins s σ H x y v u Q I rx ry h
  obtain ⟨hs, q⟩ := h
  cases x with
  | non =>
    cases rx
    cases y with
    | non => cases ry; exact PySem.EqNone.ne_none_none (fin_bl I q (by simp))
    | bl j => cases ry; exact PySem.EqNone.ne_none_bool (fin_bl I q (by simp))
    | int j => obtain ⟨t', rfl⟩ := ry; exact PySem.EqNone.ne_none_int (fin_bl I q (by simp))
    | str j => obtain ⟨t', rfl⟩ := ry; exact PySem.EqNone.ne_none_str (fin_bl I q (by simp))
    | _ => exact absurd (show false = true from hs) Bool.false_ne_true
  | bl i =>
    cases rx
    cases y with
    | non => cases ry; exact PySem.EqNone.ne_bool_none (fin_bl I q (by simp))
    | bl j => cases ry; exact ne_bool (fin_bl I q (congrArg not dec_bl))
    | str j => obtain ⟨t', rfl⟩ := ry; exact PySem.EqMixed.ne_bool_str (fin_bl I q (by simp))
    | _ => exact absurd (show false = true from hs) Bool.false_ne_true
  | int i =>
    obtain ⟨t, rfl⟩ := rx
    cases y with
    | non => cases ry; exact PySem.EqNone.ne_int_none (fin_bl I q (by simp))
    | int j => obtain ⟨t', rfl⟩ := ry; exact ne_int (fin_bl I q (congrArg not dec_int))
    | str j => obtain ⟨t', rfl⟩ := ry; exact PySem.EqMixed.ne_int_str (fin_bl I q (by simp))
    | _ => exact absurd (show false = true from hs) Bool.false_ne_true
  | str i =>
    obtain ⟨t, rfl⟩ := rx
    cases y with
    | non => cases ry; exact PySem.EqNone.ne_str_none (fin_bl I q (by simp))
    | bl j => cases ry; exact PySem.EqMixed.ne_str_bool (fin_bl I q (by simp))
    | int j => obtain ⟨t', rfl⟩ := ry; exact PySem.EqMixed.ne_str_int (fin_bl I q (by simp))
    | str j => obtain ⟨t', rfl⟩ := ry; exact ne_str (fin_bl I q (congrArg not dec_str))
    | _ => exact absurd (show false = true from hs) Bool.false_ne_true
  | byt i =>
    obtain ⟨t, rfl⟩ := rx
    cases y with
    | byt j => obtain ⟨t', rfl⟩ := ry; exact PySem.W.ne_bytes (fin_bl I q (congrArg not dec_byt))
    | _ => exact absurd (show false = true from hs) Bool.false_ne_true
  | _ => cases y <;> exact absurd (show false = true from hs) Bool.false_ne_true
theorem op_lt : OpR X (compareOp .Lt) (rI0 fun i j => .bl (decide (i < j))) := opB0 fun _ _ _ _ _ _ _ q => lt_int q
theorem op_le : OpR X (compareOp .LtE) (rI0 fun i j => .bl (decide (i ≤ j))) := opB0 fun _ _ _ _ _ _ _ q => le_int q
theorem op_gt : OpR X (compareOp .Gt) (rI0 fun i j => .bl (decide (j < i))) := opB0 fun _ _ _ _ _ _ _ q => gt_int q
theorem nomark (b : Expr) {op : CmpOp} (h : autoParam (op ≠ .In) L2.aDec._auto_1) (h2 : autoParam (op ≠ .NotIn) L2.aDec._auto_1) : behindInMarks op b = false := by
  have e1 : (op == CmpOp.In) = false := by cases op <;> first | rfl | exact absurd rfl h
  have e2 : (op == CmpOp.NotIn) = false := by cases op <;> first | rfl | exact absurd rfl h2
  cases b <;> simp [behindInMarks, e1, e2]
theorem pe_cmpR {op : CmpOp} {r : R2} (ho : OpR X (compareOp op) r) (ha : PE X a ta) (hb : PE X b tb) (hm : behindInMarks op b = false) : PE X (.Compare a [op] [b] pos) (tOp r ta tb) := by
  intro pins s σ H Q I h
  exact wpAny_Compare1 (binT ha hb I h fun v u s2 x y H2 I2 rx ry q => ho pins s2 σ H2 x y v u Q I2 rx ry q) hm
noncomputable def tTest (t : TE) : TT := fun σ H Q => t σ H fun x H' => ∃ k, x = .bl k ∧ Q k H'
theorem pt_cmpR {op : CmpOp} {r : R2} (ho : OpR X (compareOp op) r) (ha : PE X a ta) (hb : PE X b tb) (hm : behindInMarks op b = false) : PT X (.Compare a [op] [b] pos) (tTest (tOp r ta tb)) := by
  intro pins s σ H Q I h
  refine wpAny_isTrue_Compare1 (thn (ha pins s σ H _ I h) fun v s1 ⟨x, H1, I1, r1, q1⟩ => thn (hb pins s1 σ H1 _ I1 q1) fun u s2 ⟨y, H2, I2, r2, q2⟩ =>
    thn (ho pins s2 σ H2 x y v u _ I2 r1 r2 q2) fun c s3 ⟨z, H3, I3, r3, k, e, q3⟩ => ?_) hm
  subst e
  cases r3
  exact wpAny_truthy_bool ⟨H3, I3, q3⟩
theorem line63 : (sizeLine : Nat) < 2 ^ 63 := by rw [sizeLine_eq]; decide
theorem op_add_str : OpR X (binaryOp .Add) (fun x y H Q => ∃ i j, x = .str i ∧ y = .str j ∧ i.length + j.length ≤ sizeLine ∧ Q (.str (i ++ j)) H) := by
  intro pins s σ H x y v u Q I rx ry h
  obtain ⟨i, j, rfl, rfl, hz, q⟩ := h
  obtain ⟨t, rfl⟩ := rx
  obtain ⟨t', rfl⟩ := ry
  exact add_str (fun t' tk => ⟨.str (i ++ j), H, I.tok _, ⟨_, rfl⟩, q⟩) hz
theorem vals1 {x : V} {us : List Value} (r : Vals [x] us) : ∃ u, us = [u] ∧ RelV x u := by
  cases r with
  | cons r1 r2 => cases r2; exact ⟨_, rfl, r1⟩
theorem vals2 {x y : V} {us : List Value} (r : Vals [x, y] us) : ∃ u w', us = [u, w'] ∧ RelV x u ∧ RelV y w' := by
  cases r with
  | cons r1 r2 =>
    cases r2 with
    | cons r3 r4 => cases r4; exact ⟨_, _, rfl, r1, r3⟩
theorem call_max2 (hc : X.calm = true) : CallR X (.builtin "max") (fun xs H Q => ∃ i j, xs = [.int i, .int j] ∧ Q (.int (if j > i then j else i)) H) := by
  intro pins s σ H xs us Q I r h
  obtain ⟨i, j, rfl, q⟩ := h
  obtain ⟨u, w', rfl, ⟨t, rfl⟩, ⟨t', rfl⟩⟩ := vals2 r
  refine max_two_ints (I.ok.hd hc) fun h' tk k => ⟨_, H, I.kept k, ?_, q⟩
  by_cases hj : j > i
  · rw [if_pos hj, if_pos hj]; exact ⟨_, rfl⟩
  · rw [if_neg hj, if_neg hj]; exact ⟨_, rfl⟩
theorem call_min2 (hc : X.calm = true) : CallR X (.builtin "min") (fun xs H Q => ∃ i j, xs = [.int i, .int j] ∧ Q (.int (if j < i then j else i)) H) := by
  intro pins s σ H xs us Q I r h
  obtain ⟨i, j, rfl, q⟩ := h
  obtain ⟨u, w', rfl, ⟨t, rfl⟩, ⟨t', rfl⟩⟩ := vals2 r
  refine min_two_ints (I.ok.hd hc) fun h' tk k => ⟨_, H, I.kept k, ?_, q⟩
  by_cases hj : j < i
  · rw [if_pos hj, if_pos hj]; exact ⟨_, rfl⟩
  · rw [if_neg hj, if_neg hj]; exact ⟨_, rfl⟩
end
end L2
namespace L2
open PySem PySem.Spec PyProof.Rows
structure ObjM (h : Heap) (x dx C : Addr) (mA : Str → Option Value) : Prop where
  obj : h.get? x = some (PySem.W.instObj C dx)
  ns : h.Ns1 dx mA
  ne : dx ≠ x
theorem lookIn_ns {h : Heap} {dx : Addr} {mA : Str → Option Value} (n : h.Ns1 dx mA) : ∃ od, h.get? dx = some od ∧ ∀ name, PySem.W.lookIn name od = some (mA name) := by
  obtain ⟨o, es, ep, ho, hd, hk, _, hm⟩ := n
  refine ⟨o, ho, fun name => ?_⟩
  have e := hm name
  unfold nsFind findBy at e
  rw [← Array.find?_toList] at e
  unfold PySem.W.lookIn
  rw [hd]
  dsimp only
  split
  · rename_i y q
    rw [q] at e
    exact congrArg some e
  · rename_i q
    rw [q] at e
    have a : es.toList.any (·.refKey) = false := by
      rw [List.any_eq_false]
      intro y hy
      obtain ⟨z, t, hkey⟩ := hk y (Array.mem_toList_iff.mp hy)
      simp [DictEntry.refKey, hkey]
    have a' : ¬ es.toList.any (·.refKey) = true := by rw [a]; exact Bool.false_ne_true
    rw [if_neg a']
    exact congrArg some e
theorem ObjM.look {h : Heap} {x dx C : Addr} {mA : Str → Option Value} (I : ObjM h x dx C mA) : ∃ od, PySem.W.InstAt h x (PySem.W.instObj C dx) C (some od) ∧ ∀ name, PySem.W.lookIn name od = some (mA name) :=
  let ⟨od, ho, hl⟩ := lookIn_ns I.ns
  ⟨od, ⟨I.obj, rfl, rfl, ho⟩, hl⟩
section
variable {prog : Program} {w : World} {A : Around} {E : Value → Shared → Prop} {s : Shared} {K : PySem.W.Frag} {x dx C f : Addr} {mA : Str → Option Value} {name : Str} {v : Value}
theorem get_map {expr : Bool} {Q : Value → Shared → Prop} (X : K.In s.heap) (I : ObjM s.heap x dx C mA) (hg : PySem.W.plainGet K C name = true) (hh : PySem.W.hasDictIn K C = true)
    (ha : PySem.W.findIn K (.ref C) name = some none) (hv : mA name = some v) (hv' : PySem.W.handedIn v = true) (h : Q v { s with toks := s.toks + 1 }) :
    wpAny (model prog w) A (getAttr (.ref x) name expr) Q E s := by
  obtain ⟨od, J, hl⟩ := I.look
  exact PySem.W.get_value X J (PySem.W.plainGet_of hg).1 (PySem.W.findObj_own hh ha rfl (by rw [hl, hv])) hv' h
theorem get_meth {pl : Sem Bool} {Q : Value × List Value → Shared → Prop} (X : K.In s.heap) (I : ObjM s.heap x dx C mA) (hg : PySem.W.plainGet K C name = true)
    (hf : PySem.W.findIn K (.ref C) name = some (some (.ref f))) (ht : PySem.W.isFn K (.ref f) = true) (hv : mA name = none) (h : Q (.ref f, [.ref x]) s) :
    wpAny (model prog w) A (getMethod (.ref x) name pl) Q E s := by
  obtain ⟨od, J, hl⟩ := I.look
  exact PySem.W.method_fn X J (PySem.W.plainGet_of hg).1 (PySem.W.plainGet_of hg).2 hf (beq_iff_eq.mp ht) (by show (PySem.W.lookIn name od).map (·.isSome) = some false; rw [hl, hv]; rfl) h
theorem set_map {ns : List Str} {Q : Unit → Shared → Prop} (X : K.In s.heap) (I : ObjM s.heap x dx C mA)
    (hs : PySem.W.findIn K (.ref C) "__setattr__" = some (some (.builtin "object.__setattr__"))) (hp : PySem.W.plainOver K C = true) (ht : PySem.W.takerIn K C name = some none) (hh : PySem.W.hasDictIn K C = true)
    (hw : PySem.Within mA ns) (hsz : ns.length ≤ sizeLine)
    (h : ∀ h', ObjM h' x dx C (fun y => if y = name then some v else mA y) → Heap.SameBut dx s.heap h' → Q () { s with heap := h', toks := s.toks + 2 }) :
    wpAny (model prog w) A (setAttr (.ref x) name v) Q E s := by
  obtain ⟨od, J, hl⟩ := I.look
  refine PySem.W.set_plain X J hs (PySem.W.osa_open (s := { s with toks := s.toks + 1 }) (r := none) X J hp ht fun b => ?_)
  obtain ⟨cd, hc, hd'⟩ := PySem.W.any_some hh
  have hx : s.heap.get? x = some ⟨.ref C, some dx, .plain, #[]⟩ := I.obj
  refine wpAny_bind (wpAny_pure (wpAny_bind (wpAny_bind (wpAny_loadPart hx (wpAny_bind (PySem.W.Looks.here (s := { s with toks := s.toks + 1 }) (PySem.W.looks_clsIn X hc) ?_))))))
  rw [hd']
  refine wpAny_pure (a := some dx) (wpAny_bind (wpAny_pure (wpAny_bind ?_)))
  refine wpAny_nsSet1 (s := { s with toks := s.toks + 1 }) I.ns fun h' hn2 hs2 => ?_
  obtain ⟨oD, esD, epD, hoD, hdD, hcD⟩ := hn2.count (PySem.Within.cons name v hw)
  refine wpAny_bind (wpAny_lookBehind hoD (by rw [hdD]; exact pastItsLine_dict (Nat.le_trans hcD (by rw [List.length_cons]; omega))) ?_)
  exact wpAny_pure (h _ ⟨(hs2.2 _ (Ne.symm I.ne)).trans I.obj, hn2, I.ne⟩ hs2)
theorem make_map {R : Result → Shared → Prop} {vs : List Value} {kw : List (Str × Value)} (X : K.In s.heap) (hm : PySem.W.makesIn K C = true)
    (hi : PySem.W.findIn K (.ref C) "__init__" = some (some (.ref f))) (hf : PySem.W.typeIn K (.ref f) = some (.type "function"))
    (h : codeAny (model prog w) (A.under (.builtin "type.__call__" ⟨.ref C :: vs, kw⟩)) (.call (.ref f) ⟨.ref (s.heap.objs.size + 1) :: vs, kw⟩) (PySem.W.InitBack (s.heap.objs.size + 1) R)
      { s with heap := (s.heap.push PySem.W.emptyDict).push (PySem.W.instObj C s.heap.objs.size) }) :
    codeAny (model prog w) A (.call (.ref C) ⟨vs, kw⟩) R s := by
  obtain ⟨hh, g, d, t, os⟩ := s
  exact PySem.W.make_core (PySem.W.makes_of X hm) (PySem.W.looks_findIn X hi) (fun self => PySem.W.bind_fn X self hf) (.inl rfl) h
end
noncomputable def putF (f : Str) (v : V) : List (Str × V) → List (Str × V)
  | [] => [(f, v)]
  | (g, x) :: r => if g = f then (g, v) :: r else (g, x) :: putF f v r
theorem lookup_putF (f g : Str) (v : V) : ∀ fs : List (Str × V), (putF f v fs).lookup g = if g = f then some v else fs.lookup g
  | [] => by
    show List.lookup g [(f, v)] = _
    by_cases h : g = f
    · have hb : (g == f) = true := beq_iff_eq.mpr h
      simp only [List.lookup, hb, if_pos h]
    · have hb : (g == f) = false := beq_eq_false_iff_ne.mpr h
      simp only [List.lookup, hb, if_neg h]
  | (k, x) :: r => by
    have ih := lookup_putF f g v r
    rw [show putF f v ((k, x) :: r) = (if k = f then (k, v) :: r else (k, x) :: putF f v r) from rfl]
    by_cases hk : k = f
    · rw [if_pos hk]
      by_cases h : g = k
      · have hb : (g == k) = true := beq_iff_eq.mpr h
        simp only [List.lookup, hb, if_pos (h.trans hk)]
      · have hb : (g == k) = false := beq_eq_false_iff_ne.mpr h
        simp only [List.lookup, hb, if_neg (fun e : g = f => h (e.trans hk.symm))]
    · rw [if_neg hk]
      by_cases h : g = k
      · have hb : (g == k) = true := beq_iff_eq.mpr h
        simp only [List.lookup, hb, if_neg (fun e : g = f => hk (h.symm.trans e))]
      · have hb : (g == k) = false := beq_eq_false_iff_ne.mpr h
        simp only [List.lookup, hb]
        exact ih
theorem keys_putF (f : Str) (v : V) : ∀ fs : List (Str × V), f ∈ (putF f v fs).map (·.1) ∧ ∀ g, g ∈ fs.map (·.1) → g ∈ (putF f v fs).map (·.1)
  | [] => ⟨by simp [putF], fun g h => by simp at h⟩
  | (k, x) :: r => by
    obtain ⟨i1, i2⟩ := keys_putF f v r
    rw [show putF f v ((k, x) :: r) = (if k = f then (k, v) :: r else (k, x) :: putF f v r) from rfl]
    by_cases hk : k = f
    · rw [if_pos hk]
      subst hk
      exact ⟨by simp, fun g h => by simpa using h⟩
    · rw [if_neg hk]
      refine ⟨?_, fun g h => ?_⟩
      · rw [List.map_cons]
        exact List.mem_cons_of_mem _ i1
      · rw [List.map_cons] at h ⊢
        rcases List.mem_cons.mp h with e | e
        · exact List.mem_cons.mpr (.inl e)
        · exact List.mem_cons_of_mem _ (i2 g e)
theorem length_putF (f : Str) (v : V) : ∀ fs : List (Str × V), (putF f v fs).length ≤ fs.length + 1
  | [] => by simp [putF]
  | (k, x) :: r => by
    have ih := length_putF f v r
    rw [show putF f v ((k, x) :: r) = (if k = f then (k, v) :: r else (k, x) :: putF f v r) from rfl]
    by_cases hk : k = f
    · rw [if_pos hk, List.length_cons, List.length_cons]; omega
    · rw [if_neg hk, List.length_cons, List.length_cons]; omega
theorem RelO.some_of {v : V} {o : Option Value} (r : RelO (some v) o) : ∃ u, o = some u ∧ RelV v u := by
  cases o with
  | none => exact (show False from r).elim
  | some u => exact ⟨u, rfl, r⟩
theorem RelO.none_of {o : Option Value} (r : RelO none o) : o = none := by
  cases o with
  | none => rfl
  | some u => exact (show False from r).elim
theorem handed_of {v : V} {u : Value} (r : RelV v u) : PySem.W.handedIn u = true := by
  cases v with
  | non => cases (show u = Value.none from r); rfl
  | bl b => cases (show u = Value.bool b from r); rfl
  | int i => obtain ⟨t, e⟩ := (show ∃ t, u = Value.int i t from r); cases e; rfl
  | str x => obtain ⟨t, e⟩ := (show ∃ t, u = Value.str x t from r); cases e; rfl
  | byt b => obtain ⟨t, e⟩ := (show ∃ t, u = Value.bytes b t from r); cases e; rfl
  | flt b => obtain ⟨t, e⟩ := (show ∃ t, u = Value.float b t from r); cases e; rfl
  | ref a => cases (show u = Value.ref a from r); rfl
  | ty n => cases (show u = Value.type n from r); rfl
section
variable {P : Program} {w : World} {H H' : Hp} {h h' : Heap} {a C dx : Addr} {fs fs' : List (Str × V)}
theorem ins_get (hok : HOk P w H h) (e : H a = some (.ins C dx fs)) : ∃ mA, ObjM h a dx C mA ∧ (∀ f, RelO (fs.lookup f) (mA f)) ∧ PySem.Within mA (fs.map (·.1)) ∧ fs.length ≤ 1000 ∧ H dx = some (.own a) := by
  obtain ⟨d, z, ne, ob, mA, n, r, q⟩ := (show ObjOk P w H h a (.ins C dx fs) from hok a _ e)
  exact ⟨mA, ⟨ob, n, ne⟩, r, q, z, d⟩
end
structure Cls (K : PySem.W.Frag) (C : Addr) : Prop where
  pg : PySem.W.plainGet K C Str.empty = true
  hd : PySem.W.hasDictIn K C = true
  po : PySem.W.plainOver K C = true
  sa : PySem.W.findIn K (.ref C) "__setattr__" = some (some (.builtin "object.__setattr__"))
theorem Cls.get {K : PySem.W.Frag} {C : Addr} (c : Cls K C) (f : Str) : PySem.W.plainGet K C f = true := c.pg
noncomputable def NoAttr (K : PySem.W.Frag) (C : Addr) (f : Str) : Prop := PySem.W.findIn K (.ref C) f = some none
theorem NoAttr.taker {K : PySem.W.Frag} {C : Addr} {f : Str} (n : NoAttr K C f) : PySem.W.takerIn K C f = some none := by
  unfold PySem.W.takerIn
  rw [show PySem.W.findIn K (.ref C) f = some none from n]
  rfl
structure Meth (K : PySem.W.Frag) (C : Addr) (m : Str) (f : Addr) : Prop where
  at_ : PySem.W.findIn K (.ref C) m = some (some (.ref f))
  fn : PySem.W.isFn K (.ref f) = true
  kp : PySem.W.keepIn K (.ref f) = true
section
variable {X : Cx} {pins : List (Addr × Obj)} {σ : St} {H : Hp} {s : Shared} {a C dx : Addr} {fs : List (Str × V)} {f : Str} {v : V} {A : Around} {E : Value → Shared → Prop}
theorem getattr_ok {b : Bool} {Q : Value → Shared → Prop} (I : Inv X pins σ H s) (e : H a = some (.ins C dx fs)) (c : Cls X.K C) (n : NoAttr X.K C f) (l : fs.lookup f = some v)
    (h : ∀ u s', Inv X pins σ H s' → RelV v u → Q u s') : wpAny (model X.prog X.w) A (getAttr (.ref a) f b) Q E s := by
  obtain ⟨mA, O, r, _, _, _⟩ := ins_get I.hok e
  obtain ⟨u, hu, ru⟩ := RelO.some_of (v := v) (o := mA f) (by rw [← l]; exact r f)
  exact get_map I.kIn O (c.get f) c.hd n hu (handed_of ru) (h u _ (I.tok _) ru)
theorem getmeth_ok {m : Str} {g : Addr} {pl : Sem Bool} {Q : Value × List Value → Shared → Prop} (I : Inv X pins σ H s) (e : H a = some (.ins C dx fs)) (c : Cls X.K C) (k : Meth X.K C m g) (l : fs.lookup m = none)
    (h : Q (.ref g, [.ref a]) s) : wpAny (model X.prog X.w) A (getMethod (.ref a) m pl) Q E s := by
  obtain ⟨mA, O, r, _, _, _⟩ := ins_get I.hok e
  have hn : mA m = none := RelO.none_of (by rw [← l]; exact r m)
  exact get_meth I.kIn O (c.get m) k.at_ k.fn hn h
theorem setattr_ok {y : V} {u : Value} {Q : Unit → Shared → Prop} (I : Inv X pins σ H s) (e : H a = some (.ins C dx fs)) (c : Cls X.K C) (n : NoAttr X.K C f) (hl : fs.length < 1000) (ry : RelV y u)
    (h : ∀ s', Inv X pins σ (upd H a (.ins C dx (putF f y fs))) s' → Q () s') : wpAny (model X.prog X.w) A (setAttr (.ref a) f u) Q E s := by
  obtain ⟨mA, O, r, wi, _, ho⟩ := ins_get I.hok e
  have hz : (fs.map (·.1)).length ≤ sizeLine := by rw [List.length_map, sizeLine_eq]; omega
  refine set_map I.kIn O c.sa c.po n.taker c.hd wi hz fun h' O' sb => h _ ?_
  have hd : ∃ o, h'.get? dx = some o := let ⟨o, _, _, e', _⟩ := O'.ns; ⟨o, e'⟩
  refine I.write (x := a) (e := dx) (by rw [e]; exact True.intro) (.inr ho) (fun b q hb z => (sb.2 b hb).trans z) hd ?_
  refine ⟨by rw [upd_ne O.ne]; exact ho, ?_, O.ne, O'.obj, _, O'.ns, fun g => ?_, fun g hg => ?_⟩
  · have := length_putF f y fs; omega
  · show RelO ((putF f y fs).lookup g) (if g = f then some u else mA g)
    rw [lookup_putF]
    by_cases q : g = f
    · rw [if_pos q, if_pos q]; exact ry
    · rw [if_neg q, if_neg q]; exact r g
  · by_cases q : g = f
    · rw [q]; exact (keys_putF f y fs).1
    · refine (keys_putF f y fs).2 g (wi g fun z => hg ?_)
      show (if g = f then some u else mA g) = none
      rw [if_neg q]; exact z
theorem Inv.made (I : Inv X pins σ H s) : Inv X pins σ (upd (upd H s.heap.objs.size (.own (s.heap.objs.size + 1))) (s.heap.objs.size + 1) (.ins C s.heap.objs.size []))
    { s with heap := (s.heap.push PySem.W.emptyDict).push (PySem.W.instObj C s.heap.objs.size) } := by
  have e1 : (s.heap.push PySem.W.emptyDict).get? s.heap.objs.size = some PySem.W.emptyDict := Heap.get?_push_size s.heap rfl
  have e2 : ((s.heap.push PySem.W.emptyDict).push (PySem.W.instObj C s.heap.objs.size)).get? (s.heap.objs.size + 1) = some (PySem.W.instObj C s.heap.objs.size) := by
    have := Heap.get?_push_size (s.heap.push PySem.W.emptyDict) (o := PySem.W.instObj C s.heap.objs.size) rfl
    rwa [Heap.size_push] at this
  have e3 : (s.heap.push PySem.W.emptyDict).Ns s.heap.objs.size (fun _ => none) := ⟨PySem.W.emptyDict, #[], _, e1, rfl, (fun e he => absurd he (by simp)), fun _ => rfl⟩
  have I1 := I.laid (a := s.heap.objs.size) (o := .own (s.heap.objs.size + 1)) (h' := s.heap.push PySem.W.emptyDict) (t' := s.toks) (fun b u q => Heap.get?_push_of_some _ q) (Nat.le_refl _) ⟨_, e1⟩
  refine I1.laid (a := s.heap.objs.size + 1) (o := .ins C s.heap.objs.size []) (t' := s.toks) (fun b u q => Heap.get?_push_of_some _ q) (Nat.le_of_eq (Heap.size_push _ _)) ?_
  have ne : s.heap.objs.size ≠ s.heap.objs.size + 1 := Nat.ne_of_lt (Nat.lt_succ_self _)
  refine ⟨by rw [upd_ne ne, upd_same], Nat.zero_le _, ne, e2, fun _ => none, (Heap.Ns1.of_empty e3).at fun o q => Heap.get?_push_of_some _ q, fun _ => True.intro, fun y hy => absurd rfl hy⟩
theorem attr_of {prog : Program} {w : World} {env : Env} {e : Expr} {f : Str} {pos : Pos} {s : Shared} {Q : Value → Shared → Prop} (hb : attributeBase e f env (eval e env) = eval e env)
    (h : wpAny (model prog w) A (eval e env) (fun o s₁ => wpAny (model prog w) A (getAttr o f true) Q E s₁) E s) : wpAny (model prog w) A (eval (.Attribute e f pos) env) Q E s :=
  Attribute_any_ h (by rw [arm_eval_Attribute, hb])
end
noncomputable def tFld (K : PySem.W.Frag) (ta : TE) (f : Str) : TE := fun σ H Q => ta σ H fun x H1 => ∃ a C dx fs v, x = .ref a ∧ H1 a = some (.ins C dx fs) ∧ Cls K C ∧ NoAttr K C f ∧ fs.lookup f = some v ∧ Q v H1
noncomputable def sFld (K : PySem.W.Frag) (ta tv : TE) (f : Str) : TS := fun D σ H => tv σ H fun y H1 => ta σ H1 fun x H2 => ∃ a C dx fs, x = .ref a ∧ H2 a = some (.ins C dx fs) ∧ Cls K C ∧ NoAttr K C f ∧ fs.length < 1000 ∧
  D.nx σ (upd H2 a (.ins C dx (putF f y fs)))
section
variable {X : Cx} {o e value : Expr} {f : Str} {pos pos' tpos : Pos} {ta tv : TE}
theorem pe_fld (he : PE X e ta) (hb : attributeBase e f X.env (eval e X.env) = eval e X.env) : PE X (.Attribute e f pos) (tFld X.K ta f) := by
  intro pins s σ H Q I h
  refine attr_of hb (thn (he pins s σ H _ I h) fun u s1 ⟨x, H1, I1, rx, a, C, dx, fs, v, ex, ea, c, n, l, q⟩ => ?_)
  subst ex
  obtain rfl : u = Value.ref a := rx
  exact getattr_ok I1 ea c n l fun u' s2 I2 ru => ⟨v, H1, I2, ru, q⟩
theorem ps_fld (ha : PE X o ta) (hv : PE X value tv) (hs : swapsWith value (some (.Attribute o f pos')) pos.line X.env = pure false) : PS X (.Assign [.Attribute o f pos'] value pos) (sFld X.K ta tv f) := by
  intro pins s σ H D I h
  refine plainObj_wpAny_Assign_Attribute (thn (hv pins s σ H _ I h) fun u s1 ⟨y, H1, I1, ry, q⟩ => thn (ha pins s1 σ H1 _ I1 q) fun ov s2 ⟨x, H2, I2, rx, a, C, dx, fs, ex, ea, c, n, l, q2⟩ => ?_) hs
  subst ex
  obtain rfl : ov = Value.ref a := rx
  exact setattr_ok I2 ea c n l ry fun s3 I3 => ⟨σ, _, I3, q2⟩
end
section
variable {X : Cx} {pins : List (Addr × Obj)} {σ : St} {H : Hp} {s : Shared} {A : Around} {E : Value → Shared → Prop} {Q : Value → Shared → Prop} {c : Value} {b : Bool}
end
end L2
namespace L2
open PySem PySem.Spec PyProof.Rows
structure Room (k : Nat) (A : Around) : Prop where
  hd : A.handled = none
  dp : A.depth + 3 * k + 5 < recursionLimit
  un : A.units + 16 * k + 200 < cLine
theorem Room.mono {j k : Nat} {A : Around} (r : Room k A) (h : j ≤ k) : Room j A := ⟨r.hd, by have := r.dp; omega, by have := r.un; omega⟩
theorem Room.deeper {k : Nat} {A : Around} (r : Room (k + 1) A) (env : Env) : Room k (A.deeper env) :=
  ⟨r.hd, by have := r.dp; show A.depth + 1 + 3 * k + 5 < _; omega, by have := r.un; show A.units + 3 + 16 * k + 200 < _; omega⟩
theorem make_depth {A : Around} {C : Addr} {us : List Value} {kw : List (Str × Value)} : (A.under (.builtin "type.__call__" ⟨.ref C :: us, kw⟩)).depth = A.depth + 1 := by
  first | rfl | simp [Around.under, Code.weight, Code.isCreation, Code.isGuard, Code.isCaller, Code.frames, Code.isFrame, guardIds]
theorem make_units {A : Around} {C : Addr} {us : List Value} {kw : List (Str × Value)} : (A.under (.builtin "type.__call__" ⟨.ref C :: us, kw⟩)).units = A.units + 1 := by
  first | rfl | simp [Around.under, Code.cUnits, Code.frames, Code.isFrame]
theorem Room.make {k : Nat} {A : Around} (r : Room (k + 1) A) (C : Addr) (us : List Value) (kw : List (Str × Value)) : Room k (A.under (.builtin "type.__call__" ⟨.ref C :: us, kw⟩)) :=
  ⟨r.hd, by have := r.dp; rw [make_depth]; omega, by have := r.un; rw [make_units]; omega⟩
theorem Room.depth {k : Nat} {A : Around} (r : Room k A) : A.depth < recursionLimit := by have := r.dp; omega
theorem Room.units {k : Nat} {A : Around} (r : Room k A) : A.units + 64 < cLine := by have := r.un; omega
noncomputable def tNil : TA := fun _ H Q => Q [] H
noncomputable def tCons (ta : TE) (tr : TA) : TA := fun σ H Q => ta σ H fun x H1 => tr σ H1 fun xs H2 => Q (x :: xs) H2
section
variable {X : Cx} {e : Expr} {es : List Expr} {te : TE} {t : TA} {pos : Pos}
theorem pa_nil : PA X [] tNil := fun _ _ _ _ H Q I h => Calls.spliced_nil ⟨[], H, I, .nil, h⟩
theorem pa_cons (ha : PE X e te) (hr : PA X es t) (hs : autoParam (starEach (e :: es) X.env = (false, eval e X.env) :: starEach es X.env) L2.aRfl._auto_1) : PA X (e :: es) (tCons te t) := by
  intro pos pins s σ H Q I h
  rw [hs]
  show wpAny _ _ (spliced ((false, eval e X.env) :: backTo pos (starEach es X.env))) _ _ s
  refine Calls.spliced_cons (thn (ha pins s σ H _ I h) fun u s1 ⟨x, H1, I1, r1, q1⟩ => ?_)
  exact thn (hr pos pins s1 σ H1 _ I1 q1) fun us s2 ⟨xs, H2, I2, r2, q2⟩ => ⟨x :: xs, H2, I2, .cons r1 r2, q2⟩
noncomputable def tTup (t : TA) : TE := fun σ H Q => t σ H fun xs H1 => xs.length ≤ sizeLine ∧ ∀ p, H1 p = none → Q (.ref p) (upd H1 p (.tup xs))
noncomputable def tLst (t : TA) : TE := fun σ H Q => t σ H fun xs H1 => xs.length ≤ sizeLine ∧ ∀ p, H1 p = none → Q (.ref p) (upd H1 p (.lst xs))
theorem pe_tup {x1} (h : PA X es t) : PE X (.Tuple es x1 pos) (tTup t) := by
  intro pins s σ H Q I hq
  refine wpAny_Tuple_spliced (thn (h pos pins s σ H _ I hq) fun us s1 ⟨xs, H1, I1, r, z, q⟩ => ⟨by rw [← r.length]; exact z, ?_⟩)
  have hf : H1 s1.heap.objs.size = none := I1.hok.fresh (Nat.le_refl _)
  refine ⟨.ref s1.heap.objs.size, upd H1 s1.heap.objs.size (.tup xs), I1.laid (t' := s1.toks) (fun b u e => Heap.get?_push_of_some _ e) (Nat.le_refl _) ?_, rfl, q _ hf⟩
  exact ⟨z, us, r, ⟨_, Heap.get?_push_size _ rfl, rfl, _, rfl⟩⟩
theorem pe_lst (h : PA X es t) : PE X (.List es pos) (tLst t) := by
  intro pins s σ H Q I hq
  refine wpAny_List_spliced (thn (h pos pins s σ H _ I hq) fun us s1 ⟨xs, H1, I1, r, z, q⟩ => ⟨by rw [← r.length]; exact z, ?_⟩)
  have hf : H1 s1.heap.objs.size = none := I1.hok.fresh (Nat.le_refl _)
  refine ⟨.ref s1.heap.objs.size, upd H1 s1.heap.objs.size (.lst xs), I1.laid (t' := s1.toks) (fun b u e => Heap.get?_push_of_some _ e) (Nat.le_refl _) ?_, rfl, q _ hf⟩
  exact ⟨z, us, 0, r, Heap.get?_push_size _ rfl⟩
end
noncomputable abbrev Sp := List V → Hp → VK → XK → Prop
noncomputable abbrev CXT := List Env → Hp → Shared → XK → Value → Shared → Prop
structure Env0 (P : Program) (w : World) (K : PySem.W.Frag) (mg : Str → Option Value) (base : Heap) (A : Around) (outer : List Env) (s : Shared) (H : Hp) : Prop where
  frames : A.frames = some outer
  mod : Mod K mg base
  bs : ∀ b o, base.get? b = some o → s.heap.get? b = some o ∧ H b = none
  bsz : base.objs.size ≤ s.heap.objs.size
  funs : s.heap.FunFrames base outer
  frf : ∀ b ∈ frs outer, H b = none
  hok : HOk P w H s.heap
  bare : AllBare s.gens
noncomputable def CE (outer : List Env) (P : Program) (w : World) (H : Hp) (s : Shared) (Q : VK) (u : Value) (s' : Shared) : Prop :=
  ∃ v H', s'.os = s.os ∧ AllBare s'.gens ∧ Un (frs outer) [] H H' s.heap s'.heap ∧ HOk P w H' s'.heap ∧ RelV v u ∧ Q v H'
noncomputable def CR (CX : CXT) (outer : List Env) (P : Program) (w : World) (H : Hp) (s : Shared) (Q : VK) (E : XK) (r : Result) (s' : Shared) : Prop :=
  match r with
  | .ok (.ret u) => CE outer P w H s Q u s'
  | .ok _ => False
  | .error e => CX outer H s E e s'
structure FnOk (P : Program) (w : World) (K : PySem.W.Frag) (mg : Str → Option Value) (base : Heap) (CX : CXT) (k : Nat) (f : Addr) (fd : FuncData) (ps : List Str) (sp : Sp) : Prop where
  len : ∀ vs H Q E, sp vs H Q E → vs.length = ps.length
  run : ∀ (A : Around) (outer : List Env) (s : Shared) (H : Hp) (args : Args) (us : List Value) (vs : List V) (Q : VK) (E : XK), Room k A → Env0 P w K mg base A outer s H → BindsTo s fd args (ps.zip us) → Vals vs us → sp vs H Q E →
    codeAny (model P w) A (.call (.ref f) args) (CR CX outer P w H s Q E) s
theorem Env0.make {P : Program} {w : World} {K : PySem.W.Frag} {mg : Str → Option Value} {base : Heap} {A : Around} {outer : List Env} {s : Shared} {H : Hp} (e : Env0 P w K mg base A outer s H) (C : Addr) (us : List Value) (kw : List (Str × Value)) :
    Env0 P w K mg base (A.under (.builtin "type.__call__" ⟨.ref C :: us, kw⟩)) outer s H := ⟨by first | exact e.frames | (simpa [Around.under, Code.envs, Code.isFrame, pushEnvs] using e.frames), e.mod, e.bs, e.bsz, e.funs, e.frf, e.hok, e.bare⟩
section
variable {X : Cx} {pins : List (Addr × Obj)} {σ : St} {H : Hp} {s s' : Shared}
theorem Inv.env0 (I : Inv X pins σ H s) : Env0 X.prog X.w X.K X.mg X.base X.A X.stack s H :=
  ⟨I.ok.frames, I.ok.mod, I.bs, Nat.le_trans I.ok.bsz I.sz, I.stack, I.stkFree, I.hok, I.bare⟩
theorem Inv.after {Q : VK} {u : Value} (I : Inv X pins σ H s) (h : CE X.stack X.prog X.w H s Q u s') : EP X pins σ Q u s' := by
  obtain ⟨v, H', os, bare, un, hok, r, q⟩ := h
  obtain ⟨hh, g, d, t, os'⟩ := s'
  obtain rfl : os' = s.os := os
  exact ⟨v, H', I.call (h' := hh) (g' := g) (d' := d) (t' := t) (ch := []) un hok bare (fun b z => absurd z (by simp)), r, q⟩
end
noncomputable def tCall (sp : Sp) (dvs : List V) (E : XK) (t : TA) : TE := fun σ H Q => t σ H fun vs H1 => sp (vs ++ dvs) H1 Q E
noncomputable def tMeth (C : Addr) (m : Str) (sp : Sp) (dvs : List V) (E : XK) (ta : TE) (t : TA) : TE := fun σ H Q => ta σ H fun x H1 => ∃ a dx fs, x = .ref a ∧ H1 a = some (.ins C dx fs) ∧ fs.lookup m = none ∧
  t σ H1 fun vs H2 => sp (x :: (vs ++ dvs)) H2 Q E
noncomputable def tMake (C : Addr) (sp : Sp) (dvs : List V) (E : XK) (t : TA) : TE := fun σ H Q => t σ H fun vs H1 => ∀ x dx, H1 x = none → H1 dx = none → dx ≠ x →
  sp (.ref x :: (vs ++ dvs)) (upd (upd H1 dx (.own x)) x (.ins C dx [])) (fun v H2 => v = .non ∧ Q (.ref x) H2) E
noncomputable def Binds (K : PySem.W.Frag) (fd : FuncData) (ps : List Str) (ds : List Value) : Prop :=
  ∀ (s : Shared) (us : List Value), K.In s.heap → (us ++ ds).length = ps.length → BindsTo s fd ⟨us, []⟩ (ps.zip (us ++ ds))
theorem Binds.all {K : PySem.W.Frag} {fd : FuncData} {ps : List Str} (h : ∀ us : List Value, us.length = ps.length → bindArgs fd ⟨us, []⟩ = pure (ps.zip us)) : Binds K fd ps [] := fun s us _ hl => by
  rw [List.append_nil] at hl ⊢
  exact .of_eq (h us hl)
noncomputable def Passes (CX : CXT) (X : Cx) (E : XK) : Prop := ∀ (pins : List (Addr × Obj)) (σ : St) (H : Hp) (s : Shared) (e : Value) (s' : Shared), Inv X pins σ H s → CX X.stack H s E e s' → X.xe e s'
section
variable {X : Cx} {CX : CXT} {k : Nat} {f C : Addr} {fd : FuncData} {ps : List Str} {sp : Sp} {dvs : List V} {ds : List Value} {E : XK} {x m : Str} {p pos apos : Pos} {e o : Expr} {es : List Expr} {ta : TE} {t : TA}
theorem run_fn {pins : List (Addr × Obj)} {σ : St} {H : Hp} {s : Shared} {Q : VK} {us : List Value} {vs : List V} (F : FnOk X.prog X.w X.K X.mg X.base CX k f fd ps sp) (hr : Room k X.A) (hb : Binds X.K fd ps ds) (hd : Vals dvs ds) (hx : Passes CX X E)
    (I : Inv X pins σ H s) (r : Vals vs us) (h : sp (vs ++ dvs) H Q E) : wpAny (model X.prog X.w) X.A (call (.ref f) us) (EP X pins σ Q) X.xe s := by
  have r2 : Vals (vs ++ dvs) (us ++ ds) := r.append hd
  have hl : (us ++ ds).length = ps.length := by rw [← r2.length]; exact F.len _ _ _ _ h
  refine wpAny_call (codeAny_mono (F.run X.A X.stack s H ⟨us, []⟩ (us ++ ds) (vs ++ dvs) Q E hr I.env0 (hb s us I.kIn hl) r2 h) fun r s' hq => ?_)
  cases r with
  | error e => exact hx pins σ H s e s' I hq
  | ok fl =>
    cases fl with
    | ret u => exact I.after hq
    | next => exact False.elim hq
    | brk => exact False.elim hq
    | cont => exact False.elim hq
theorem pe_call (F : FnOk X.prog X.w X.K X.mg X.base CX k f fd ps sp) (hr : Room k X.A) (hg : Gl X x) (hm : X.mg x = some (.ref f)) (hk : PySem.W.keepIn X.K (.ref f) = true) (hb : Binds X.K fd ps ds) (hd : Vals dvs ds) (hx : Passes CX X E)
    (ha : PA X (e :: es) t) (hdb : autoParam ((x == ("__debug__" : Str)) = false) L2.aDec._auto_1) (he : autoParam (starEach (e :: es) X.env = (false, eval e X.env) :: starEach es X.env) L2.aRfl._auto_1) (hpl : autoParam ((backTo pos (starEach es X.env)).any (·.1) = false) L2.aRfl._auto_1) :
    PE X (.Call (.Name x p) (e :: es) [] pos) (tCall sp dvs E t) := by
  intro pins s σ H Q I h
  refine wpAny_Call_Name_kw (ld_glob I hg hm ?_ hdb)
  refine PySem.W.callWith_K (h₀ := X.base) I.ok.mod.kin hk (thn (ha pos pins s σ H _ I h) fun us s1 ⟨vs, H1, I1, r, q⟩ => ⟨I1.kIn, ?_⟩) he hpl
  exact run_fn F hr hb hd hx I1 r q
theorem pe_meth {pl : Sem Bool} (he : PE X o ta) (c : Cls X.K C) (hm : Meth X.K C m f) (F : FnOk X.prog X.w X.K X.mg X.base CX k f fd ps sp) (hr : Room k X.A) (hb : Binds X.K fd ps ds) (hd : Vals dvs ds) (hx : Passes CX X E) (ha : PA X (e :: es) t)
    (hst : autoParam (starEach (e :: es) X.env = (false, eval e X.env) :: starEach es X.env) L2.aRfl._auto_1) (hpl : autoParam ((backTo pos (starEach es X.env)).any (·.1) = false) L2.aRfl._auto_1)
    (ht : eval (.Call (.Attribute o m apos) (e :: es) [] pos) X.env = (do
      let ov ← eval o X.env
      standAt apos.atName
      let (f, first) ← holding [ov] (getMethod ov m pl)
      callWith pos f first (backTo pos (starEach (e :: es) X.env)) (backToKw pos (keywordEach [] X.env))) := by rfl) :
    PE X (.Call (.Attribute o m apos) (e :: es) [] pos) (tMeth C m sp dvs E ta t) := by
  intro pins s σ H Q I h
  refine PySem.W.methodCall_KW (pl := pl) (thn (he pins s σ H _ I h) fun u s1 ⟨x, H1, I1, rx, a, dx, fs, ex, ea, l, q⟩ => ?_) ht
  subst ex
  obtain rfl : u = Value.ref a := rx
  refine getmeth_ok I1 ea c hm l ?_
  refine PySem.W.callWith_K (first := [.ref a]) (h₀ := X.base) I.ok.mod.kin hm.kp (thn (ha pos pins s1 σ H1 _ I1 q) fun us s2 ⟨vs, H2, I2, r, q2⟩ => ⟨I2.kIn, ?_⟩) hst hpl
  exact run_fn (us := .ref a :: us) (vs := .ref a :: vs) F hr hb hd hx I2 (.cons rfl r) q2
structure Mk (K : PySem.W.Frag) (C f : Addr) : Prop where
  makes : PySem.W.makesIn K C = true
  init : PySem.W.findIn K (.ref C) "__init__" = some (some (.ref f))
  fn : PySem.W.isFn K (.ref f) = true
  kp : PySem.W.keepIn K (.ref C) = true
theorem run_make {pins : List (Addr × Obj)} {σ : St} {H : Hp} {s : Shared} {Q : VK} {us : List Value} {vs : List V} (M : Mk X.K C f) (F : FnOk X.prog X.w X.K X.mg X.base CX k f fd ps sp) (hr : Room (k + 1) X.A) (hb : Binds X.K fd ps ds) (hd : Vals dvs ds)
    (hx : Passes CX X E) (I : Inv X pins σ H s) (r : Vals vs us)
    (h : ∀ x dx, H x = none → H dx = none → dx ≠ x → sp (.ref x :: (vs ++ dvs)) (upd (upd H dx (.own x)) x (.ins C dx [])) (fun v H2 => v = .non ∧ Q (.ref x) H2) E) :
    wpAny (model X.prog X.w) X.A (call (.ref C) us) (EP X pins σ Q) X.xe s := by
  have hq := h (s.heap.objs.size + 1) s.heap.objs.size (I.hok.fresh (Nat.le_succ _)) (I.hok.fresh (Nat.le_refl _)) (Nat.ne_of_lt (Nat.lt_succ_self _))
  have I2 := Inv.made (C := C) I
  have r2 : Vals (V.ref (s.heap.objs.size + 1) :: (vs ++ dvs)) (Value.ref (s.heap.objs.size + 1) :: (us ++ ds)) := .cons rfl (r.append hd)
  have hl : (Value.ref (s.heap.objs.size + 1) :: us ++ ds).length = ps.length := by
    have e := r2.length
    rw [F.len _ _ _ _ hq] at e
    exact e.symm
  refine wpAny_call (make_map (f := f) I.kIn M.makes M.init (beq_iff_eq.mp M.fn) (codeAny_mono (F.run _ X.stack _ _ ⟨Value.ref (s.heap.objs.size + 1) :: us, []⟩ (Value.ref (s.heap.objs.size + 1) :: (us ++ ds)) _ _ E (hr.make C us [])
    (I2.env0.make C us []) (hb _ (Value.ref (s.heap.objs.size + 1) :: us) I2.kIn hl) r2 hq) fun r s' hq' => ?_))
  cases r with
  | error e => exact hx pins σ _ _ e s' I2 hq'
  | ok fl =>
    cases fl with
    | ret u =>
      obtain ⟨v, H', I3, rv, ev, q3⟩ := I2.after hq'
      subst ev
      exact ⟨rv, ⟨V.ref (s.heap.objs.size + 1), H', I3, rfl, q3⟩⟩
    | next => exact False.elim hq'
    | brk => exact False.elim hq'
    | cont => exact False.elim hq'
theorem pe_make (M : Mk X.K C f) (F : FnOk X.prog X.w X.K X.mg X.base CX k f fd ps sp) (hr : Room (k + 1) X.A) (hg : Gl X x) (hm : X.mg x = some (.ref C)) (hb : Binds X.K fd ps ds) (hd : Vals dvs ds) (hx : Passes CX X E)
    (ha : PA X (e :: es) t) (hdb : autoParam ((x == ("__debug__" : Str)) = false) L2.aDec._auto_1) (he : autoParam (starEach (e :: es) X.env = (false, eval e X.env) :: starEach es X.env) L2.aRfl._auto_1) (hpl : autoParam ((backTo pos (starEach es X.env)).any (·.1) = false) L2.aRfl._auto_1) :
    PE X (.Call (.Name x p) (e :: es) [] pos) (tMake C sp dvs E t) := by
  intro pins s σ H Q I h
  refine wpAny_Call_Name_kw (ld_glob I hg hm ?_ hdb)
  refine PySem.W.callWith_K (h₀ := X.base) I.ok.mod.kin M.kp (thn (ha pos pins s σ H _ I h) fun us s1 ⟨vs, H1, I1, r, q⟩ => ⟨I1.kIn, ?_⟩) he hpl
  exact run_make M F hr hb hd hx I1 r q
end
section
variable {X : Cx} {CX : CXT} {k : Nat} {f C : Addr} {fd : FuncData} {ps ks : List Str} {sp : Sp} {E : XK} {x m : Str} {p pos apos kpos : Pos} {e o : Expr} {es : List Expr} {kws : List Keyword} {te ta : TE} {t tk : TA} {nm : Option Str}
variable {g : List Value → List Value → List Value} {gV : List V → List V → List V}
end
structure FnScope (N P : List Str) (sc : Scope) : Prop where
  kind : sc.kind = .function
  co : sc.isCoroutine = false
  gen : sc.isGenerator = false
  nd : N.Nodup
  pre : N.take P.length = P
  par : ∀ x ∈ P, sc.names.lookup x = some .local ∨ sc.names.lookup x = some .cell
  nofree : ∀ y ∈ sc.names, y.2 ≠ .free
theorem bindL_out {kindOf : Str → Option NameKind} {x : Str} : ∀ {binds : List (Str × Value)} {m : Str → Option Value}, (∀ v, (x, v) ∉ binds) → bindL kindOf binds m x = m x
  | [], _, _ => rfl
  | (n, v) :: r, m, h => by
    unfold bindL
    rw [bindL_out fun w hw => h w (List.mem_cons_of_mem _ hw)]
    split
    · have : x ≠ n := by rintro rfl; exact h v List.mem_cons_self
      simp [this]
    · rfl
theorem bindC_out {kindOf : Str → Option NameKind} {x : Str} : ∀ {binds : List (Str × Value)} {m : Str → Option Value}, (∀ v, (x, v) ∉ binds) → bindC kindOf binds m x = m x
  | [], _, _ => rfl
  | (n, v) :: r, m, h => by
    unfold bindC
    rw [bindC_out fun w hw => h w (List.mem_cons_of_mem _ hw)]
    split
    · rfl
    · have : x ≠ n := by rintro rfl; exact h v List.mem_cons_self
      simp [this]
theorem bindL_get {kindOf : Str → Option NameKind} {x : Str} {v : Value} : ∀ {P : List Str} {vs : List Value} {i : Nat} {m : Str → Option Value}, P.Nodup → P[i]? = some x → vs[i]? = some v → kindOf x = some .local →
    bindL kindOf (P.zip vs) m x = some v
  | [], _, _, _, _, h, _, _ => by simp at h
  | _ :: _, [], _, _, _, _, h, _ => by simp at h
  | p :: P, w :: vs, 0, m, nd, h1, h2, hk => by
    simp at h1 h2; subst h1; subst h2
    show bindL kindOf ((p, w) :: P.zip vs) m p = _
    unfold bindL
    rw [bindL_out fun v hv => (List.nodup_cons.mp nd).1 (List.of_mem_zip hv).1, if_pos hk]
    simp
  | p :: P, w :: vs, i + 1, m, nd, h1, h2, hk => by
    show bindL kindOf ((p, w) :: P.zip vs) m x = _
    unfold bindL
    exact bindL_get (i := i) (List.nodup_cons.mp nd).2 (by simpa using h1) (by simpa using h2) hk
theorem bindC_get {kindOf : Str → Option NameKind} {x : Str} {v : Value} : ∀ {P : List Str} {vs : List Value} {i : Nat} {m : Str → Option Value}, P.Nodup → P[i]? = some x → vs[i]? = some v → kindOf x ≠ some .local →
    bindC kindOf (P.zip vs) m x = some v
  | [], _, _, _, _, h, _, _ => by simp at h
  | _ :: _, [], _, _, _, _, h, _ => by simp at h
  | p :: P, w :: vs, 0, m, nd, h1, h2, hk => by
    simp at h1 h2; subst h1; subst h2
    show bindC kindOf ((p, w) :: P.zip vs) m p = _
    unfold bindC
    rw [bindC_out fun v hv => (List.nodup_cons.mp nd).1 (List.of_mem_zip hv).1, if_neg hk]
    simp
  | p :: P, w :: vs, i + 1, m, nd, h1, h2, hk => by
    show bindC kindOf ((p, w) :: P.zip vs) m x = _
    unfold bindC
    exact bindC_get (i := i) (List.nodup_cons.mp nd).2 (by simpa using h1) (by simpa using h2) hk
noncomputable def start (N : List Str) (vs : List V) : St := vs.map some ++ List.replicate (N.length - vs.length) none
noncomputable def cxOf (CX : CXT) (P : Program) (w : World) (K : PySem.W.Frag) (mg : Str → Option Value) (base : Heap) (N : List Str) (qual : Str) (scope : Scope) (f : Addr) (cd : Value) (A : Around) (outer : List Env) (s : Shared) (H : Hp) (E : XK) : Cx where
  prog := P
  w := w
  K := K
  mg := mg
  base := base
  A := A.deeper (envOfC qual scope s.heap.objs.size f cd)
  N := N
  s₀ := s
  H₀ := H
  env := envOfC qual scope s.heap.objs.size f cd
  outer := outer
  stack := envOfC qual scope s.heap.objs.size f cd :: outer
  ex := []
  calm := true
  fn := fun _ => true
  pn := []
  xe := fun e s' => wpAny (model P w) (A.deeper (envOfC qual scope s.heap.objs.size f cd)) (leaving (envOfC qual scope s.heap.objs.size f cd) e) (fun _ s'' => CX outer H s E e s'') (fun e' s'' => CX outer H s E e' s'') s'
theorem cell_has {sc : Scope} {n : Nat} {x : Str} (h : sc.names.lookup x = some .cell) : ∃ c, (cellsFrom n sc.names []).lookup x = some c := by
  have q := PySem.W.cellsFrom_some sc.names n [] (.inl h)
  exact Option.isSome_iff_exists.mp q
theorem inv_start {CX : CXT} {P : Program} {w : World} {K : PySem.W.Frag} {mg : Str → Option Value} {base : Heap} {N ps : List Str} {qual : Str} {scope : Scope} {f : Addr} {cd : Value} {A : Around} {outer : List Env} {s s1 : Shared} {H : Hp} {E : XK} {us : List Value} {vs : List V}
    (S : FnScope N ps scope) (hd : A.handled = none) (e0 : Env0 P w K mg base A outer s H) (hl : vs.length = ps.length) (r : Vals vs us)
    (x : InCallC s s.heap.objs.size (bindL (envOfC qual scope s.heap.objs.size f cd).kindOf (ps.zip us) fun _ => none) (cellsFrom (s.heap.objs.size + 1) scope.names []) (bindC (envOfC qual scope s.heap.objs.size f cd).kindOf (ps.zip us) fun _ => none) s1) :
    Inv (cxOf CX P w K mg base N qual scope f cd A outer s H E) [] (start N vs) H s1 := by
  have hpl : ps.length ≤ N.length := by have := congrArg List.length S.pre; rw [List.length_take] at this; omega
  obtain ⟨h1, tk, rfl, hk⟩ := x.done
  have noA : ∀ b : Addr, b ∉ (cxOf CX P w K mg base N qual scope f cd A outer s H E).ex := fun b z => absurd (show b ∈ ([] : List Addr) from z) (by simp)
  refine ⟨⟨e0.mod, S.kind, rfl, rfl, Nat.le_refl _, fun y z c h1 h2 => ?_, fun y hy => ?_, fun y c _ h => ?_, fun _ => hd, Around.frames_deeper e0.frames, .inr ⟨rfl, rfl⟩, fun b z => absurd z (noA b), e0.bs, e0.bsz, fun b _ _ => noA b, fun b z => absurd z (noA b), e0.funs, e0.frf⟩,
    rfl, e0.bare, Un.kept hk, ⟨_, x.toInCall.ns, fun i y v h1 h2 h3 => ?_⟩, fun y c h => ⟨_, x.cell y c h⟩, e0.hok.fresh (Nat.le_refl _), fun y c h => ?_, fun p hp => absurd (show p ∈ ([] : List (Addr × Obj)) from hp) (by simp), e0.hok.kept hk, ?_⟩
  · exact name_of_addr x.apart (PySem.mem_of_lookup h1) (PySem.mem_of_lookup h2)
  · have hy : scope.names.lookup y = some .cell ∨ scope.names.lookup y = some .free := hy
    rcases hy with hy | hy
    · exact cell_has hy
    · exact absurd rfl (S.nofree _ (PySem.mem_of_lookup hy))
  · exact Nat.le_of_lt (x.above y c (PySem.mem_of_lookup h))
  · have hi : i < vs.length := by
      unfold start at h2
      by_cases hi : i < vs.length
      · exact hi
      · rw [List.getElem?_append_right (by simpa using hi)] at h2
        rw [List.getElem?_replicate] at h2
        split at h2 <;> cases h2
    have ha : vs[i]? = some v := by
      unfold start at h2
      rw [List.getElem?_append_left (by simpa using hi), List.getElem?_map] at h2
      cases e : vs[i]? with
      | none => rw [e] at h2; cases h2
      | some a => rw [e] at h2; cases h2; rfl
    obtain ⟨u, hu, rv⟩ := r.get ha
    have hp : ps[i]? = some y := by
      rw [← S.pre, List.getElem?_take_of_lt (by omega)]; exact h1
    have ndP : ps.Nodup := by rw [← S.pre]; exact S.nd.sublist (List.take_sublist _ _)
    refine ⟨u, rv, ?_⟩
    rcases S.par y (List.mem_of_getElem? hp) with k | k
    · exact .inl ⟨k, bindL_get ndP hp hu k⟩
    · obtain ⟨c, e⟩ := cell_has (n := s.heap.objs.size + 1) k
      refine .inr ⟨.inl k, c, e, ?_⟩
      have q := x.cell y c e
      rw [bindC_get ndP hp hu (by show scope.names.lookup y ≠ _; rw [k]; decide)] at q
      exact q
  · exact e0.hok.fresh (Nat.le_of_lt (x.above y c (PySem.mem_of_lookup h)))
  · unfold start
    show _ = N.length
    rw [List.length_append, List.length_map, List.length_replicate]
    omega
theorem fn_of {CX : CXT} {P : Program} {w : World} {K : PySem.W.Frag} {mg : Str → Option Value} {base : Heap} {k : Nat} {f : Addr} {name qual : Str} {params : Arguments} {body : List Stmt} {scope : Scope} {dV kV doc pm cdv ct oc : Value} {an od : Option Addr}
    {osl : Array (Option Value)} {N ps : List Str} {sp : Sp} (lk : K.lookup f = some ⟨oc, od, .func (PySem.W.fnOf name qual params body scope dV kV doc pm an cdv ct), osl⟩) (hcd : PySem.W.codeIn K cdv qual = true) (S : FnScope N ps scope)
    (len : ∀ vs H Q E, sp vs H Q E → vs.length = ps.length)
    (hbody : ∀ (A : Around) (outer : List Env) (s : Shared) (H : Hp) (vs : List V) (Q : VK) (E : XK), Room k (A.deeper (envOfC qual scope s.heap.objs.size f cdv)) → sp vs H Q E →
      ∃ t, PSs (cxOf CX P w K mg base N qual scope f cdv A outer s H E) body t ∧ t { nx := fun _ H' => Q .non H', rt := Q } (start N vs) H) :
    FnOk P w K mg base CX (k + 1) f (PySem.W.fnOf name qual params body scope dV kV doc pm an cdv ct) ps sp := by
  refine ⟨len, fun A outer s H args us vs Q E hr e0 hb r hsp => ?_⟩
  have hl := len _ _ _ _ hsp
  have KX : K.In s.heap := e0.mod.kin.keeps fun b o e => (e0.bs b o e).1
  have lim : s.heap.NoLimit := e0.mod.nolimit.keeps fun b o e => (e0.bs b o e).1
  have hkind : ∀ y ∈ ps.zip us, scope.names.lookup y.1 = some .local ∨ (scope.names.lookup y.1 = some .cell ∧ ((cellsFrom (s.heap.objs.size + 1) scope.names []).lookup y.1).isSome = true) := fun ⟨n, v⟩ hy => by
    rcases S.par n (List.of_mem_zip hy).1 with q | q
    · exact .inl q
    · exact .inr ⟨q, PySem.W.cellsFrom_some _ _ _ (.inl q)⟩
  refine codeAny_call_function hr.depth (KX _ _ lk) rfl S.co S.gen rfl (PySem.W.codeRec_of KX hcd) (hb _ _ _ _ ?_)
  refine wpAny_newFunctionEnv_cells S.kind hkind fun env he s1 x => ?_
  subst he
  refine ⟨lim.keeps x.toInCall.keep, codeAny_func ?_⟩
  obtain ⟨t, ht, hq⟩ := hbody A outer s H vs Q E (hr.deeper _) hsp
  have I : Inv (cxOf CX P w K mg base N qual scope f cdv A outer s H E) [] (start N vs) H s1 := inv_start S hr.hd e0 hl r x
  refine wpAny_mono (ht [] s1 (start N vs) H _ I hq) (fun fl s' hs => ?_) fun e s' hs => hs
  have fin : ∀ {σ' : St} {H' : Hp} {v : V} {u : Value}, Inv (cxOf CX P w K mg base N qual scope f cdv A outer s H E) [] σ' H' s' → RelV v u → Q v H' → CE outer P w H s Q u s' :=
    fun {σ' H' v u} J rv q => ⟨v, H', J.os, J.bare, J.base, J.hok, rv, q⟩
  cases fl with
  | ret u =>
    obtain ⟨v, σ', H', J, rv, q⟩ := hs
    exact fin J rv q
  | next =>
    obtain ⟨σ', H', J, q⟩ := hs
    exact fin (v := V.non) (u := Value.none) J rfl q
  | brk =>
    obtain ⟨_, _, _, q⟩ := hs
    exact False.elim q
  | cont =>
    obtain ⟨_, _, _, q⟩ := hs
    exact False.elim q
end L2
namespace L2
open PySem PySem.Spec PyProof.Rows
section
variable {X : Cx} {x : Str} {p pos : Pos} {e : Expr} {es : List Expr} {t : TA} {id T : String} {r : List V → Hp → VK → Prop}
noncomputable def tCB (r : List V → Hp → VK → Prop) (t : TA) : TE := fun σ H Q => t σ H fun vs H1 => r vs H1 Q
theorem pe_callB (hc : CallR X (.builtin id) r) (hg : Gl X x) (hm : X.mg x = none) (hv : bootBuiltins x = some (.builtin id)) (ha : PA X (e :: es) t) (hn : autoParam (x ≠ "__name__") L2.aDec._auto_1) (hdb : autoParam ((x == ("__debug__" : Str)) = false) L2.aDec._auto_1)
    (he : autoParam (starEach (e :: es) X.env = (false, eval e X.env) :: starEach es X.env) L2.aRfl._auto_1) (hpl : autoParam ((backTo pos (starEach es X.env)).any (·.1) = false) L2.aRfl._auto_1) : PE X (.Call (.Name x p) (e :: es) [] pos) (tCB r t) := by
  intro pins s σ H Q I h
  refine wpAny_Call_Name_kw (ld_blt I hg hm hv ?_ hn hdb)
  exact PyProof.Rows.callWith_builtin1 (thn (ha pos pins s σ H _ I h) fun us s1 ⟨vs, H1, I1, r1, q1⟩ => hc pins s1 σ H1 vs us Q I1 r1 q1) he hpl
theorem pe_callTy (hc : CallR X (.type T) r) (hg : Gl X x) (hm : X.mg x = none) (hv : bootBuiltins x = some (.type T)) (ha : PA X (e :: es) t) (hn : autoParam (x ≠ "__name__") L2.aDec._auto_1) (hdb : autoParam ((x == ("__debug__" : Str)) = false) L2.aDec._auto_1)
    (he : autoParam (starEach (e :: es) X.env = (false, eval e X.env) :: starEach es X.env) L2.aRfl._auto_1) (hpl : autoParam ((backTo pos (starEach es X.env)).any (·.1) = false) L2.aRfl._auto_1) : PE X (.Call (.Name x p) (e :: es) [] pos) (tCB r t) := by
  intro pins s σ H Q I h
  refine wpAny_Call_Name_kw (ld_blt I hg hm hv ?_ hn hdb)
  exact PyProof.Rows.callWith_type1 (thn (ha pos pins s σ H _ I h) fun us s1 ⟨vs, H1, I1, r1, q1⟩ => hc pins s1 σ H1 vs us Q I1 r1 q1) he hpl
end
end L2
namespace HT
open PySem PyProof.Rows
section
open PySem.SeqAt
open PySem.AutoSeq1 (wpAny_loadPart')
open PySem.MeetsSeq PySem.MeetsSeq2 PySem.MeetsSeq3
end
section
variable {prog : Program} {w : World} {A : Around} {E : Value → Shared → Prop} {s : Shared}
theorem cat_tup {t b : Addr} {vs ws : List Value} {Q : Value → Shared → Prop} (ht : IsTup s.heap t vs.toArray) (hb : IsTup s.heap b ws.toArray) (hv : vs ≠ [])
    (h1 : ws = [] → Q (.ref t) s) (h2 : ws ≠ [] → Q (.ref s.heap.objs.size) { s with heap := s.heap.push { cls := .type "tuple", data := .seq (vs ++ ws).toArray } })
    (hsz : vs.length + ws.length ≤ sizeLine) : wpAny (model prog w) A (binaryOp .Add (.ref t) (.ref b)) Q E s := by
  obtain ⟨⟨cls, dd, data, sl⟩, ho, hc, n, hd⟩ := id ht
  obtain ⟨⟨cls2, dd2, data2, sl2⟩, ho2, hc2, n2, hd2⟩ := id hb
  simp only at hc hd hc2 hd2
  subst hc hd hc2 hd2
  have e : vs.toArray ++ ws.toArray = (vs ++ ws).toArray := by simp
  by_cases hw : ws = []
  · exact concat_meets ⟨_, ho, rfl⟩ ⟨_, ho2, rfl⟩ noFill_tuple_add seq_tuple_add PySem.F.slot_tuple_add PySem.F.entry_tuple_add (PySem.F.args_tuple_add_2 _ _)
      (tuple_addW1 t b vs.toArray ws.toArray n n2 dd dd2 sl sl2 (by simpa using hv) (by simp [hw])) ⟨ho, ho2, h1 hw⟩
  · refine concat_meets ⟨_, ho, rfl⟩ ⟨_, ho2, rfl⟩ noFill_tuple_add seq_tuple_add PySem.F.slot_tuple_add PySem.F.entry_tuple_add (PySem.F.args_tuple_add_2 _ _)
      (tuple_addW2 t b vs.toArray ws.toArray n n2 dd dd2 sl sl2 (by simpa using hv) (by simpa using hw) (by rw [List.size_toArray, List.size_toArray]; exact hsz)) ⟨ho, ho2, ?_⟩
    rw [e]
    exact h2 hw
noncomputable def sIx (n d : Nat) : Option Int → Nat
  | none => d
  | some v => if v < 0 then (v + (n : Int)).toNat else min v.toNat n
theorem sIx_none (n d : Nat) : sIx n d none = d := rfl
theorem sIx_nat (n d k : Nat) : sIx n d (some (k : Int)) = min k n := by
  show (if (k : Int) < 0 then ((k : Int) + (n : Int)).toNat else min (k : Int).toNat n) = min k n
  rw [if_neg (by omega), Int.toNat_natCast]
theorem sIx_le (n d : Nat) (hd : d ≤ n) (o : Option Int) : sIx n d o ≤ n := by
  cases o with
  | none => exact hd
  | some v =>
    show (if v < 0 then (v + (n : Int)).toNat else min v.toNat n) ≤ n
    by_cases hv : v < 0
    · rw [if_pos hv]; omega
    · rw [if_neg hv]; exact Nat.min_le_right _ _
theorem clip_eq (v : Int) (n d : Nat) : (if v < 0 then max (v + (n : Int)) 0 else min v (n : Int)) = ((sIx n d (some v) : Nat) : Int) := by
  show (if v < 0 then max (v + (n : Int)) 0 else min v (n : Int)) = (((if v < 0 then (v + (n : Int)).toNat else min v.toNat n) : Nat) : Int)
  by_cases hv : v < 0
  · simp only [if_pos hv]; omega
  · simp only [if_neg hv]; omega
theorem adjust_gen (lo hi : Option Int) (n : Nat) : Builtin.Slice.sliceAdjust lo hi 1 (n : Int) = (((sIx n 0 lo : Nat) : Int), ((sIx n n hi : Nat) : Int)) := by
  have h1 : ¬ ((1 : Int) < 0) := by omega
  unfold Builtin.Slice.sliceAdjust
  simp only [h1, if_false]
  refine Prod.ext ?_ ?_
  · cases lo with
    | none => rfl
    | some v => exact clip_eq v n 0
  · cases hi with
    | none => rfl
    | some v => exact clip_eq v n n
theorem places_gen (i j : Nat) : Builtin.Slice.slicePlaces (i : Int) (j : Int) 1 = j - i := by
  unfold Builtin.Slice.slicePlaces
  have h1 : (1 : Int) > 0 := by omega
  simp only [h1, if_true, Int.ediv_one]
  split <;> omega
theorem slicePart_ {v : Value} {o : Option Int} {Q : Option Int → Shared → Prop} (p : IsPart v o) (h : Q o s) : wpAny (model prog w) A (Builtin.Slice.slicePartIndex v) Q E s := by
  cases p with
  | none => exact slicePart_none h
  | int i t => exact slicePart_int h
theorem sliceApplied_gen {sl : Addr} {vl vu : Value} {lo hi : Option Int} {n : Nat} {Q : Int × Int × Nat → Shared → Prop} (hs : s.heap.IsSliceOf sl vl vu .none) (pl : IsPart vl lo) (pu : IsPart vu hi)
    (h : Q (((sIx n 0 lo : Nat) : Int), 1, sIx n n hi - sIx n 0 lo) s) : wpAny (model prog w) A (Builtin.Slice.sliceApplied (.ref sl) (pure (n : Int))) Q E s := by
  obtain ⟨os, hos, hcs, hds⟩ := id hs
  unfold Builtin.Slice.sliceApplied Builtin.Slice.sliceFields
  refine wpAny_bind (wpAny_bind (wpAny_field hos hds (x := vl) rfl (wpAny_bind (wpAny_field hos hds (x := vu) rfl (wpAny_bind (wpAny_field hos hds (x := .none) rfl (wpAny_pure ?_)))))))
  refine wpAny_bind (slicePart_none ?_)
  show wpAny _ _ (if ((1 : Int) == 0) = true then _ else _) _ _ s
  rw [if_neg (by decide)]
  refine wpAny_bind (slicePart_ pl (wpAny_bind (slicePart_ pu (wpAny_bind (wpAny_pure ?_)))))
  show wpAny _ _ (match Builtin.Slice.sliceAdjust lo hi 1 (n : Int) with | (lo, hi) => pure (lo, (1 : Int), Builtin.Slice.slicePlaces lo hi 1)) _ _ s
  rw [adjust_gen lo hi n]
  show wpAny _ _ (pure (((sIx n 0 lo : Nat) : Int), (1 : Int), Builtin.Slice.slicePlaces ((sIx n 0 lo : Nat) : Int) ((sIx n n hi : Nat) : Int) 1)) _ _ s
  rw [places_gen]
  exact wpAny_pure h
theorem pick_gen (xs : Array Value) (i k : Nat) : ((List.range k).filterMap fun (m : Nat) => xs[((i : Int) + (m : Int) * 1).toNat]?).toArray = ((xs.toList.drop i).take k).toArray := by
  have e : (fun (m : Nat) => xs[((i : Int) + (m : Int) * 1).toNat]?) = fun m => xs[i + m]? := by
    funext m
    have : ((i : Int) + (m : Int) * 1).toNat = i + m := by omega
    rw [this]
  rw [e]
  have := pick_run xs i k
  rw [List.filterMap_map] at this
  have e2 : ((fun x => xs[x]?) ∘ fun x => i + x) = fun m => xs[i + m]? := rfl
  rw [e2] at this
  rw [this]
theorem getItem_tuple_cut {t sl : Addr} {items : Array Value} {vl vu : Value} {lo hi : Option Int} {Q : Value → Shared → Prop} (ht : IsTup s.heap t items) (hs : s.heap.IsSliceOf sl vl vu .none) (pl : IsPart vl lo) (pu : IsPart vu hi)
    (hw : ¬ (sIx items.size 0 lo = 0 ∧ sIx items.size items.size hi = items.size))
    (h : Q (.ref s.heap.objs.size) { s with heap := s.heap.push { cls := .type "tuple", data := .seq ((items.toList.drop (sIx items.size 0 lo)).take (sIx items.size items.size hi - sIx items.size 0 lo)).toArray } })
    (hsz : items.size ≤ sizeLine) : wpAny (model prog w) A (getItem (.ref t) (.ref sl)) Q E s := by
  have htake : sizeOk (.seq ((items.toList.drop (sIx items.size 0 lo)).take (sIx items.size items.size hi - sIx items.size 0 lo)).toArray) := by
    show ((items.toList.drop (sIx items.size 0 lo)).take (sIx items.size items.size hi - sIx items.size 0 lo)).toArray.size ≤ sizeLine
    rw [List.size_toArray, List.length_take, List.length_drop, Array.length_toList]
    omega
  have hj : sIx items.size items.size hi ≤ items.size := sIx_le _ _ (Nat.le_refl _) hi
  obtain ⟨os, hos, hcs, hds⟩ := id hs
  have hTs : s.TypeIs (.ref sl) "slice" := ⟨os, hos, hcs⟩
  unfold getItem
  try with_reducible refine wpAny_holding ?_
  first | refine wpAny_bind (wpAny_pure ?_) | skip
  refine wpAny_bind (wpAny_sequenceKey ht.typeIs (by decide) ?_)
  refine wpAny_bind (wpAny_callSpecial?_slot (name := Str.ofString "__getitem__") ht.typeIs PyProof.Rows.slot_tuple_getitem
    (wpAny_call_entry PyProof.Rows.slot_tuple_getitem ht.typeIs entry_tuple_getitem ?_ (args_tuple_getitem _ _)))
  show wpAny _ _ (Builtin.Tuple.tupleItemsOf (.ref t) >>= _) _ _ s
  refine wpAny_bind (tupleItemsOf_ ht ?_)
  refine wpAny_bind (wpAny_typeOf hTs ?_)
  rw [if_pos (by decide)]
  refine wpAny_bind (sliceApplied_gen hs pl pu ?_)
  have hno : ¬ ((((sIx items.size 0 lo : Nat) : Int) == 0 && (1 : Int) == 1 && (sIx items.size items.size hi - sIx items.size 0 lo) == items.size) = true) := by
    intro q
    rw [Bool.and_eq_true, Bool.and_eq_true] at q
    have q1 : ((sIx items.size 0 lo : Nat) : Int) = 0 := eq_of_beq q.1.1
    have q2 : sIx items.size items.size hi - sIx items.size 0 lo = items.size := eq_of_beq q.2
    exact hw ⟨by omega, by omega⟩
  show wpAny _ _ (if (((sIx items.size 0 lo : Nat) : Int) == 0 && (1 : Int) == 1 && (sIx items.size items.size hi - sIx items.size 0 lo) == items.size) = true then _ else _) _ _ s
  rw [if_neg hno, pick_gen]
  first
    | exact wpAny_bind (m := Builtin.Tuple.tupleExact _) (wpAny_newObj_type (wpAny_pure ⟨_, rfl, wpAny_pure h⟩) htake)
    | exact wpAny_bind (m := Builtin.Tuple.tupleExact _) (wpAny_newObj_type (wpAny_bind (wpAny_pure (wpAny_pure ⟨_, rfl, wpAny_pure h⟩))) htake)
    | exact wpAny_bind (wpAny_bind (m := Builtin.Tuple.tupleExact _) (wpAny_newObj_type (wpAny_pure (wpAny_pure ⟨_, rfl, wpAny_pure h⟩)) htake))
    | exact wpAny_bind (wpAny_bind (m := Builtin.Tuple.tupleExact _) (wpAny_newObj_type (wpAny_pure ⟨_, rfl, wpAny_pure h⟩) htake))
end
end HT
namespace L2
open PySem PySem.Spec PyProof.Rows
noncomputable abbrev TO := St → Hp → (Option Int → Hp → Prop) → Prop
noncomputable def PO (X : Cx) (e : Option Expr) (t : TO) : Prop :=
  ∀ (pins : List (Addr × Obj)) (s : Shared) (σ : St) (H : Hp) (Q : Option Int → Hp → Prop), Inv X pins σ H s → t σ H Q →
    wpAny (model X.prog X.w) X.A (evalPart e X.env) (fun u s' => ∃ o H', Inv X pins σ H' s' ∧ IsPart u o ∧ Q o H') X.xe s
noncomputable def tNoPart : TO := fun _ H Q => Q none H
noncomputable def tPart (t : TE) : TO := fun σ H Q => t σ H fun x H1 => ∃ i, x = .int i ∧ Q (some i) H1
theorem intsAre_of {ns : List Int} : ∀ {us : List Value}, Vals (ns.map V.int) us → IntsAre us ns := by
  induction ns with
  | nil => intro us r; rw [List.map_nil] at r; cases r; exact .nil
  | cons n ns ih =>
    intro us r
    rw [List.map_cons] at r
    cases r with
    | cons r1 r2 =>
      obtain ⟨t, e⟩ := r1
      subst e
      exact .cons n t (ih r2)
section
variable {X : Cx} {e : Expr} {te : TE} {lo hi : Option Expr} {tl th : TO} {pos p2 : Pos}
theorem po_none : PO X none tNoPart := by
  intro pins s σ H Q I h
  rw [evalPart_none]
  exact wpAny_pure ⟨none, H, I, .none, h⟩
theorem po_some (h : PE X e te) : PO X (some e) (tPart te) := by
  intro pins s σ H Q I hw
  rw [evalPart_some]
  refine thn (h pins s σ H _ I hw) fun u s1 ⟨x, H1, I1, r1, q1⟩ => ?_
  obtain ⟨i, rfl, q⟩ := q1
  obtain ⟨t, rfl⟩ := r1
  exact ⟨some i, H1, I1, .int i t, q⟩
noncomputable def SlR (X : Cx) (r : V → Option Int → Option Int → Hp → VK → Prop) : Prop :=
  ∀ (pins : List (Addr × Obj)) (s : Shared) (σ : St) (H : Hp) (x : V) (v vl vu : Value) (lo hi : Option Int) (sl : Addr) (Q : VK), Inv X pins σ H s → RelV x v → s.heap.IsSliceOf sl vl vu .none → IsPart vl lo → IsPart vu hi → r x lo hi H Q →
    ∃ T id, typeLookup (.type T) "__getitem__" = pure (some (.builtin id)) ∧ s.TypeIs v T ∧ wpAny (model X.prog X.w) X.A (getItem v (.ref sl)) (EP X pins σ Q) X.xe s
noncomputable def tSl (r : V → Option Int → Option Int → Hp → VK → Prop) (te : TE) (tl th : TO) : TE := fun σ H Q => te σ H fun x H1 => tl σ H1 fun l H2 => th σ H2 fun u H3 => r x l u H3 Q
theorem pe_slice {r : V → Option Int → Option Int → Hp → VK → Prop} (hr : SlR X r) (he : PE X e te) (hl : PO X lo tl) (hu : PO X hi th) : PE X (.Subscript e (.Slice lo hi none p2) pos) (tSl r te tl th) := by
  intro pins s σ H Q I h
  refine Subscript_ (thn (he pins s σ H _ I h) fun v s1 ⟨x, H1, I1, r1, q1⟩ => ?_)
  refine wpAny_Slice (thn (hl pins s1 σ H1 _ I1 q1) fun vl s2 ⟨l, H2, I2, pl, q2⟩ => thn (hu pins s2 σ H2 _ I2 q2) fun vu s3 ⟨u, H3, I3, pu, q3⟩ => ?_)
  rw [evalPart_none]
  refine wpAny_pure ?_
  have I4 : Inv X pins σ H3 { s3 with heap := s3.heap.push { cls := .type "slice", data := .fields #[vl, vu, .none] } } := I3.kept (t' := s3.toks) fun b ob q => Heap.get?_push_of_some _ q
  obtain ⟨T, id, hT, ht, hg⟩ := hr pins { s3 with heap := s3.heap.push { cls := .type "slice", data := .fields #[vl, vu, .none] } } σ H3 x v vl vu l u s3.heap.objs.size Q I4 r1 (Heap.IsSliceOf.new ..) pl pu q3
  show wpAny (model X.prog X.w) X.A (subscriptTail e (.Slice lo hi none p2) v (.ref s3.heap.objs.size)) (EP X pins σ Q) X.xe { s3 with heap := s3.heap.push { cls := .type "slice", data := .fields #[vl, vu, .none] } }
  exact tail_any (ops := [.ref s3.heap.objs.size, v]) ht hT hg (by with_unfolding_all rfl)
noncomputable def cutV (xs : List V) (lo hi : Option Int) : List V := (xs.drop (HT.sIx xs.length 0 lo)).take (HT.sIx xs.length xs.length hi - HT.sIx xs.length 0 lo)
theorem cutV_length (xs : List V) (lo hi : Option Int) : (cutV xs lo hi).length ≤ xs.length := by
  unfold cutV
  rw [List.length_take, List.length_drop]
  omega
noncomputable def rSlT (K : PySem.W.Frag) : V → Option Int → Option Int → Hp → VK → Prop := fun x lo hi H Q => ∃ a xs, x = .ref a ∧ SqT K H a xs ∧
  ¬ (HT.sIx xs.length 0 lo = 0 ∧ HT.sIx xs.length xs.length hi = xs.length) ∧ ∀ p, H p = none → Q (.ref p) (upd H p (.tup (cutV xs lo hi)))
theorem sl_tup : SlR X (rSlT X.K) := by
  intro pins s σ H x v vl vu lo hi sl Q I rx hs pl pu h
  obtain ⟨a, xs, rfl, hx, hw, q⟩ := h
  cases rx
  obtain ⟨its, r, ht, hz⟩ := I.tuple hx
  have hlen : its.toArray.size = xs.length := by rw [List.size_toArray]; exact r.length.symm
  refine ⟨"tuple", _, PyProof.Rows.slot_tuple_getitem.lookup, ht.typeIs, ?_⟩
  refine HT.getItem_tuple_cut ht hs pl pu (by rw [hlen]; exact hw) ?_ (by rw [hlen]; exact hz)
  rw [hlen]
  refine ⟨.ref s.heap.objs.size, _, I.laid (t' := s.toks) (o := .tup (cutV xs lo hi)) (fun b ob q => Heap.get?_push_of_some _ q) (Nat.le_refl _) ?_, rfl, q _ (I.hok.fresh (Nat.le_refl _))⟩
  exact ⟨Nat.le_trans (cutV_length xs lo hi) hz, _, (r.drop (HT.sIx xs.length 0 lo)).take (HT.sIx xs.length xs.length hi - HT.sIx xs.length 0 lo), IsTup.new _ _⟩
noncomputable def rCatT (K : PySem.W.Frag) : R2 := fun x y H Q => ∃ a b xs ys, x = .ref a ∧ y = .ref b ∧ SqT K H a xs ∧ SqT K H b ys ∧ xs ≠ [] ∧ xs.length + ys.length ≤ sizeLine ∧
  (ys = [] → Q (.ref a) H) ∧ (ys ≠ [] → ∀ p, H p = none → Q (.ref p) (upd H p (.tup (xs ++ ys))))
theorem Vals.nil_iff {xs : List V} {us : List Value} (r : Vals xs us) : us = [] ↔ xs = [] := by
  cases r with
  | nil => simp
  | cons _ _ => simp
theorem op_catT : OpR X (binaryOp .Add) (rCatT X.K) := by
  intro pins s σ H x y v u Q I rx ry h
  obtain ⟨a, b, xs, ys, rfl, rfl, ha, hb, hx, hz, q1, q2⟩ := h
  cases rx
  cases ry
  obtain ⟨its, r1, p1, _⟩ := I.tuple ha
  obtain ⟨its2, r2, p2, _⟩ := I.tuple hb
  refine HT.cat_tup p1 p2 (fun z => hx (r1.nil_iff.mp z)) (fun z => ⟨.ref a, H, I, rfl, q1 (r2.nil_iff.mp z)⟩) (fun z => ?_) (by rw [← r1.length, ← r2.length]; exact hz)
  refine ⟨.ref s.heap.objs.size, _, I.laid (t' := s.toks) (o := .tup (xs ++ ys)) (fun b ob q => Heap.get?_push_of_some _ q) (Nat.le_refl _) ?_, rfl, q2 (fun w => z (r2.nil_iff.mpr w)) _ (I.hok.fresh (Nat.le_refl _))⟩
  exact ⟨by rw [List.length_append]; exact hz, _, r1.append r2, IsTup.new _ _⟩
end
end L2
namespace L2
open PySem PySem.Spec PyProof.Rows
noncomputable def ixN (n : Nat) (i : Int) : Option Nat := if 0 ≤ i then (if i < n then some i.toNat else none) else if -(n : Int) ≤ i then some (i + n).toNat else none
noncomputable def atI {α : Type} (xs : List α) (i : Int) : Option α := (ixN xs.length i).bind fun j => xs[j]?
theorem ixN_seq {n : Nat} {i : Int} {j : Nat} (h : ixN n i = some j) : seqIndex? i n = some j ∧ j < n ∧ -(n : Int) ≤ i ∧ i < n := by
  unfold ixN at h
  by_cases h0 : 0 ≤ i
  · rw [if_pos h0] at h
    by_cases h1 : i < n
    · rw [if_pos h1] at h
      have e : i.toNat = j := Option.some.inj h
      exact ⟨by rw [seqIndex_of h0 h1, e], by omega, by omega, h1⟩
    · rw [if_neg h1] at h; cases h
  · rw [if_neg h0] at h
    by_cases h1 : -(n : Int) ≤ i
    · rw [if_pos h1] at h
      have e : (i + n).toNat = j := Option.some.inj h
      exact ⟨by rw [seqIndex_neg (by omega) h1, e], by omega, h1, by omega⟩
    · rw [if_neg h1] at h; cases h
theorem atI_get {α : Type} {xs : List α} {i : Int} {v : α} (h : atI xs i = some v) : ∃ j, seqIndex? i xs.length = some j ∧ xs[j]? = some v ∧ j < xs.length ∧ -(xs.length : Int) ≤ i ∧ i < xs.length := by
  unfold atI at h
  cases e : ixN xs.length i with
  | none => rw [e] at h; cases h
  | some j =>
    rw [e] at h
    obtain ⟨h1, h2, h3, h4⟩ := ixN_seq e
    exact ⟨j, h1, h, h2, h3, h4⟩
theorem atI_nat {α : Type} {xs : List α} {j : Nat} {v : α} (h : xs[j]? = some v) : atI xs (j : Int) = some v := by
  have hj : j < xs.length := (List.getElem?_eq_some_iff.mp h).1
  have e : ixN xs.length (j : Int) = some j := by
    unfold ixN
    rw [if_pos (by omega), if_pos (by omega)]; simp
  unfold atI; rw [e]; exact h
noncomputable def PlainIx (b : Expr) : Prop := ∀ o i, subscripted b false o i = operate [o, i] (getItem o i)
noncomputable def IxR (X : Cx) (r : R2) : Prop :=
  ∀ (value slice : Expr) (pins : List (Addr × Obj)) (s : Shared) (σ : St) (H : Hp) (x y : V) (v u : Value) (Q : VK), Inv X pins σ H s → RelV x v → RelV y u → r x y H Q →
    subscripted slice false v u = operate [v, u] (getItem v u) → wpAny (model X.prog X.w) X.A (subscriptTail value slice v u) (EP X pins σ Q) X.xe s
noncomputable def MtR (X : Cx) (id : String) (r : V → List V → Hp → VK → Prop) : Prop :=
  ∀ (pins : List (Addr × Obj)) (s : Shared) (σ : St) (H : Hp) (x : V) (xs : List V) (v : Value) (us : List Value) (Q : VK), Inv X pins σ H s → RelV x v → Vals xs us → r x xs H Q →
    wpAny (model X.prog X.w) X.A (call (.builtin id) (v :: us)) (EP X pins σ Q) X.xe s
section
variable {X : Cx} {a b : Expr} {ta tb : TE} {pos : Pos}
theorem pe_ix {r : R2} (hr : IxR X r) (ha : PE X a ta) (hb : PE X b tb) (hs : PlainIx b) : PE X (.Subscript a b pos) (tOp r ta tb) := by
  intro pins s σ H Q I h
  exact Subscript_ (binT ha hb I h fun v u s2 x y H2 I2 rx ry q => hr a b pins s2 σ H2 x y v u Q I2 rx ry q (hs _ _))
noncomputable def rIxL (K : PySem.W.Frag) : R2 := fun x y H Q => ∃ p xs i v, x = .ref p ∧ y = .int i ∧ SqL K H p xs ∧ atI xs i = some v ∧ Q v H
noncomputable def rIxT (K : PySem.W.Frag) : R2 := fun x y H Q => ∃ p xs i v, x = .ref p ∧ y = .int i ∧ SqT K H p xs ∧ atI xs i = some v ∧ Q v H
noncomputable def rIxS : R2 := fun x y H Q => ∃ z i c, x = .str z ∧ y = .int i ∧ z.length ≤ sizeLine ∧ atI z.cps.toList i = some c ∧ Q (.str ⟨#[c]⟩) H
theorem ix_list : IxR X (rIxL X.K) := by
  intro value slice pins s σ H x y v u Q I rx ry h hs
  obtain ⟨p, xs, i, z, rfl, rfl, hq, he, q⟩ := h
  cases rx
  obtain ⟨t, rfl⟩ := ry
  obtain ⟨its, r, pl, hz⟩ := I.list hq
  obtain ⟨j, h1, h2, h3, h4, h5⟩ := atI_get he
  obtain ⟨w, ew, rw'⟩ := r.get h2
  have hl := r.length
  have hn := line63
  have fin : EP X pins σ Q w s := ⟨z, H, I, rw', q⟩
  by_cases h0 : 0 ≤ i
  · have hj : i.toNat = j := by
      rw [seqIndex_of h0 h5] at h1
      exact Option.some.inj h1
    exact item_listR pl.isList h0 (by omega) (by rw [hj]; simpa using ew) fin hs
  · have hj : (i + (its.toArray.size : Int)).toNat = j := by
      rw [seqIndex_neg (by omega) h4] at h1
      rw [List.size_toArray, ← hl]
      exact Option.some.inj h1
    exact subscriptTail_builtinR (x := w) pl.isList.typeIs slot_list_getitem.lookup
      (wpAny_getItem_list_neg (Q := fun r s' => r = w ∧ EP X pins σ Q r s') pl.isList (by omega) (by rw [List.size_toArray] <;> omega) (by omega) (by rw [hj]; simpa using ew) ⟨rfl, fin⟩) hs
theorem ix_tup : IxR X (rIxT X.K) := by
  intro value slice pins s σ H x y v u Q I rx ry h hs
  obtain ⟨p, xs, i, z, rfl, rfl, hq, he, q⟩ := h
  cases rx
  obtain ⟨t, rfl⟩ := ry
  obtain ⟨its, r, pl, hz⟩ := I.tuple hq
  obtain ⟨j, h1, h2, h3, h4, h5⟩ := atI_get he
  obtain ⟨w, ew, rw'⟩ := r.get h2
  have hl := r.length
  have hn := line63
  have fin : EP X pins σ Q w s := ⟨z, H, I, rw', q⟩
  exact subscriptTail_builtinR (x := w) pl.typeIs slot_tuple_getitem.lookup
    (getItem_tuple (j := j) (Q := fun r s' => r = w ∧ EP X pins σ Q r s') pl (by omega) (by omega) (by rw [List.size_toArray, ← hl]; exact h1) (by simpa using ew) ⟨rfl, fin⟩) hs
theorem ix_str : IxR X rIxS := by
  intro value slice pins s σ H x y v u Q I rx ry h hs
  obtain ⟨z, i, c, rfl, rfl, hz, he, q⟩ := h
  obtain ⟨t, rfl⟩ := rx
  obtain ⟨t', rfl⟩ := ry
  obtain ⟨j, h1, h2, h3, h4, h5⟩ := atI_get he
  have hl : z.cps.toList.length = z.length := by simp [Str.length]
  rw [hl] at h1 h4 h5
  have hn := line63
  exact tail_any (typeIs_str s z t) slot_str_getitem.lookup (getItem_str (c := c) (by
    have e1 : decide (i < -(2 ^ 63 : Int)) = false := decide_eq_false (by omega)
    have e2 : decide (i ≥ 2 ^ 63) = false := decide_eq_false (by omega)
    rw [e1, e2, Bool.or_false]) (by rw [h1]; simpa using h2) ⟨.str ⟨#[c]⟩, H, I.tok _, ⟨_, rfl⟩, q⟩) hs
theorem slice_bounds (lo hi : Option Int) (n : Nat) : (sliceBounds lo hi none n).1 = ((HT.sIx n 0 lo : Nat) : Int) ∧ (sliceBounds lo hi none n).2.1 = ((HT.sIx n n hi : Nat) : Int) ∧ (sliceBounds lo hi none n).2.2 = 1 := by
  refine ⟨?_, ?_, rfl⟩
  · cases lo with
    | none => simp [sliceBounds, HT.sIx]
    | some i =>
      simp only [sliceBounds, HT.sIx, Option.getD_none, show (1 : Int) > 0 by decide, if_true]
      by_cases h : i < 0
      · simp only [h, if_true] <;> omega
      · simp only [h, if_false] <;> omega
  · cases hi with
    | none => simp [sliceBounds, HT.sIx]
    | some i =>
      simp only [sliceBounds, HT.sIx, Option.getD_none, show (1 : Int) > 0 by decide, if_true]
      by_cases h : i < 0
      · simp only [h, if_true] <;> omega
      · simp only [h, if_false] <;> omega
theorem slicePick_cut (its : List Value) (lo hi : Option Int) : slicePick its.toArray lo hi none = ((its.drop (HT.sIx its.length 0 lo)).take (HT.sIx its.length its.length hi - HT.sIx its.length 0 lo)).toArray := by
  obtain ⟨h1, h2, h3⟩ := slice_bounds lo hi its.toArray.size
  unfold slicePick
  rw [h1, h2, h3]
  simp only [sliceRange_one, pick_run, List.size_toArray] <;> rfl
noncomputable def rSlL (K : PySem.W.Frag) : V → Option Int → Option Int → Hp → VK → Prop := fun x lo hi H Q => ∃ a xs, x = .ref a ∧ SqL K H a xs ∧ ∀ p, H p = none → Q (.ref p) (upd H p (.lst (cutV xs lo hi)))
theorem sl_list : SlR X (rSlL X.K) := by
  intro pins s σ H x v vl vu lo hi sl Q I rx hs pl pu h
  obtain ⟨a, xs, rfl, hx, q⟩ := h
  cases rx
  obtain ⟨its, r, ht, hz⟩ := I.list hx
  have hlen := r.length
  refine ⟨"list", _, slot_list_getitem.lookup, ht.isList.typeIs, ?_⟩
  refine wpAny_getItem_list_slice ht.isList hs pl pu .none (by simp) ?_ (by rw [List.size_toArray] <;> omega)
  rw [slicePick_cut, ← hlen]
  refine ⟨.ref s.heap.objs.size, _, I.laid (t' := s.toks) (o := .lst (cutV xs lo hi)) (fun b ob q => Heap.get?_push_of_some _ q) (Nat.le_refl _) ?_, rfl, q _ (I.hok.fresh (Nat.le_refl _))⟩
  exact ⟨Nat.le_trans (cutV_length xs lo hi) hz, _, 0, (r.drop (HT.sIx xs.length 0 lo)).take (HT.sIx xs.length xs.length hi - HT.sIx xs.length 0 lo), Heap.get?_push_size _ rfl⟩
noncomputable def flatV : V → Bool
  | .non => true
  | .bl _ => true
  | .int _ => true
  | .str _ => true
  | _ => false
noncomputable def eqV : V → V → Bool
  | .non, .non => true
  | .bl a, .bl b => a == b
  | .bl a, .int b => (if a then 1 else 0) == b
  | .int a, .bl b => a == (if b then 1 else 0)
  | .int a, .int b => a == b
  | .str a, .str b => a == b
  | _, _ => false
theorem eqAt_V {A : Around} {s : Shared} {y x : V} {u v : Value} (ry : RelV y u) (rx : RelV x v) (fy : flatV y = true) (fx : flatV x = true) : SeqAt.EqAt A s u v (eqV y x) := by
  cases y with
  | non =>
    cases ry
    cases x with
    | non => cases rx; exact SeqAt.EqAt.same _
    | bl b => cases rx; exact SeqAt.EqAt.none_bool b
    | int b => obtain ⟨t, rfl⟩ := rx; exact SeqAt.EqAt.none_int b t
    | str b => obtain ⟨t, rfl⟩ := rx; exact SeqAt.EqAt.none_str b t
    | _ => exact absurd (show false = true from fx) Bool.false_ne_true
  | bl a =>
    cases ry
    cases x with
    | non => cases rx; exact SeqAt.EqAt.bool_none a
    | bl b => cases rx; exact SeqAt.EqAt.bool_bool a b
    | int b => obtain ⟨t, rfl⟩ := rx; exact SeqAt.EqAt.bool_int a b t
    | str b => obtain ⟨t, rfl⟩ := rx; exact SeqAt.EqAt.bool_str a b t
    | _ => exact absurd (show false = true from fx) Bool.false_ne_true
  | int a =>
    obtain ⟨t', rfl⟩ := ry
    cases x with
    | non => cases rx; exact SeqAt.EqAt.int_none a t'
    | bl b => cases rx; exact SeqAt.EqAt.int_bool a t' b
    | int b => obtain ⟨t, rfl⟩ := rx; exact SeqAt.EqAt.int_int a t' b t
    | str b => obtain ⟨t, rfl⟩ := rx; exact SeqAt.EqAt.int_str a t' b t
    | _ => exact absurd (show false = true from fx) Bool.false_ne_true
  | str a =>
    obtain ⟨t', rfl⟩ := ry
    cases x with
    | non => cases rx; exact SeqAt.EqAt.str_none a t'
    | bl b => cases rx; exact SeqAt.EqAt.str_bool a t' b
    | int b => obtain ⟨t, rfl⟩ := rx; exact SeqAt.EqAt.str_int a t' b t
    | str b => obtain ⟨t, rfl⟩ := rx; exact SeqAt.EqAt.str_str a t' b t
    | _ => exact absurd (show false = true from fx) Bool.false_ne_true
  | _ => exact absurd (show false = true from fy) Bool.false_ne_true
noncomputable def eqU (x : V) (u : Value) : Bool := match u with
  | .none => eqV .non x
  | .bool b => eqV (.bl b) x
  | .int i _ => eqV (.int i) x
  | .str z _ => eqV (.str z) x
  | _ => false
theorem eqU_of {x y : V} {u : Value} (r : RelV y u) (f : flatV y = true) : eqU x u = eqV y x := by
  cases y with
  | non => cases r; rfl
  | bl b => cases r; rfl
  | int i => obtain ⟨t, rfl⟩ := r; rfl
  | str z => obtain ⟨t, rfl⟩ := r; rfl
  | _ => exact absurd (show false = true from f) Bool.false_ne_true
theorem any_eqU {x : V} : ∀ {xs : List V} {us : List Value}, Vals xs us → xs.all flatV = true → us.any (eqU x) = xs.any fun y => eqV y x
  | _, _, .nil, _ => rfl
  | y :: xs, u :: us, .cons r t, f => by
    rw [List.all_cons, Bool.and_eq_true] at f
    rw [List.any_cons, List.any_cons, eqU_of r f.1, any_eqU t f.2]
theorem mem_eqAt {A : Around} {s : Shared} {x : V} {v : Value} (rx : RelV x v) (fx : flatV x = true) : ∀ {xs : List V} {us : List Value}, Vals xs us → xs.all flatV = true → ∀ u ∈ us, SeqAt.EqAt A s u v (eqU x u)
  | _, _, .nil, _ => fun u hu => by cases hu
  | y :: xs, u :: us, .cons r t, f => fun u' hu => by
    rw [List.all_cons, Bool.and_eq_true] at f
    rcases List.mem_cons.mp hu with rfl | hu
    · rw [eqU_of r f.1]; exact eqAt_V r rx f.1 fx
    · exact mem_eqAt rx fx t f.2 u' hu
noncomputable def inV (x : V) (xs : List V) : Bool := xs.any fun y => eqV y x
noncomputable def rIn (K : PySem.W.Frag) (neg : Bool) : R2 := fun x y H Q => ∃ p xs, y = .ref p ∧ (SqL K H p xs ∨ SqT K H p xs) ∧ flatV x = true ∧ xs.all flatV = true ∧ Q (.bl (if neg then !inV x xs else inV x xs)) H
theorem op_in_seq : OpR X (compareOp .In) (rIn X.K false) := by
  intro pins s σ H x y v u Q I rx ry h
  obtain ⟨p, xs, rfl, hq, fx, fs, q⟩ := h
  cases ry
  rcases hq with hq | hq
  · obtain ⟨its, r, pl, hz⟩ := I.list hq
    refine SeqAt.in_listAt (eqU x) pl.isList (fun w hw => mem_eqAt rx fx r fs w (by simpa using hw)) ⟨.bl _, H, I, rfl, ?_⟩
    rw [show its.toArray.any (eqU x) = its.any (eqU x) by simp, any_eqU r fs]
    exact q
  · obtain ⟨its, r, pl, hz⟩ := I.tuple hq
    refine SeqAt.in_tupleAt (eqU x) pl (fun w hw => mem_eqAt rx fx r fs w (by simpa using hw)) ⟨.bl _, H, I, rfl, ?_⟩
    rw [show its.toArray.any (eqU x) = its.any (eqU x) by simp, any_eqU r fs]
    exact q
theorem call_len_seq : CallR X (.builtin "len") (fun xs H Q => ∃ p ys, xs = [.ref p] ∧ (SqL X.K H p ys ∨ SqT X.K H p ys) ∧ Q (.int ys.length) H) := by
  intro pins s σ H xs us Q I r h
  obtain ⟨p, ys, rfl, hq, q⟩ := h
  obtain ⟨u, rfl, rx⟩ := vals1 r
  cases rx
  have hn := line63
  rcases hq with hq | hq
  · obtain ⟨its, r', pl, hz⟩ := I.list hq
    have hlen := r'.length
    exact Calls.call_len_list pl.isList (by simp only [List.size_toArray] <;> omega) ⟨.int ys.length, H, I.tok _, ⟨s.toks + 1, by rw [List.size_toArray, hlen]⟩, q⟩
  · obtain ⟨its, r', pl, hz⟩ := I.tuple hq
    have hlen := r'.length
    exact len_tuple pl (by simp only [List.size_toArray] <;> omega) ⟨.int ys.length, H, I.tok _, ⟨s.toks + 1, by rw [List.size_toArray, hlen]⟩, q⟩
theorem call_list_of : CallR X (.type "list") (fun xs H Q => ∃ p ys, xs = [.ref p] ∧ (SqL X.K H p ys ∨ SqT X.K H p ys) ∧ ∀ l, H l = none → Q (.ref l) (upd H l (.lst ys))) := by
  intro pins s σ H xs us Q I r h
  obtain ⟨p, ys, rfl, hq, q⟩ := h
  obtain ⟨u, rfl, rx⟩ := vals1 r
  cases rx
  have fin : ∀ (its : List Value), Vals ys its → ys.length ≤ sizeLine → ∀ (h' : Heap) (c' : Nat), (∀ b o', s.heap.get? b = some o' → h'.get? b = some o') →
      h'.get? s.heap.objs.size = some { cls := .type "list", dict := none, data := .seq its.toArray c', slots := #[] } → EP X pins σ Q (.ref s.heap.objs.size) { s with heap := h' } := fun its r' hz h' c' kp e =>
    ⟨.ref s.heap.objs.size, _, I.laid (t' := s.toks) kp (Nat.le_refl _) (show ObjOk X.prog X.w _ h' _ (.lst ys) from ⟨hz, its, c', r', e⟩), rfl, q _ (I.hok.fresh (Nat.le_refl _))⟩
  rcases hq with hq | hq
  · obtain ⟨its, r', pl, hz⟩ := I.list hq
    have hlen := r'.length
    obtain ⟨o, ho, hc, n, hd⟩ := pl.isList
    exact call_list_seq p (.inl rfl) ho hc hd (fun h' c' kp e => fin its r' hz h' c' kp e) (by simp only [List.size_toArray] <;> omega)
  · obtain ⟨its, r', pl, hz⟩ := I.tuple hq
    have hlen := r'.length
    obtain ⟨o, ho, hc, n, hd⟩ := pl
    exact call_list_seq p (.inr rfl) ho hc hd (fun h' c' kp e => fin its r' hz h' c' kp e) (by simp only [List.size_toArray] <;> omega)
theorem call_tuple_of : CallR X (.type "tuple") (fun xs H Q => ∃ p ys, xs = [.ref p] ∧ ((SqL X.K H p ys ∧ ∀ l, H l = none → Q (.ref l) (upd H l (.tup ys))) ∨ (SqT X.K H p ys ∧ Q (.ref p) H))) := by
  intro pins s σ H xs us Q I r h
  obtain ⟨p, ys, rfl, h⟩ := h
  obtain ⟨u, rfl, rx⟩ := vals1 r
  cases rx
  rcases h with ⟨hq, q⟩ | ⟨hq, q⟩
  · obtain ⟨its, r', pl, hz⟩ := I.list hq
    have hlen := r'.length
    refine call_tuple_list pl.isList (fun h' kp => ?_) (by simp only [List.size_toArray] <;> omega)
    have I1 : Inv X pins σ H { s with heap := h' } := I.kept (t' := s.toks) kp
    have I2 : Inv X pins σ (upd H h'.objs.size (.tup ys)) { s with heap := h'.push { cls := .type "tuple", data := .seq its.toArray } } :=
      I1.laid (t' := s.toks) (fun b o e => Heap.get?_push_of_some _ e) (Nat.le_refl _) (show ObjOk X.prog X.w _ _ _ (.tup ys) from ⟨hz, its, r', IsTup.new _ _⟩)
    exact ⟨.ref h'.objs.size, _, I2, rfl, q _ (I1.hok.fresh (Nat.le_refl _))⟩
  · obtain ⟨its, r', pl, hz⟩ := I.tuple hq
    exact call_tuple_same pl ⟨.ref p, H, I, rfl, q⟩
noncomputable def tyV (K : PySem.W.Frag) (T : String) (x : V) (H : Hp) : Prop := match x with
  | .str _ => T = "str"
  | .int _ => T = "int"
  | .ref p => (T = "list" ∧ ∃ xs, SqL K H p xs) ∨ (T = "tuple" ∧ ∃ o, K.lookup p = some o ∧ o.cls = .type "tuple" ∧ o.dict = none) ∨
      (T = "dict" ∧ ((∃ kvs, H p = some (.dK kvs)) ∨ ∃ kvs, H p = some (.dT kvs))) ∨ (T = "set" ∧ ∃ S n, H p = some (.set S n))
  | _ => False
theorem tyV_is {pins : List (Addr × Obj)} {σ : St} {H : Hp} {s : Shared} {T : String} {x : V} {v : Value} (I : Inv X pins σ H s) (r : RelV x v) (ty : tyV X.K T x H) :
    s.TypeIs v T ∧ ∀ a, v = .ref a → ∃ ob, s.heap.get? a = some ob ∧ ob.dict = none := by
  cases x with
  | str z =>
    obtain ⟨t, rfl⟩ := r
    cases (show T = "str" from ty)
    exact ⟨typeIs_str s z t, fun _ e => nomatch e⟩
  | int i =>
    obtain ⟨t, rfl⟩ := r
    cases (show T = "int" from ty)
    exact ⟨typeIs_int s i t, fun _ e => nomatch e⟩
  | ref p =>
    cases r
    rcases ty with ⟨rfl, xs, hq⟩ | ⟨rfl, o, hk, hc, hd⟩ | ⟨rfl, hk⟩ | ⟨rfl, S, n, hk⟩
    · obtain ⟨its, _, pl, _⟩ := I.list hq
      refine ⟨pl.isList.typeIs, fun a e => ?_⟩
      cases e
      obtain ⟨o, n, e, c, hd, _⟩ := pl
      exact ⟨o, e, hd⟩
    · refine ⟨⟨o, I.kIn p o hk, hc⟩, fun a e => ?_⟩
      cases e
      exact ⟨o, I.kIn _ o hk, hd⟩
    · have z : ∃ o, s.heap.get? p = some o ∧ o.ExactDict := by
        rcases hk with ⟨kvs, hk⟩ | ⟨kvs, hk⟩
        · obtain ⟨_, _, _, _, o, _, _, e, ex, _⟩ := I.hok p _ hk
          exact ⟨o, e, ex⟩
        · obtain ⟨_, _, _, _, o, _, _, e, ex, _⟩ := I.hok p _ hk
          exact ⟨o, e, ex⟩
      obtain ⟨o, e, ex⟩ := z
      refine ⟨⟨o, e, ex.1⟩, fun a e2 => ?_⟩
      cases e2
      exact ⟨o, e, ex.2.1⟩
    · obtain ⟨o, _, _, _, e, ex, _⟩ := I.hok p _ hk
      refine ⟨⟨o, e, ex.1⟩, fun a e2 => ?_⟩
      cases e2
      exact ⟨o, e, ex.2.1⟩
  | _ => exact False.elim ty
noncomputable def tBM0 (K : PySem.W.Frag) (T : String) (r : V → List V → Hp → VK → Prop) (to : TE) : TE := fun σ H Q => to σ H fun x H1 => tyV K T x H1 ∧ r x [] H1 Q
noncomputable def tBM (K : PySem.W.Frag) (T : String) (r : V → List V → Hp → VK → Prop) (to : TE) (t : TA) : TE := fun σ H Q => to σ H fun x H1 => tyV K T x H1 ∧ t σ H1 fun xs H2 => r x xs H2 Q
variable {o e : Expr} {es : List Expr} {to : TE} {t : TA} {name : Str} {apos cpos : Pos} {T id : String} {r : V → List V → Hp → VK → Prop}
theorem pe_bm0 (pa : PlainAttrs T) (slot : Slot T name id) (hty : typeOf (.builtin id) = pure (.type "method_descriptor")) (hm : MtR X id r) (ho : PE X o to)
    (hbase : autoParam (attributeBase o name X.env (eval o X.env) = eval o X.env) L2.aRfl._auto_1) (hline : autoParam ((apos.endLine == cpos.line) = true) L2.aRfl._auto_1) : PE X (.Call (.Attribute o name apos) [] [] cpos) (tBM0 X.K T r to) := by
  intro pins s σ H Q I h
  refine wpAny_Call_method0_late hbase hline (thn (ho pins s σ H _ I h) fun v s1 ⟨x, H1, I1, r1, ty, q1⟩ => ?_)
  obtain ⟨h1, h2⟩ := tyV_is I1 r1 ty
  exact ⟨T, id, pa, slot, hty, h1, h2, Calls.callWith_builtin rfl (PySem.evalArgs_none (hm pins s1 σ H1 x [] v [] Q I1 r1 .nil q1))⟩
theorem pe_bm (pa : PlainAttrs T) (slot : Slot T name id) (hty : typeOf (.builtin id) = pure (.type "method_descriptor")) (hm : MtR X id r) (ho : PE X o to) (ha : PA X (e :: es) t)
    (hbase : autoParam (attributeBase o name X.env (eval o X.env) = eval o X.env) L2.aRfl._auto_1)
    (hfew : ((backTo cpos (starEach (e :: es) X.env)).all (fun x => !x.1) && (backToKw cpos (keywordEach [] X.env)).all (fun x => x.1.isSome)
      && decide ((e :: es).length + ([] : List Keyword).length + (if ([] : List Keyword).isEmpty then 0 else 1) < 30)) = true := by rfl)
    (hline : autoParam ((apos.endLine == cpos.line) = true) L2.aRfl._auto_1) (hs : autoParam (starEach (e :: es) X.env = (false, eval e X.env) :: starEach es X.env) L2.aRfl._auto_1) (hplain : autoParam ((backTo cpos (starEach es X.env)).any (·.1) = false) L2.aRfl._auto_1) :
    PE X (.Call (.Attribute o name apos) (e :: es) [] cpos) (tBM X.K T r to t) := by
  intro pins s σ H Q I h
  refine wpAny_Call_method_late hbase hfew hline rfl (thn (ho pins s σ H _ I h) fun v s1 ⟨x, H1, I1, r1, ty, q1⟩ => ?_)
  obtain ⟨h1, h2⟩ := tyV_is I1 r1 ty
  refine ⟨T, id, pa, slot, hty, h1, h2, ?_⟩
  have hA := ha cpos pins s1 σ H1 _ I1 q1
  rw [hs] at hA ⊢
  refine Calls.callWith_builtin (by show (false || (backTo cpos (starEach es X.env)).any (·.1)) = false; rw [hplain] <;> rfl) (Calls.evalArgs_plain ?_)
  exact thn hA fun us s2 ⟨vs, H2, I2, r2, q2⟩ => hm pins s2 σ H2 x vs v us Q I2 r1 r2 q2
/- xs.append(e), list.index on a module's tuple .. are MtR facts of 06m -/
end
end L2
namespace L2
open PySem PySem.Spec PyProof.Rows
noncomputable def MtM (X : Cx) (id : String) (r : V → List V → Hp → VK → Prop) : Prop :=
  ∀ (pins : List (Addr × Obj)) (s : Shared) (σ : St) (H : Hp) (x : V) (xs : List V) (v : Value) (us : List Value) (Q : VK), Inv X pins σ H s → RelV x v → Vals xs us → r x xs H Q →
    wpAny (model X.prog X.w) X.A (call (.builtin id) (v :: us)) (EP X pins σ Q) X.xe s
theorem Vals.one {x : V} {us : List Value} (h : Vals [x] us) : ∃ u, us = [u] ∧ RelV x u := by
  cases h with
  | cons r t => cases t; exact ⟨_, rfl, r⟩
theorem Vals.two {x y : V} {us : List Value} (h : Vals [x, y] us) : ∃ u v, us = [u, v] ∧ RelV x u ∧ RelV y v := by
  cases h with
  | cons r t =>
    cases t with
    | cons q t => cases t; exact ⟨_, _, rfl, r, q⟩
theorem Vals.zero : ∀ {us : List Value}, Vals [] us → us = []
  | _, .nil => rfl
theorem Vals.reverse {xs : List V} {us : List Value} (h : Vals xs us) : Vals xs.reverse us.reverse := by
  induction h with
  | nil => exact .nil
  | cons r t ih => rw [List.reverse_cons, List.reverse_cons]; exact Vals.append ih (.cons r .nil)
section
variable {X : Cx} {pins : List (Addr × Obj)} {σ : St} {H : Hp} {s : Shared} {l b : Addr} {xs ys zs : List V}
theorem Inv.lset {its its' : List Value} {n : Nat} {f : Array Value → Array Value} {t' : Nat} (I : Inv X pins σ H s) (hH : H l = some (.lst xs))
    (e : s.heap.get? l = some { cls := .type "list", data := .seq its.toArray n }) (hf : f its.toArray = its'.toArray) (hv : Vals ys its') (hz : ys.length ≤ sizeLine) :
    Inv X pins σ (upd H l (.lst ys)) { s with heap := s.heap.update l (Obj.mapSeq f), toks := t' } := by
  have q := PySem.IsL.update e f
  rw [hf] at q
  refine I.write (x := l) (e := l) (by rw [hH]; exact trivial) (.inl rfl) (fun b' u hb hu => (Heap.get?_update_other s.heap (Obj.mapSeq f) (Ne.symm hb)).trans hu) ⟨_, q⟩ ?_
  exact ⟨hz, its', _, hv, q⟩
theorem Inv.lnew {its : List Value} {t' : Nat} (I : Inv X pins σ H s) (hv : Vals ys its) (hz : ys.length ≤ sizeLine) :
    Inv X pins σ (upd H s.heap.objs.size (.lst ys)) { s with heap := s.heap.push { cls := .type "list", data := .seq its.toArray }, toks := t' } :=
  I.laid (fun _ _ q => Heap.get?_push_of_some _ q) (Nat.le_refl _) ⟨hz, its, 0, hv, Heap.get?_push_size _ rfl⟩
theorem Inv.fresh (I : Inv X pins σ H s) : H s.heap.objs.size = none := I.hok.fresh (Nat.le_refl _)
theorem Inv.lstM (I : Inv X pins σ H s) (hH : H l = some (.lst xs)) : xs.length ≤ sizeLine ∧ ∃ (its : List Value) (n : Nat), Vals xs its ∧ xs.length = its.length ∧ s.heap.get? l = some { cls := .type "list", data := .seq its.toArray n } := by
  obtain ⟨z, its, n, r, e⟩ := I.hok l _ hH
  exact ⟨z, its, n, r, r.length, e⟩
end
section
variable {X : Cx}
noncomputable def rAppend : V → List V → Hp → VK → Prop := fun x vs H Q => ∃ l xs y, x = .ref l ∧ vs = [y] ∧ H l = some (.lst xs) ∧ xs.length < sizeLine ∧ Q .non (upd H l (.lst (xs ++ [y])))
theorem mt_append : MtM X "list.append" rAppend := by
  intro pins s σ H x vs v us Q I rx rv h
  obtain ⟨l, xs, y, rfl, rfl, hH, hz, q⟩ := h
  cases rx
  obtain ⟨u, rfl, ru⟩ := rv.one
  obtain ⟨z, its, n, r, hl, e⟩ := I.lstM hH
  refine call_meets F.slot_list_append ⟨_, e, rfl⟩ F.entry_list_append (F.args_list_append_2 _ _) (PySem.list_append l its.toArray n u (by rw [List.size_toArray]; omega)) ⟨e, ?_⟩
  refine ⟨.non, _, I.lset (its' := its ++ [u]) hH e (by simp) (r.append (.cons ru .nil)) ?_, rfl, q⟩
  rw [List.length_append, List.length_singleton]
  omega
noncomputable def rReverse : V → List V → Hp → VK → Prop := fun x vs H Q => ∃ l xs, x = .ref l ∧ vs = [] ∧ H l = some (.lst xs) ∧ Q .non (upd H l (.lst xs.reverse))
theorem mt_reverse : MtM X "list.reverse" rReverse := by
  intro pins s σ H x vs v us Q I rx rv h
  obtain ⟨l, xs, rfl, rfl, hH, q⟩ := h
  cases rx
  have hus := rv.zero
  subst hus
  obtain ⟨z, its, n, r, hl, e⟩ := I.lstM hH
  refine call_meets F.slot_list_reverse ⟨_, e, rfl⟩ F.entry_list_reverse (F.args_list_reverse_1 _) (AutoSeq1.list_reverse_list_0 l its.toArray n (by rw [List.size_toArray]; omega)) ⟨e, ?_⟩
  refine ⟨.non, _, I.lset (its' := its.reverse) hH e (by simp) r.reverse ?_, rfl, q⟩
  rw [List.length_reverse]
  omega
noncomputable def rCat : R2 := fun x y H Q => ∃ l b xs zs, x = .ref l ∧ y = .ref b ∧ H l = some (.lst xs) ∧ H b = some (.lst zs) ∧ xs.length + zs.length ≤ sizeLine ∧ ∀ p, H p = none → Q (.ref p) (upd H p (.lst (xs ++ zs)))
theorem op_cat : OpR X (binaryOp .Add) rCat := by
  intro pins s σ H x y v u Q I rx ry h
  obtain ⟨l, b, xs, zs, rfl, rfl, hH, hB, hz, q⟩ := h
  cases rx
  cases ry
  obtain ⟨z, its, n, r, hl, e⟩ := I.lstM hH
  obtain ⟨z2, its2, n2, r2, hl2, e2⟩ := I.lstM hB
  refine PySem.P.add_list e e2 ?_ (by rw [List.size_toArray, List.size_toArray]; omega)
  have ea : its.toArray ++ its2.toArray = (its ++ its2).toArray := by simp
  rw [ea]
  exact ⟨.ref _, _, I.lnew (t' := s.toks) (r.append r2) (by rw [List.length_append]; omega), rfl, q _ I.fresh⟩
end
section
variable {prog : Program} {w : World} {A : Around} {E : Value → Shared → Prop} {s : Shared}
end
section
variable {X : Cx}
end
end L2
namespace Att
open PySem PySem.W PySem.Calls PyProof.Rows
theorem ints_of_wellAll {P : Params} {h : Heap} : ∀ (ns : List Int) (vs : List Value), WellAll P h vs (ns.map WData.int) → IntsAre vs ns := by
  intro ns
  induction ns with
  | nil =>
    intro vs w
    rw [List.map_nil] at w
    cases w
    exact .nil
  | cons n ns ih =>
    intro vs w
    rw [List.map_cons] at w
    cases w with
    | cons a b =>
      cases a
      exact .cons _ _ (ih _ b)
theorem script_of {l : OpenLaw} {n : Nat} (hn : l.most = some n) {P : Params} {h : Heap} {args : List WData} {vals : List Value}
    (hpre : l.row.toRowW.claim.pre args = true) (hwl : WellAll P h vals args) :
    ∃ a vs ns, vals = [Value.ref a] ∧ args = [WData.list (ns.map WData.int)] ∧ h.get? a = some { cls := .type "list", data := .seq vs.toArray } ∧ IntsAre vs ns ∧ ns.length ≤ n := by
  have hsh : WShape.hasAll [] args [.list .int] = true := (pre_splitW hpre).1
  have hc : l.pre.holds [] { args := args } = true := (pre_splitW hpre).2
  obtain ⟨d, r, rfl, h1, h2⟩ := hasAllW_cons hsh
  obtain rfl := hasAllW_nil h2
  obtain ⟨xs, rfl, h3⟩ := hasW_list h1
  obtain ⟨ns, rfl⟩ := items_int h3
  have hlen : ns.length ≤ n := by
    unfold OpenLaw.pre at hc
    have h4 : (WTm.not (.lt (.lit (.int (n : Int))) (.len (.arg 0)))).holds [] { args := [.list (ns.map .int)] } = true := by
      have h4 := (holds_andW hc).1
      rw [hn] at h4
      exact h4
    have h5 := condW_of h4 (w_not (w_lt w_lit (w_len_list (w_arg rfl))))
    rw [List.length_map] at h5
    refine Nat.le_of_not_lt fun q => ?_
    have q' : (n : Int) < ((ns.length : Nat) : Int) := by omega
    first
      | (rw [decide_eq_true q'] at h5; exact absurd h5 (by decide))
      | (simp at h5; omega)
  cases hwl with
  | cons w1 w2 =>
    cases w2
    cases w1 with
    | list ho hall => exact ⟨_, _, ns, rfl, rfl, ho, ints_of_wellAll ns _ hall, hlen⟩
theorem post_true (l : OpenLaw) (args : List WData) : l.row.toRowW.claim.post args (.bool true) args = true :=
  postW_of (r := l.row.toRowW) (X := (true == true))
    (show WShape.has [] (.bool true) .bool = true by first | rfl | decide | simp [WShape.has, WShape.arms, WShape.armsAll])
    (show (WTm.eq .res (.lit (.bool true))).value [] { args := args, res := some (.bool true), after := args } = some (.bool (true == true)) from w_eq_bool (w_res rfl) w_lit) rfl
theorem attach_call {l : OpenLaw} {n : Nat} {q : Program} {loose : List Str} {XP : (Str → Option Value) → Heap → Prop} {YP : World → Heap → Prop} {d : DefRec}
    (hn : l.most = some n) (hdf : d.params.defaults = [])
    (call : ∀ (w : World) (s₀ s₁ : Shared) (mg mb : Str → Option Value) (fa : Addr) (o : Obj) (pm cd doc : Value) (a : Addr) (vs : List Value) (ns : List Int),
      Ground q loose [] XP w s₀ mg mb s₁.heap → YP w s₁.heap →
      s₁.heap.get? fa = some o → o.data = .func (docDef d.name d.params d.body d.scope pm cd doc) → s₁.heap.CodeRec cd d.name → mg d.name = some (.ref fa) →
      s₁.heap.get? a = some { cls := .type "list", data := .seq vs.toArray } → IntsAre vs ns → ns.length ≤ n → s₁.gens = #[] →
      codeAny (model l.prog w) callerA (.call (.ref fa) ⟨[.ref a], []⟩) (fun r s' => r = .ok (.ret (.bool true)) ∧ OldK s₁.heap s'.heap ∧ s'.os = s₁.os ∧ AllBare s'.gens) s₁) :
    WalkO q loose XP YP l.row.toRowW d [] (fun f vs => PySem.call f vs) := by
  intro w s₀ s₁ mg mb G Y fa o pm cd doc dV kV ho hd hcd hD hmg hg args vals as hpre hlay hrd hwl hlo
  obtain rfl : dV = .none := Dflts.none hD hdf
  obtain rfl : kV = .none := Dflts.noKw hD
  obtain ⟨a, vs, ns, rfl, rfl, hobj, hints, hlen⟩ := script_of hn hpre hwl
  refine enter_call (codeAny_mono (call w s₀ s₁ mg mb fa o pm cd doc a vs ns G Y ho (fd_plain hd) hcd hmg hobj hints hlen hg) fun r s' hq => ?_)
  obtain ⟨rfl, h2, h3, h4⟩ := hq
  exact ⟨.inl ⟨.bool true, .bool true, [], rfl, fun _ => rfl, .bool true, post_true l _, fun _ => ⟨List.Pairwise.nil, fun _ hm => (nomatch hm)⟩⟩, h2, h3, h4⟩
section
variable {prog : Program} {w : World} {A : Around} {E : Value → Shared → Prop} {s : Shared} {K : Frag}
end
end Att
namespace L2
open PySem PySem.Spec PyProof.Rows
theorem vals_ints : ∀ {vs : List Value} {ns : List Int}, IntsAre vs ns → Vals (ns.map V.int) vs
  | _, _, .nil => .nil
  | _, _, .cons n t h => .cons ⟨t, rfl⟩ (vals_ints h)
noncomputable def Only (H : Hp) : Prop := ∀ b, H b = none ∨ ∃ o xs, H b = some (.frz o (.lst xs))
theorem law_call {P : Program} {w : World} {K : PySem.W.Frag} {mg mb : Str → Option Value} {CX : CXT} {k : Nat} {fa a : Addr} {fd : FuncData} {x : Str} {sp : Sp} {s₁ : Shared} {vs : List Value} {ns : List Int}
    (KX : K.In s₁.heap) (hns : s₁.heap.Ns mainGlobals mg) (hb : s₁.heap.Ns builtinsNs mb) (hbb : ∀ x : Str, x ≠ "__name__" → mb x = bootBuiltins x) (hlim : s₁.heap.NoLimit) (hg : s₁.gens = #[])
    (ha : s₁.heap.get? a = some { cls := .type "list", data := .seq vs.toArray }) (hi : IntsAre vs ns) (hl : ns.length ≤ sizeLine) (hr : Room k callerA)
    (F : ∀ base : Heap, K.In base → base.Ns mainGlobals mg → FnOk P w K mg base CX k fa fd [x] sp) (hbind : ∀ (s : Shared) (u : Value), BindsTo s fd ⟨[u], []⟩ [(x, u)])
    (hsp : ∀ H : Hp, Only H → SqL K H a (ns.map V.int) → sp [.ref a] H (fun v _ => v = .bl true) fun _ _ _ => False)
    (hCX : ∀ H e s', CX [] H s₁ (fun _ _ _ => False) e s' → False) :
    codeAny (model P w) callerA (.call (.ref fa) ⟨[.ref a], []⟩) (fun r s' => r = .ok (.ret (.bool true)) ∧ OldK s₁.heap s'.heap ∧ s'.os = s₁.os ∧ AllBare s'.gens) s₁ := by
  have rv := vals_ints hi
  have lenV := hi.length
  -- from an abstract heap in which nothing but the script may be tracked
  have core : ∀ H : Hp, Only H → SqL K H a (ns.map V.int) → HOk P w H s₁.heap → (∀ b, H b ≠ none → b = a) → (H a ≠ none → K.lookup a = none) →
      codeAny (model P w) callerA (.call (.ref fa) ⟨[.ref a], []⟩) (fun r s' => r = .ok (.ret (.bool true)) ∧ OldK s₁.heap s'.heap ∧ s'.os = s₁.os ∧ AllBare s'.gens) s₁ := by
    intro H hO hS hok hA hK
    have base_of : ∀ {b : Addr} {o : Obj}, s₁.heap.get? b = some o → H b = none → (hidT s₁.heap H).get? b = some o := fun e n => hidT_get e n
    have noA : ∀ {b : Addr} {o : Obj} {es : Array DictEntry} {ep : Nat}, s₁.heap.get? b = some o → o.data = .dict es ep → H b = none := fun {b o es ep} e d => by
      cases q : H b with
      | none => rfl
      | some u =>
        have e' : b = a := hA b (by rw [q]; simp)
        subst e'
        rw [ha] at e; cases e
        have d' : Data.seq vs.toArray _ = Data.dict es ep := d
        cases d'
    have nsK : ∀ {b : Addr} {m : Str → Option Value}, s₁.heap.Ns b m → (hidT s₁.heap H).Ns b m := fun {b m} ⟨o, es, ep, e, d, r⟩ => ⟨o, es, ep, base_of e (noA e d), d, r⟩
    have hKb : K.In (hidT s₁.heap H) := fun b o e => base_of (KX b o e) (by
      cases q : H b with
      | none => rfl
      | some u =>
        have e' : b = a := hA b (by rw [q]; simp)
        subst e'
        rw [hK (by rw [q]; simp)] at e; cases e)
    have hM : Mod K mg (hidT s₁.heap H) := ⟨hKb, nsK hns, ⟨mb, nsK hb, hbb⟩, let ⟨mc, h1, h2⟩ := hlim; ⟨mc, nsK h1, h2⟩⟩
    have e0 : Env0 P w K mg (hidT s₁.heap H) callerA [] s₁ H := ⟨rfl, hM, fun b o e => of_hidT e, Nat.le_of_eq (hidT_size _ _), trivial, fun b hb => absurd (show b ∈ ([] : List Addr) from hb) (by simp), hok, .of_eq hg⟩
    refine codeAny_mono ((F _ hKb (nsK hns)).run callerA [] s₁ H ⟨[.ref a], []⟩ [.ref a] [.ref a] _ _ hr e0 (hbind s₁ (.ref a)) (.cons rfl .nil) (hsp H hO hS)) fun r s' h => ?_
    cases r with
    | error e => exact (hCX H e s' h).elim
    | ok fl =>
      cases fl with
      | next => exact False.elim h
      | brk => exact False.elim h
      | cont => exact False.elim h
      | ret u =>
        obtain ⟨v, H', os, bare, un, hok', r', q⟩ := h
        have q' : v = .bl true := q
        subst q'
        obtain rfl : u = Value.bool true := r'
        refine ⟨rfl, OldK.of_keep fun b o e => ?_, os, bare⟩
        cases q : H b with
        | none => exact un.keep b o e q (by intro z; exact absurd (show b ∈ ([] : List Addr) from z) (by simp)) (by simp)
        | some u =>
          rcases hO b with z | ⟨ob, xs, z⟩
          · rw [q] at z; cases z
          · have z2 := un.frzs b ob _ z
            obtain ⟨e1, _⟩ := hok b _ z
            obtain ⟨e2, _⟩ := hok' b _ z2
            rw [e] at e1; cases e1
            exact e2
  cases hk : K.lookup a with
  | some o =>
    -- the script is one of the module's own objects
    have e := KX a o hk
    rw [ha] at e
    cases e
    refine core (fun _ => none) (fun _ => .inl rfl) (.inr ⟨_, vs.toArray, _, hk, rfl, rfl, rfl, by rw [List.size_toArray, lenV]; exact hl, by simpa using rv⟩) (fun b u z => by have z' : (none : Option HO) = some u := z; cases z') (fun b z => absurd rfl z) fun z => absurd rfl z
  | none =>
    refine core (fun b => if b = a then some (.frz { cls := .type "list", data := .seq vs.toArray } (.lst (ns.map V.int))) else none) (fun b => ?_) (.inl (.inr ⟨{ cls := .type "list", data := .seq vs.toArray }, if_pos rfl⟩)) (fun b u z => ?_) (fun b z => ?_) fun _ => hk
    · by_cases hb : b = a
      · exact .inr ⟨_, _, if_pos hb⟩
      · exact .inl (if_neg hb)
    · by_cases hb : b = a
      · have z' := (if_pos hb).symm.trans z
        cases z'
        subst hb
        exact ⟨ha, by rw [List.length_map]; exact hl, vs, _, rv, ha⟩
      · have z' := (if_neg hb).symm.trans z
        cases z'
    · by_cases hb : b = a
      · exact hb
      · exact absurd (if_neg hb) z
end L2
namespace L2
open PySem PySem.Spec PyProof.Rows
noncomputable abbrev KOf {K : PySem.W.Frag} {h : Heap} (_ : K.In h) : PySem.W.Frag := K
theorem walk_of {l : PySem.W.OpenLaw} {n k : Nat} {q : Program} {loose : List Str} {XP : (Str → Option Value) → Heap → Prop} {YP : World → Heap → Prop} {d : DefRec} {K : Params → PySem.W.Frag} {CX : World → CXT} {sp : World → Sp} {x : Str}
    (hn : l.most = some n) (hn2 : n ≤ sizeLine) (hdf : d.params.defaults = []) (hr : Room k callerA)
    (hY : ∀ (w : World) (h : Heap), YP w h → (K w.params).In h)
    (F : ∀ (w : World) (mg : Str → Option Value) (fa : Addr) (h : Heap), (K w.params).In h → h.Ns mainGlobals mg → mg d.name = some (.ref fa) →
      ∃ fd : FuncData, (∀ (s : Shared) (u : Value), BindsTo s fd ⟨[u], []⟩ [(x, u)]) ∧
        ∀ base : Heap, (K w.params).In base → base.Ns mainGlobals mg → FnOk l.prog w (K w.params) mg base (CX w) k fa fd [x] (sp w))
    (hsp : ∀ (w : World) (H : Hp) (a : Addr) (ns : List Int), ns.length ≤ n → Only H → SqL (K w.params) H a (ns.map V.int) → sp w [.ref a] H (fun v _ => v = .bl true) fun _ _ _ => False)
    (hCX : ∀ (w : World) (H : Hp) (s : Shared) (e : Value) (s' : Shared), CX w [] H s (fun _ _ _ => False) e s' → False) :
    PySem.W.WalkO q loose XP YP l.row.toRowW d [] (fun f vs => PySem.call f vs) := by
  refine Att.attach_call hn hdf fun w s₀ s₁ mg mb fa o pm cd doc a vs ns G Y ho hd hcd hmg hobj hints hlen hg => ?_
  have KX := hY w _ Y
  obtain ⟨fd, hb, hF⟩ := F w mg fa _ KX G.T.g hmg
  exact law_call KX G.T.g G.T.b G.T.builtins G.T.nolimit hg hobj hints (Nat.le_trans hlen hn2) hr hF hb (fun H hO hS => hsp w H a ns hlen hO hS) fun H e s' => hCX w H s₁ e s'
end L2
/- THE LAST THEOREM (shape; LID, My.* are yours):
   My.Adr: a structure of the addresses that your layer names (classes, functions); My.Txt K t: a structure (Prop) of the equations over K;
   My.txt_mk : {K} {implicit addresses ..} (e1 : nsIn K mainGlobals "law" = some (some (.ref f))) (e2 : K.lookup f = some ⟨oc, od, .func (fnOf "law" "law" params body scope dV kV doc pm an cdv ct), sl⟩) (e3 : codeIn K cdv "law" = true) .. : ∃ t, My.Txt K t
set_option maxRecDepth 100000 in
set_option maxHeartbeats 0 in
theorem PySem.Challenge.cw_LID_holds : PySem.Challenge.rw_LID.Holds := by
  w_on; o_law; k_head; (case hw => w_witness2)
  k_fill
  refine L2.walk_of (l := PySem.Challenge.rw_LID) (n := 63) (k := 40) (x := "script") (CX := fun w => ..) (sp := fun _ => My.sp_law) rfl (by decide) rfl ⟨rfl, by decide, by decide⟩ (fun w h Y => PySem.W.kIn_of Y) ?F ?S ?C
  case F =>
    intro w mg fa h KX G hmg
    have T : ∃ t, My.Txt (L2.KOf KX) t := by
      dsimp only [L2.KOf]                          -- K must stand as «<heap const> w.params» for k_is
      refine' My.txt_mk ?e1 ?e2 ?e3 ..
      (case e1 => PySem.W.k_is)                    -- in the order: a name -> its address -> its object -> its parts
      (case e2 => PySem.W.k_is)
      ..
    obtain ⟨t, T⟩ := T
    have e0 := hmg.symm.trans (PySem.W.mg_of KX G T.law)
    cases e0                                       -- fa is the law's own address
    exact ⟨_, fun s u => .of_eq rfl, fun base kb nb => My.law_fn T kb nb⟩     -- if «.of_eq rfl» comes too early: refine' ⟨_, ?b, fun base kb nb => My.law_fn T kb nb⟩; exact fun s u => .of_eq rfl
  case S => exact fun w H a ns hl hO hS => ..
  case C => exact ..
(the tactic k_is has no namespace: write k_is) -/
namespace L2
open PySem PySem.Spec PyProof.Rows
noncomputable def inClass (s : Stmt) (j : Nat) : Stmt := match s with
  | .ClassDef _ _ _ body _ _ _ _ _ _ _ => body.getD j (.Pass ⟨0, 0, 0, 0⟩)
  | _ => .Pass ⟨0, 0, 0, 0⟩
noncomputable def defArgs (s : Stmt) : Arguments := match s with
  | .FunctionDef _ a _ _ _ _ _ _ _ _ => a
  | _ => { posonlyargs := [], args := [], vararg := none, kwonlyargs := [], kw_defaults := [], kwarg := none, defaults := [] }
noncomputable def defBody (s : Stmt) : List Stmt := match s with
  | .FunctionDef _ _ b _ _ _ _ _ _ _ => b
  | _ => []
noncomputable def defScope (s : Stmt) : Scope := match s with
  | .FunctionDef _ _ _ _ _ _ sc _ _ _ => sc
  | _ => { kind := .function, names := [], isGenerator := false, isCoroutine := false }
noncomputable abbrev CX0 : CXT := fun _ _ _ _ _ _ => False
noncomputable abbrev E0 : XK := fun _ _ _ => False
theorem pass0 {X : Cx} : Passes CX0 X E0 := fun _ _ _ _ _ _ _ h => h.elim
structure Fun (K : PySem.W.Frag) (x qual : Str) (st : Stmt) (f : Addr) (fd : FuncData) : Prop where
  ex : ∃ (oc : Value) (od : Option Addr) (kV doc pm : Value) (an : Option Addr) (cdv ct : Value) (osl : Array (Option Value)),
    fd = PySem.W.fnOf x qual (defArgs st) (defBody st) (defScope st) .none kV doc pm an cdv ct ∧ K.lookup f = some ⟨oc, od, .func fd, osl⟩ ∧ PySem.W.codeIn K cdv qual = true
  kp : PySem.W.keepIn K (.ref f) = true
section
variable {P : Program} {w : World} {K : PySem.W.Frag} {mg : Str → Option Value} {base : Heap}
theorem Fun.ok {x qual : Str} {st : Stmt} {f : Addr} {fd : FuncData} {N ps : List Str} {k : Nat} {sp : Sp} (F : Fun K x qual st f fd) (S : FnScope N ps (defScope st)) (len : ∀ vs H Q E, sp vs H Q E → vs.length = ps.length)
    (hbody : ∀ (cdv : Value) (A : Around) (outer : List Env) (s : Shared) (H : Hp) (vs : List V) (Q : VK) (E : XK), Room k (A.deeper (envOfC qual (defScope st) s.heap.objs.size f cdv)) → sp vs H Q E →
      ∃ t, PSs (cxOf CX0 P w K mg base N qual (defScope st) f cdv A outer s H E).nox (defBody st) t ∧ t { nx := fun _ H' => Q .non H', rt := Q } (start N vs) H) : FnOk P w K mg base CX0 (k + 1) f fd ps sp := by
  obtain ⟨oc, od, kV, doc, pm, an, cdv, ct, osl, rfl, lk, hcd⟩ := F.ex
  refine fn_of lk hcd S len fun A outer s H vs Q E hr hsp => ?_
  obtain ⟨t, h, q⟩ := hbody cdv A outer s H vs Q E hr hsp
  exact ⟨t, h.nox, q⟩
theorem Fun.binds {x qual : Str} {st : Stmt} {f : Addr} {fd : FuncData} {ps : List Str} (F : Fun K x qual st f fd)
    (h : ∀ (kV doc pm : Value) (an : Option Addr) (cdv ct : Value) (us : List Value), us.length = ps.length → bindArgs (PySem.W.fnOf x qual (defArgs st) (defBody st) (defScope st) .none kV doc pm an cdv ct) ⟨us, []⟩ = pure (ps.zip us)) : Binds K fd ps [] := by
  obtain ⟨oc, od, kV, doc, pm, an, cdv, ct, osl, rfl, lk, hcd⟩ := F.ex
  exact .all (h kV doc pm an cdv ct)
theorem fun_mk {x qual : Str} {st : Stmt} {f : Addr} {oc : Value} {od an : Option Addr} {osl : Array (Option Value)} {kV doc pm cdv ct : Value} (l : K.lookup f = some ⟨oc, od, .func (PySem.W.fnOf x qual (defArgs st) (defBody st) (defScope st) .none kV doc pm an cdv ct), osl⟩)
    (c : PySem.W.codeIn K cdv qual = true) (k : PySem.W.keepIn K (.ref f) = true) : Fun K x qual st f (PySem.W.fnOf x qual (defArgs st) (defBody st) (defScope st) .none kV doc pm an cdv ct) := ⟨⟨oc, od, kV, doc, pm, an, cdv, ct, osl, rfl, l, c⟩, k⟩
end
theorem hu_of {A : Around} {k : Nat} (hr : Room k A) : A.units + 1 < cLine := Nat.lt_of_le_of_lt (Nat.add_le_add_left (by decide : 1 ≤ 64) _) hr.units
section
variable {X : Cx}
theorem pv (i : Nat) {x : Str} {pos : Pos} (hN : autoParam (X.N[i]? = some x) L2.aRfl._auto_1) (hv : Vis X.env.scope x := by first | exact Or.inl rfl | exact Or.inr (Or.inl rfl) | exact Or.inr (Or.inr rfl)) (hd : autoParam ((x == ("__debug__" : Str)) = false) L2.aDec._auto_1)
    (hcd : autoParam ((x == ("__classdict__" : Str)) = false) L2.aDec._auto_1) : PE X (.Name x pos) (tVar i) := pe_var hN hv hd hcd
end
theorem iteF {A B : Prop} (h : B) : if false = true then A else B := by
  rw [if_neg Bool.false_ne_true]
  exact h
theorem iteT {A B : Prop} (h : A) : if true = true then A else B := by
  rw [if_pos rfl]
  exact h
theorem ite2 {c A B : Prop} [Decidable c] (h1 : c → A) (h2 : ¬ c → B) : if c then A else B := by
  by_cases h : c
  · rw [if_pos h]
    exact h1 h
  · rw [if_neg h]
    exact h2 h
noncomputable def Same (H H' : Hp) : Prop := ∀ b o, H b = some o → H' b = some o
theorem Same.refl (H : Hp) : Same H H := fun _ _ h => h
theorem Same.trans {H H1 H2 : Hp} (a : Same H H1) (b : Same H1 H2) : Same H H2 := fun c o h => b c o (a c o h)
theorem Same.seq {K : PySem.W.Frag} {H H' : Hp} {a : Addr} {xs : List V} (e : Same H H') (h : SqL K H a xs) : SqL K H' a xs := by
  rcases h with (h | ⟨o, h⟩) | h
  · exact .inl (.inl (e _ _ h))
  · exact .inl (.inr ⟨o, e _ _ h⟩)
  · exact .inr h
end L2
namespace L2
open PySem PySem.Spec PyProof.Rows
theorem compLoop_any {prog : Program} {w : World} {A : Around} {R : Result → Shared → Prop} {s : Shared} {elt target iter : Expr} {ifs : List Expr} {scope : Scope} {pos : Pos} {it acc : Value} {env : Env} (I : Nat → Shared → Prop)
    (turn : ∀ n s, I n s → wpAny (model prog w) A (pyNext it) (fun r s1 => match r with
      | none => R (.ok .next) s1
      | some v => wpAny (model prog w) A (letOwnedTupleGo target it v) (fun _ s1' => wpAny (model prog w) A (assign target env v) (fun _ s2 =>
          wpAny (model prog w) A (forIn ifs true fun c r => if r = true then do let ok ← isTrue c env (eval c env); pure (ForInStep.yield ok) else pure (ForInStep.yield r)) (fun ok s3 =>
            if ok = true then wpAny (model prog w) A (eval elt env) (fun x s4 =>
              wpAny (model prog w) A (call (.builtin "list.append") [acc, x]) (fun _ s5 => ∃ m, m < n ∧ I m s5) (fun _ _ => False) s4) (fun _ _ => False) s3
            else ∃ m, m < n ∧ I m s3) (fun _ _ => False) s2) (fun _ _ => False) s1') (fun _ _ => False) s1) (fun _ _ => False) s)
    (n : Nat) (h : I n s) :
    codeAny (model prog w) A (.compLoop (.ListComp elt [⟨target, iter, ifs, 0⟩] scope pos) 0 it acc env) R s := by
  refine codeAny_loop rfl I (fun n s hI => ?_) n h
  show wpAny _ A ((compTurn (.ListComp elt [⟨target, iter, ifs, 0⟩] scope pos) 0 it acc env).onRaise (fun x => do noteFrame x env; theTreesLotGoes x)) _ _ s
  refine wpAny_noted ?_
  rw [compTurn_list]
  refine wpAny_bind (wpAny_standAt (wpAny_bind (wpAny_mono (turn n s hI) (fun r s1 h1 => ?_) fun _ _ h' => h'.elim)))
  cases r with
  | none => exact wpAny_pure h1
  | some v =>
    refine wpAny_bind (wpAny_mono h1 (fun _ s1' h1' => ?_) fun _ _ h' => h'.elim)
    refine wpAny_bind (wpAny_mono h1' (fun _ s2 h2 => wpAny_bind (wpAny_mono h2 (fun ok s3 h3 => ?_) fun _ _ h' => h'.elim)) fun _ _ h' => h'.elim)
    cases ok with
    | false => exact wpAny_pure ⟨rfl, h3⟩
    | true =>
      exact wpAny_bind (wpAny_bind (wpAny_mono h3 (fun x s4 h4 => wpAny_bind (wpAny_mono h4 (fun _ s5 h5 => wpAny_pure (wpAny_pure ⟨rfl, h5⟩)) fun _ _ h' => h'.elim)) fun _ _ h' => h'.elim))
noncomputable def freeOk (sc : Scope) : List (Str × NameKind) → Bool
  | [] => true
  | (n, k) :: r => (k != .free || sc.names.lookup n == some .cell || sc.names.lookup n == some .free) && freeOk sc r
noncomputable def cellsIn (env : Env) : List (Str × NameKind) → List (Str × Addr) → List (Str × Addr)
  | [], cs => cs
  | (n, k) :: r, cs => cellsIn env r (if k = .free then (n, (env.cells.lookup n).getD 0) :: cs else cs)
theorem cellsIn_sub {env : Env} : ∀ (l : List (Str × NameKind)) (cs : List (Str × Addr)), (∀ n, (n, NameKind.free) ∈ l → ∃ c, env.cells.lookup n = some c) → (∀ x c, cs.lookup x = some c → env.cells.lookup x = some c) →
    ∀ x c, (cellsIn env l cs).lookup x = some c → env.cells.lookup x = some c
  | [], cs, _, h => h
  | (n, k) :: r, cs, hl, h => by
    refine cellsIn_sub r _ (fun m hm => hl m (List.mem_cons_of_mem _ hm)) fun x c e => ?_
    by_cases hk : k = .free
    · rw [if_pos hk] at e
      subst hk
      obtain ⟨c', hc⟩ := hl n List.mem_cons_self
      rw [List.lookup_cons] at e
      cases hx : x == n with
      | true =>
        rw [hx] at e
        have : x = n := by simpa using hx
        subst this
        rw [hc] at e
        simp at e
        rw [hc, e]
      | false => rw [hx] at e; exact h x c e
    · rw [if_neg hk] at e
      exact h x c e
theorem cellsIn_has {env : Env} : ∀ (l : List (Str × NameKind)) (cs : List (Str × Addr)) (x : Str), ((cs.lookup x).isSome = true ∨ (x, NameKind.free) ∈ l) → ((cellsIn env l cs).lookup x).isSome = true
  | [], cs, x, h => by
    rcases h with h | h
    · exact h
    · exact nomatch h
  | (n, k) :: r, cs, x, h => by
    refine cellsIn_has r _ x ?_
    rcases h with h | h
    · left
      split
      · rw [List.lookup_cons]
        split
        · rfl
        · exact h
      · exact h
    · rcases List.mem_cons.mp h with e | e
      · cases e
        left
        rw [if_pos rfl, List.lookup_cons]
        simp
      · exact .inr e
theorem closureFor_cells {scope : Scope} {env : Env} (h : ∀ n, (n, NameKind.free) ∈ scope.names → ∃ c, env.cells.lookup n = some c) : closureFor scope env = pure (cellsIn env scope.names []) := by
  unfold closureFor
  suffices ∀ (l : List (Str × NameKind)) (cs : List (Str × Addr)), (∀ n, (n, NameKind.free) ∈ l → ∃ c, env.cells.lookup n = some c) → (forIn l cs fun x r =>
      if (x.2 == NameKind.free) = true then do let a ← cellOf env x.1; pure (ForInStep.yield ((x.1, a) :: r)) else pure (ForInStep.yield r) : Sem _) = pure (cellsIn env l cs) by
    have := this scope.names [] h
    simp only at this ⊢
    rw [this]
    rfl
  intro l
  induction l with
  | nil => intro cs _; rfl
  | cons p r ih =>
    intro cs hl
    obtain ⟨n, k⟩ := p
    rw [List.forIn_cons]
    by_cases hk : k = .free
    · subst hk
      obtain ⟨c, hc⟩ := hl n List.mem_cons_self
      have e : cellOf env n = pure c := by unfold cellOf; rw [hc]
      have hb : (NameKind.free == NameKind.free) = true := rfl
      simp only [hb, if_true, e, cellsIn, hc, Option.getD_some]
      exact ih _ fun m hm => hl m (List.mem_cons_of_mem _ hm)
    · have hb : (k == NameKind.free) = false := by simpa using hk
      simp only [hb, Bool.false_eq_true, if_false, cellsIn, if_neg hk]
      exact ih _ fun m hm => hl m (List.mem_cons_of_mem _ hm)
theorem freeOk_mem {sc : Scope} : ∀ {l : List (Str × NameKind)}, freeOk sc l = true → ∀ n, (n, NameKind.free) ∈ l → sc.names.lookup n = some .cell ∨ sc.names.lookup n = some .free
  | [], _, n, h => nomatch h
  | (m, k) :: r, h, n, hm => by
    simp only [freeOk, Bool.and_eq_true] at h
    rcases List.mem_cons.mp hm with e | e
    · cases e
      have h1 := h.1
      have hb : (NameKind.free != NameKind.free) = false := rfl
      rw [hb] at h1
      simp only [Bool.false_or, Bool.or_eq_true, beq_iff_eq] at h1
      exact h1
    · exact freeOk_mem h.2 n e
theorem relabel_lookup {env : Env} : ∀ {names : List (Str × NameKind)} {x : Str} {k : NameKind}, (names.map fun (n, k) => if (k == NameKind.free && env.scope.kind == .function && env.kindOf n == some .cell) then (n, NameKind.cell) else (n, k)).lookup x = some k →
    ∃ k0, names.lookup x = some k0 ∧ (k = k0 ∨ (k = .cell ∧ k0 = .free))
  | [], _, _, h => by simp at h
  | (n, k0) :: r, x, k, h => by
    rw [List.map_cons] at h
    by_cases hc : (k0 == NameKind.free && env.scope.kind == .function && env.kindOf n == some .cell) = true
    · simp only [hc, if_true, List.lookup_cons] at h
      rw [List.lookup_cons]
      cases hx : x == n with
      | true =>
        rw [hx] at h
        refine ⟨k0, rfl, .inr ⟨(Option.some.inj h).symm, ?_⟩⟩
        simp only [Bool.and_eq_true, beq_iff_eq] at hc
        exact hc.1.1
      | false => rw [hx] at h; exact relabel_lookup h
    · simp only [hc, Bool.false_eq_true, if_false, List.lookup_cons] at h
      rw [List.lookup_cons]
      cases hx : x == n with
      | true => rw [hx] at h; exact ⟨k0, rfl, .inl (Option.some.inj h).symm⟩
      | false => rw [hx] at h; exact relabel_lookup h
theorem lookup_mem {α : Type} : ∀ {l : List (Str × α)} {x : Str} {k : α}, l.lookup x = some k → (x, k) ∈ l
  | [], _, _, h => by simp at h
  | (n, k0) :: r, x, k, h => by
    rw [List.lookup_cons] at h
    cases hx : x == n with
    | true =>
      rw [hx] at h
      have e1 : x = n := by simpa using hx
      have e2 : k0 = k := Option.some.inj h
      subst e1 e2
      exact List.mem_cons_self
    | false => rw [hx] at h; exact List.mem_cons_of_mem _ (lookup_mem h)
noncomputable def capSt (cp : List (Option Nat)) (σ : St) : St := cp.map fun (o : Option Nat) => match o with
  | none => none
  | some j => match σ[(j : Nat)]? with
    | some v => v
    | none => none
noncomputable def capOk (X : Cx) (scope : Scope) : List Str → List (Option Nat) → Bool
  | [], [] => true
  | x :: N, o :: cp => (match o with | none => true | some j => X.N[j]? == some x && scope.names.lookup x == some .free) && capOk X scope N cp
  | _, _ => false
theorem capOk_len {X : Cx} {scope : Scope} : ∀ {N : List Str} {cp : List (Option Nat)}, capOk X scope N cp = true → cp.length = N.length
  | [], [], _ => rfl
  | _ :: N, _ :: cp, h => by
    simp only [capOk, Bool.and_eq_true] at h
    simp [capOk_len h.2]
  | [], _ :: _, h => by simp [capOk] at h
  | _ :: _, [], h => by simp [capOk] at h
theorem capOk_get {X : Cx} {scope : Scope} : ∀ {N : List Str} {cp : List (Option Nat)} {i : Nat} {x : Str} {v : V} {σ : St}, capOk X scope N cp = true → N[i]? = some x → (capSt cp σ)[i]? = some (some v) →
    ∃ j : Nat, X.N[j]? = some x ∧ σ[j]? = some (some v) ∧ scope.names.lookup x = some .free
  | [], [], i, x, v, σ, _, h, _ => by simp at h
  | y :: N, o :: cp, 0, x, v, σ, h, e, e2 => by
    simp only [capOk, Bool.and_eq_true] at h
    have e' : y = x := by simpa using e
    subst e'
    cases o with
    | none => simp [capSt] at e2
    | some j =>
      have h1 := h.1
      simp only [Bool.and_eq_true, beq_iff_eq] at h1
      refine ⟨j, h1.1, ?_, h1.2⟩
      simp only [capSt, List.map_cons, List.getElem?_cons_zero, Option.some.injEq] at e2
      cases q : σ[j]? with
      | none => rw [q] at e2; cases e2
      | some z => rw [q] at e2; exact congrArg some e2
  | y :: N, o :: cp, i + 1, x, v, σ, h, e, e2 => by
    simp only [capOk, Bool.and_eq_true] at h
    exact capOk_get (i := i) h.2 (by simpa using e) (by simpa [capSt] using e2)
  | [], _ :: _, _, _, _, _, h, _, _ => by simp [capOk] at h
  | _ :: _, [], _, _, _, _, h, _, _ => by simp [capOk] at h
noncomputable def cxBlock (X : Cx) (N : List Str) (scope : Scope) (fp : List Addr) (H : Hp) (s : Shared) : Cx :=
  { X with N := N, s₀ := s, H₀ := H, env := compEnvC scope (cellsIn X.env scope.names []) s.heap.objs.size X.env, outer := X.stack, stack := X.stack, ex := fp, fn := fun _ => false, pn := [], xe := fun _ _ => False }
section
variable {X : Cx}
theorem noCell_mem {l : List (Str × NameKind)} (h : (l.all fun p => p.2 != .cell) = true) : ∀ y ∈ l, y.2 ≠ .cell := fun y hy => by
  have := List.all_eq_true.mp h y hy
  simpa using this
theorem cxBlock_ok {pins : List (Addr × Obj)} {σ : St} {H : Hp} {s : Shared} {N : List Str} {scope : Scope} {fp : List Addr} (I : Inv X pins σ H s) (hf : ∀ b ∈ fp, FpOk X pins H b) (hlt : ∀ b ∈ fp, b < s.heap.objs.size) (hk : scope.kind = .function)
    (hcell : (scope.names.all fun p => p.2 != .cell) = true) (hfree : freeOk X.env.scope scope.names = true) : (cxBlock X N scope fp H s).Ok := by
  have has : ∀ n, (n, NameKind.free) ∈ scope.names → ∃ c, X.env.cells.lookup n = some c := fun n hn => I.ok.has n (freeOk_mem hfree n hn)
  have sub : ∀ x c, (cellsIn X.env scope.names []).lookup x = some c → X.env.cells.lookup x = some c := cellsIn_sub _ _ has fun x c e => by simp at e
  have fs : ∀ b ∈ fp, b ∉ frs X.stack := fun b hb z => by
    obtain ⟨_, f1, f2, _⟩ := hf b hb
    rcases List.mem_cons.mp (I.stkSub b z) with e | e
    · exact f1 e
    · exact f2 e
  refine ⟨I.ok.mod, hk, I.ok.glob, I.ok.blt, Nat.le_refl _, fun x y c h1 h2 => I.ok.inj x y c (sub x c h1) (sub y c h2), fun x hx => ?_, (fun x c h => nomatch h), I.ok.hd, I.ok.frames, .inl rfl, fun b hb => ⟨Nat.ne_of_lt (hlt b hb), fun x c e => (hf b hb).2.2.2.2.1 x c (sub x c e)⟩,
    I.bs, Nat.le_trans I.ok.bsz I.sz, fun b o e hb => ?_, fs, I.stack, I.stkFree⟩
  · have hx' : (scope.names.map fun (n, k) => if (k == NameKind.free && X.env.scope.kind == .function && X.env.kindOf n == some .cell) then (n, NameKind.cell) else (n, k)).lookup x = some .cell ∨
        (scope.names.map fun (n, k) => if (k == NameKind.free && X.env.scope.kind == .function && X.env.kindOf n == some .cell) then (n, NameKind.cell) else (n, k)).lookup x = some .free := hx
    have fr : (x, NameKind.free) ∈ scope.names := by
      rcases hx' with e | e
      · obtain ⟨k0, e0, z | z⟩ := relabel_lookup e
        · subst z
          exact absurd rfl (noCell_mem hcell _ (lookup_mem e0))
        · obtain ⟨_, z⟩ := z
          subst z
          exact lookup_mem e0
      · obtain ⟨k0, e0, z | z⟩ := relabel_lookup e
        · subst z
          exact lookup_mem e0
        · exact nomatch z.1
    exact Option.isSome_iff_exists.mp (cellsIn_has _ _ x (.inr fr))
  · obtain ⟨_, _, _, f3, _⟩ := hf b hb
    rcases f3 with z | z
    · exact I.ok.noex b o e z
    · exact absurd (Nat.lt_of_lt_of_le (Heap.lt_size (I.ok.bs b o e).1) z) (Nat.lt_irrefl _)
theorem block_inv {pins : List (Addr × Obj)} {σ : St} {H : Hp} {s : Shared} {N : List Str} {scope : Scope} {fp : List Addr} {cp : List (Option Nat)} {h' : Heap} {m : Str → Option Value} {t' : Nat} (I : Inv X pins σ H s) (hf : ∀ b ∈ fp, FpOk X pins H b) (hlt : ∀ b ∈ fp, b < s.heap.objs.size) (hk : scope.kind = .function)
    (hcell : (scope.names.all fun p => p.2 != .cell) = true) (hfree : freeOk X.env.scope scope.names = true) (hcap : capOk X scope N cp = true)
    (hns : h'.Ns s.heap.objs.size m) (hx : ∀ b o, s.heap.get? b = some o → h'.get? b = some o) : Inv (cxBlock X N scope fp H s) [] (capSt cp σ) H { s with heap := h', toks := t' } := by
  have has : ∀ n, (n, NameKind.free) ∈ scope.names → ∃ c, X.env.cells.lookup n = some c := fun n hn => I.ok.has n (freeOk_mem hfree n hn)
  have sub : ∀ x c, (cellsIn X.env scope.names []).lookup x = some c → X.env.cells.lookup x = some c := cellsIn_sub _ _ has fun x c e => by simp at e
  refine ⟨cxBlock_ok I hf hlt hk hcell hfree, rfl, I.bare, ⟨fun b o e n _ _ => hx b o e, fun b o e n _ _ => ⟨o.slots, hx b o e⟩, fun b o e n _ => n, fun b o e _ => ⟨o, hx b o e⟩, fun b xs e => e, fun b o xs e => e, fun b ps e => ⟨#[], by rw [Array.append_empty]; exact e⟩⟩, ⟨m, hns, fun i x v e1 e2 e3 => ?_⟩, fun x c e => ?_, I.hok.fresh (Nat.le_refl _), fun x c e => I.freeC x c (sub x c e), (fun p hp => nomatch hp), I.hok.kept hx, ?_⟩
  · obtain ⟨j, h1, h2, h3⟩ := capOk_get hcap e1 e2
    obtain ⟨m', _, hl⟩ := I.loc
    have hkx := freeOk_mem hfree x (lookup_mem h3)
    obtain ⟨u, r, l⟩ := hl j x v h1 h2 (.inr hkx)
    rcases l with ⟨l, _⟩ | ⟨_, c, hc, hcell'⟩
    · rcases hkx with z | z
      · exact nomatch (Option.some.inj (l.symm.trans z))
      · exact nomatch (Option.some.inj (l.symm.trans z))
    · obtain ⟨c', hc'⟩ := Option.isSome_iff_exists.mp (cellsIn_has (env := X.env) scope.names [] x (.inr (lookup_mem h3)))
      have ec := sub x c' hc'
      rw [hc] at ec
      cases ec
      refine ⟨u, r, .inr ⟨?_, c, hc', ?_⟩⟩
      · rcases e3 with z | z | z
        · obtain ⟨k0, e0, y | y⟩ := relabel_lookup (show (scope.names.map fun (n, k) => if (k == NameKind.free && X.env.scope.kind == .function && X.env.kindOf n == some .cell) then (n, NameKind.cell) else (n, k)).lookup x = some .local from z)
          · rw [h3] at e0; cases e0; cases y
          · exact nomatch y.1
        · exact .inl z
        · exact .inr z
      · obtain ⟨o, ho, hd⟩ := hcell'
        exact ⟨o, hx c o ho, hd⟩
  · obtain ⟨v, o, ho, hd⟩ := I.cell x c (sub x c e)
    exact ⟨v, o, hx c o ho, hd⟩
  · show (capSt cp σ).length = N.length
    unfold capSt
    rw [List.length_map]
    exact capOk_len hcap
theorem block_after {pins : List (Addr × Obj)} {σ σ' : St} {H H' : Hp} {s s' : Shared} {N : List Str} {scope : Scope} {fp : List Addr} {pins' : List (Addr × Obj)} (I : Inv X pins σ H s) (hf : ∀ b ∈ fp, FpOk X pins H b)
    (J : Inv (cxBlock X N scope fp H s) pins' σ' H' s') : Inv X pins σ H' s' :=
  I.call' (ch := fp) J.os J.base J.hok J.bare fun b hb => ⟨(hf b hb).2.2.2.1, (hf b hb).2.1, (hf b hb).2.2.2.2.1, (hf b hb).2.2.2.2.2⟩
noncomputable def PF (X : Cx) (ifs : List Expr) (t : TT) : Prop :=
  ∀ (pins : List (Addr × Obj)) (s : Shared) (σ : St) (H : Hp) (Q : Bool → Hp → Prop), Inv X pins σ H s → t σ H Q →
    wpAny (model X.prog X.w) X.A (forIn ifs true fun c r => if r = true then do let ok ← isTrue c X.env (eval c X.env); pure (ForInStep.yield ok) else pure (ForInStep.yield r)) (TP X pins σ Q) X.xe s
noncomputable def tYes : TT := fun _ H Q => Q true H
theorem pf_nil : PF X [] tYes := fun _ _ _ H _ I h => wpAny_tests_nil ⟨H, I, h⟩
theorem pf_one {c : Expr} {t : TT} (hc : PT X c t) : PF X [c] t := fun pins s σ H Q I h => wpAny_tests_one (hc pins s σ H Q I h)
noncomputable def LcW (J : It) (D : Addr) (τ0 : St) (H : Hp) (g : TG) (tt : TT) (te : TE) (Q : Addr → Hp → Prop) : Prop := ∃ W : Nat → Nat → St → List V → Hp → Prop, (∃ m, W 0 m τ0 [] (upd H D (.lst []))) ∧ ∀ i m τ ys H, W i m τ ys H →
  H D = some (.lst ys) ∧ ((J.stop i H ∧ Q D H) ∨ (J.go i H ∧ ys.length < sizeLine ∧ ∃ (N1 : St → V → Hp → Prop) (N2 : St → Hp → Prop), (∀ τ v H, N1 τ v H → ∃ m', m' < m ∧ W (i + 1) m' τ (ys ++ [v]) (upd H D (.lst (ys ++ [v])))) ∧ (∀ τ H, N2 τ H → ∃ m', m' < m ∧ W (i + 1) m' τ ys H) ∧
    ∀ x H', J.yld i H x H' → g x τ H' fun σ2 H2 => tt σ2 H2 fun ok H3 => if ok = true then te σ2 H3 fun v H4 => H4 D = some (.lst ys) ∧ N1 σ2 v H4 else N2 σ2 H3))
noncomputable def tLC (cp : List (Option Nat)) (wi : TI) (g : TG) (tt : TT) (te : TE) (σ : St) (H : Hp) (Q : Addr → Hp → Prop) : Prop := wi σ H fun J H1 => ∀ D, H1 D = none → LcW J D (capSt cp σ) H1 g tt te Q
theorem lc_block {elt iter target : Expr} {ifs : List Expr} {scope : Scope} {pos : Pos} {N : List Str} {cp : List (Option Nat)} {g : TG} {tt : TT} {te : TE} {pins : List (Addr × Obj)} {σ : St} {H : Hp} {s : Shared} {E : Value → Shared → Prop} {Q : Addr → Hp → Prop}
    {it : Addr} {fp : List Addr} {tn : Nat → Heap → Prop} {J : It} {RR : Value → Addr → Result → Shared → Prop} (hc : X.calm = true) (hk : scope.kind = .function) (hcell : (scope.names.all fun p => p.2 != .cell) = true) (hfree : freeOk X.env.scope scope.names = true) (hcap : capOk X scope N cp = true)
    (hg : ∀ fp H s, PG (cxBlock X N scope fp H s) target g) (ht : ∀ fp H s, PF (cxBlock X N scope fp H s) ifs tt) (he : ∀ fp H s, PE (cxBlock X N scope fp H s) elt te)
    (I : Inv X pins σ H s) (T : Turn X.prog X.w X.K target J fp it tn) (st : tn 0 s.heap) (hf : ∀ b ∈ fp, FpOk X pins H b)
    (h : ∀ D, H D = none → LcW J D (capSt cp σ) H g tt te Q)
    (hRR : ∀ D C s' H' m, Inv X pins σ H' s' → FpOk X pins H' C → s'.heap.Ns C m → Q D H' → RR (.ref D) C (.ok .next) s') :
    wpAny (model X.prog X.w) X.A (newList []) (fun acc s3 => wpAny (model X.prog X.w) X.A (newFunctionEnv scope X.env.globals (cellsIn X.env scope.names []) [] X.env.qual none .none (some X.env)) (fun cenv s4 =>
      codeAny (model X.prog X.w) X.A (.compStart (.ListComp elt [⟨target, iter, ifs, 0⟩] scope pos) 0 (.ref it) acc { cenv with scope := relabel scope X.env }) (RR acc cenv.locals) s4) E s3) E s := by
  have hlt : ∀ b ∈ fp, b < s.heap.objs.size := fun b hb => by
    obtain ⟨o, e, _⟩ := T.obj _ _ st b hb
    exact Heap.lt_size e
  refine wpAny_newObj_type (wpAny_newFunctionEnv (noCell_mem hcell) (by intro y hy; simp at hy) (fun h1 hns1 hsb1 => ?_) hk)
  dsimp only at hns1 hsb1 ⊢
  have hD : H s.heap.objs.size = none := I.hok.fresh (Nat.le_refl _)
  have I3 : Inv X pins σ (upd H s.heap.objs.size (.lst [])) { s with heap := s.heap.push { cls := .type "list", dict := none, data := .seq ([] : List Value).toArray } } :=
    I.laid (t' := s.toks) (fun b u e => Heap.get?_push_of_some _ e) (Nat.le_refl _) ⟨Nat.zero_le _, [], 0, .nil, Heap.get?_push_size _ rfl⟩
  have hf3 : ∀ b ∈ fp, FpOk X pins (upd H s.heap.objs.size (.lst [])) b := fun b hb => ⟨by rw [upd_ne (Nat.ne_of_lt (hlt b hb))]; exact (hf b hb).1, (hf b hb).2⟩
  have hlt3 : ∀ b ∈ fp, b < (s.heap.push { cls := .type "list", dict := none, data := .seq ([] : List Value).toArray }).objs.size := fun b hb => by rw [Heap.size_push]; exact Nat.lt_succ_of_lt (hlt b hb)
  generalize hH2 : s.heap.push { cls := .type "list", dict := none, data := .seq ([] : List Value).toArray } = H2 at hns1 hsb1 I3 hlt3 ⊢
  generalize hs3 : ({ s with heap := H2 } : Shared) = s3 at I3
  have hs3h : s3.heap = H2 := by rw [← hs3]
  have ext1 : ∀ b o, s3.heap.get? b = some o → h1.get? b = some o := fun b o e => by
    rw [hs3h] at e
    exact hsb1.extBut b o (Nat.ne_of_lt (Heap.lt_size e)) (Heap.get?_push_of_some _ e)
  have J0 : Inv (cxBlock X N scope fp (upd H s.heap.objs.size (.lst [])) s3) [] (capSt cp σ) (upd H s.heap.objs.size (.lst [])) { s3 with heap := h1, toks := s.toks + ([] : List (Str × Value)).length } :=
    block_inv I3 hf3 (by rw [hs3h]; exact hlt3) hk hcell hfree hcap (by rw [hs3h]; exact hns1) ext1
  have st1 : tn 0 h1 := T.keep _ _ _ st fun b hb o e => ext1 b o (by rw [hs3h, ← hH2]; exact Heap.get?_push_of_some _ e)
  obtain ⟨W, ⟨m0, w0⟩, turn⟩ := h s.heap.objs.size hD
  have stat : ∀ {H' : Hp}, (∀ b ∈ fp, H' b = none) → ∀ b ∈ fp, FpOk (cxBlock X N scope fp (upd H s.heap.objs.size (.lst [])) s3) [] H' b := fun {H'} hn b hb =>
    ⟨hn b hb, (J0.ok.exf b hb).1, J0.ok.exfs b hb, .inl hb, (J0.ok.exf b hb).2, fun p hp => nomatch hp⟩
  have loop : codeAny (model X.prog X.w) X.A (.compLoop (.ListComp elt [⟨target, iter, ifs, 0⟩] scope pos) 0 (.ref it) (.ref s.heap.objs.size) (compEnvC scope (cellsIn X.env scope.names []) H2.objs.size X.env))
      (RR (.ref s.heap.objs.size) H2.objs.size) { s3 with heap := h1, toks := s.toks + ([] : List (Str × Value)).length } := by
    have eEnv : compEnvC scope (cellsIn X.env scope.names []) H2.objs.size X.env = (cxBlock X N scope fp (upd H s.heap.objs.size (.lst [])) s3).env := by
      rw [← hs3h]; rfl
    rw [eEnv]
    refine compLoop_any (fun n s' => ∃ i τ ys H', Inv (cxBlock X N scope fp (upd H s.heap.objs.size (.lst [])) s3) [] τ H' s' ∧ tn i s'.heap ∧ (∀ b ∈ fp, H' b = none) ∧ W i n τ ys H') ?_ m0 ⟨0, capSt cp σ, [], _, J0, st1, fun b hb => (hf3 b hb).1, w0⟩
    rintro n s4 ⟨i, τ, ys, H4, I4, st4, fr4, w4⟩
    obtain ⟨hD4, hh⟩ := turn i n τ ys H4 w4
    rcases hh with ⟨stop, qn⟩ | ⟨go, hlen, N1, N2, hN1, hN2, step⟩
    · refine thn (T.done (cxBlock X N scope fp (upd H s.heap.objs.size (.lst [])) s3) rfl rfl rfl hc i [] s4 τ H4 _ I4 (stat fr4) st4 stop) fun r s5 ⟨hr, I5⟩ => ?_
      subst hr
      obtain ⟨m, hm, _⟩ := I5.loc
      have e5 : H2.objs.size = (cxBlock X N scope fp (upd H s.heap.objs.size (.lst [])) s3).env.locals := by rw [← eEnv]; rfl
      refine hRR _ _ s5 H4 m (block_after I3 hf3 I5) ?_ (by rw [e5]; exact hm) qn
      exact I3.fpOk (by rw [hs3h]; exact Nat.le_refl _) (by rw [e5]; exact I5.free)
    · refine thn (T.item (cxBlock X N scope fp (upd H s.heap.objs.size (.lst [])) s3) rfl rfl rfl hc i [] s4 τ H4 _ I4 (stat fr4) st4 go) fun r s5 ⟨u, hr, h5⟩ => ?_
      subst hr
      refine thn h5 fun _ s6 ⟨x, H6, I6, r6, y6, st6, fr6⟩ => ?_
      have I6' := I6.pinned (stat fr6) (T.obj _ _ st6)
      refine thn (hg fp _ _ _ s6 τ H6 x u _ I6' r6 (step x H6 y6)) fun _ s7 ⟨σ7, H7, I7, q7⟩ => ?_
      refine thn (ht fp _ _ _ s7 σ7 H7 _ I7 q7) fun ok s8 ⟨H8, I8, q8⟩ => ?_
      have back : ∀ {σ' : St} {H' : Hp} {s' : Shared}, Inv (cxBlock X N scope fp (upd H s.heap.objs.size (.lst [])) s3) ([] ++ pinsAt fp s6.heap) σ' H' s' → Inv (cxBlock X N scope fp (upd H s.heap.objs.size (.lst [])) s3) [] σ' H' s' ∧ tn (i + 1) s'.heap ∧ ∀ b ∈ fp, H' b = none := fun {σ' H' s'} I' => by
        refine ⟨I'.unpinned, T.keep _ _ _ st6 fun b hb o e => (I'.pin (b, o) (List.mem_append_right _ (List.mem_append_right _ (mem_pinsAt hb e)))).1, fun b hb => ?_⟩
        obtain ⟨o, e, d⟩ := T.obj _ _ st6 b hb
        exact (I'.pin (b, o) (List.mem_append_right _ (List.mem_append_right _ (mem_pinsAt hb e)))).2.1
      cases ok with
      | false =>
        rw [if_neg Bool.false_ne_true] at q8 ⊢
        obtain ⟨m', hm, w8⟩ := hN2 _ _ q8
        obtain ⟨b1, b2, b3⟩ := back I8
        exact ⟨m', hm, i + 1, σ7, ys, H8, b1, b2, b3, w8⟩
      | true =>
        rw [if_pos rfl] at q8 ⊢
        refine thn (he fp _ _ _ s8 σ7 H8 _ I8 q8) fun y s9 ⟨v, H9, I9, r9, hD9, n9⟩ => ?_
        obtain ⟨m', hm, w9⟩ := hN1 _ _ _ n9
        refine thn (mt_append _ s9 σ7 H9 (.ref s.heap.objs.size) [v] (.ref s.heap.objs.size) [y] (fun _ H' => H' = upd H9 s.heap.objs.size (.lst (ys ++ [v]))) I9 rfl (.cons r9 .nil) ⟨_, ys, v, rfl, rfl, hD9, hlen, rfl⟩) fun _ s10 ⟨_, H10, I10, _, e10⟩ => ?_
        subst e10
        obtain ⟨b1, b2, b3⟩ := back I10
        exact ⟨m', hm, i + 1, σ7, _, _, b1, b2, b3, w9⟩
  have e3 : ({ s with heap := h1, toks := s.toks + ([] : List (Str × Value)).length } : Shared) = { s3 with heap := h1, toks := s.toks + ([] : List (Str × Value)).length } := by rw [← hs3]
  rw [e3]
  exact codeAny_compStart_list loop (T.self _ 0 _ _ _ st1 loop)
theorem pe_lc {elt iter target : Expr} {ifs : List Expr} {scope : Scope} {pos : Pos} (N : List Str) (cp : List (Option Nat)) {wi : TI} {g : TG} {tt : TT} {te : TE} (hc : X.calm = true) (hi : PI X target iter wi)
    (hg : ∀ fp H s, PG (cxBlock X N scope fp H s) target g) (ht : ∀ fp H s, PF (cxBlock X N scope fp H s) ifs tt) (he : ∀ fp H s, PE (cxBlock X N scope fp H s) elt te)
    (hk : autoParam (scope.kind = .function) L2.aRfl._auto_1) (hcell : autoParam ((scope.names.all fun p => p.2 != .cell) = true) L2.aRfl._auto_1) (hfree : autoParam (freeOk X.env.scope scope.names = true) L2.aRfl._auto_1) (hcap : autoParam (capOk X scope N cp = true) L2.aRfl._auto_1)
    (hnames : autoParam ((scope.names.all fun p => p.2 != .local || scope.names.lookup p.1 == some .local) = true) L2.aRfl._auto_1) (hs : autoParam (∀ x, foldedSetIterable iter X.env x = pure x) L2.aIrf._auto_1) :
    PE X (.ListComp elt [⟨target, iter, ifs, 0⟩] scope pos) (fun σ H Q => tLC cp wi g tt te σ H fun D H' => Q (.ref D) H') := by
  intro pins s σ H Q I h
  rw [eval_ListComp]
  have has : ∀ n, (n, NameKind.free) ∈ scope.names → ∃ c, X.env.cells.lookup n = some c := fun n hn => I.ok.has n (freeOk_mem hfree n hn)
  refine wpAny_comprehension_free (use := none) rfl hs (closureFor_cells has) hk (fun x hx hl => ?_) (thn (hi pins s σ H _ I h) fun xv s1 h1 => thn h1 fun itv s2 h2 => ?_)
  · have := List.all_eq_true.mp hnames x hx
    simp only [Bool.or_eq_true, bne_iff_ne, beq_iff_eq] at this
    exact this.resolve_left fun z => z hl
  · obtain ⟨it, fp, tn, J, H2, e, I2, T, st2, f2, hW⟩ := h2
    subst e
    refine lc_block (N := N) (cp := cp) hc hk hcell hfree hcap hg ht he I2 T st2 f2 hW fun D C s' H' m I' fC hm q => ⟨m, hm, fun h' hsb => ?_⟩
    exact ⟨.ref D, H', I'.turned (t' := s'.toks) (fun b o hb e => hsb.extBut b o hb e) fC.1 fC.2.1 fC.2.2.2.1 fC.2.2.2.2.1 fC.2.2.2.2.2, rfl, q⟩
theorem ps_setC {i : Nat} {x : Str} {px : Pos} {elt iter target : Expr} {ifs : List Expr} {scope : Scope} {pos spos : Pos} (N : List Str) (cp : List (Option Nat)) {wi : TI} {g : TG} {tt : TT} {te : TE} (hc : X.calm = true) (hN : X.N.Nodup) (hi' : X.N[i]? = some x) (hx : Loc X.env.scope x) (hi : PI X target iter wi)
    (hg : ∀ fp H s, PG (cxBlock X N scope fp H s) target g) (ht : ∀ fp H s, PF (cxBlock X N scope fp H s) ifs tt) (he : ∀ fp H s, PE (cxBlock X N scope fp H s) elt te)
    (hsw : autoParam (swapsWith (.ListComp elt [⟨target, iter, ifs, 0⟩] scope pos) (some (.Name x px)) spos.line X.env = pure true) L2.aRfl._auto_1)
    (hk : autoParam (scope.kind = .function) L2.aRfl._auto_1) (hcell : autoParam ((scope.names.all fun p => p.2 != .cell) = true) L2.aRfl._auto_1) (hfree : autoParam (freeOk X.env.scope scope.names = true) L2.aRfl._auto_1) (hcap : autoParam (capOk X scope N cp = true) L2.aRfl._auto_1)
    (hnames : autoParam ((scope.names.all fun p => p.2 != .local || scope.names.lookup p.1 == some .local) = true) L2.aRfl._auto_1) (hs : autoParam (∀ x, foldedSetIterable iter X.env x = pure x) L2.aIrf._auto_1)
    (hf : autoParam (X.fn x = true ∨ X.env.scope.names.lookup x = some .local) L2.aFst._auto_1) :
    PS X (.Assign [.Name x px] (.ListComp elt [⟨target, iter, ifs, 0⟩] scope pos) spos) (fun D σ H => tLC cp wi g tt te σ H fun a H' => D.nx (σ.set i (some (.ref a))) H') := by
  intro pins s σ H D I h
  have has : ∀ n, (n, NameKind.free) ∈ scope.names → ∃ c, X.env.cells.lookup n = some c := fun n hn => I.ok.has n (freeOk_mem hfree n hn)
  rw [exec_Assign_Name_used _ _ _ _ hsw]
  refine wpAny_bind (wpAny_standAt (wpAny_bind ?_))
  show wpAny _ _ (do let _ ← comprehension (.ListComp elt [⟨target, iter, ifs, 0⟩] scope pos) scope X.env _ (newList []) false (eval iter X.env) (some (assign (.Name x px) X.env))) _ _ s
  refine wpAny_bind (wpAny_mono (wpAny_comprehension_free (use := some (assign (.Name x px) X.env)) (Q := fun _ s' => SP X pins D .next s') rfl hs (closureFor_cells has) hk (fun x hx hl => ?_)
    (thn (hi pins s σ H _ I h) fun xv s1 h1 => thn h1 fun itv s2 h2 => ?_)) (fun _ s' hq => wpAny_pure (wpAny_pure hq)) fun _ _ e => e)
  · have := List.all_eq_true.mp hnames x hx
    simp only [Bool.or_eq_true, bne_iff_ne, beq_iff_eq] at this
    exact this.resolve_left fun z => z hl
  · obtain ⟨it, fp, tn, J, H2, e, I2, T, st2, f2, hW⟩ := h2
    subst e
    refine lc_block (N := N) (cp := cp) hc hk hcell hfree hcap hg ht he I2 T st2 f2 hW fun D' C s' H' m I' fC hm q => ?_
    show wpAny _ _ (assign (.Name x px) X.env (.ref D')) _ _ _
    refine wpAny_assign_Name (store_ok2 I' hN hi' hx (v := .ref D') rfl (fun s'' I'' hsb => ?_) hf)
    obtain ⟨a, hsb, ha⟩ := hsb
    have hCa : C ≠ a := by
      rcases ha with e | e
      · rw [e]; exact fC.2.1
      · exact fun z => fC.2.2.2.2.1 x a e z.symm
    refine ⟨m, hm.sameBut hsb hCa, fun h' hsb' => ?_⟩
    exact ⟨_, H', I''.turned (t' := s''.toks) (fun b o hb e => hsb'.extBut b o hb e) fC.1 fC.2.1 fC.2.2.2.1 fC.2.2.2.2.1 fC.2.2.2.2.2, q⟩
end
end L2
namespace L2
open PySem PySem.Spec PyProof.Rows
structure Drw (P : Program) (w : World) (it l : Addr) (st : Nat → Heap → Prop) (src : List Value → Heap → Prop) : Prop where
  obj : ∀ i h, st i h → ∃ o, h.get? it = some o ∧ ∀ v, o.data ≠ .cell v
  keep : ∀ i h h', st i h → (∀ o, h.get? it = some o → h'.get? it = some o) → st i h'
  srck : ∀ xs h h', src xs h → (∀ o, h.get? l = some o → h'.get? l = some o) → src xs h'
  item : ∀ (A : Around) (E : Value → Shared → Prop) (s : Shared) (i : Nat) (xs : List Value) (x : Value) (Q : Value → Shared → Prop), st i s.heap → src xs s.heap → xs[i]? = some x →
    (∀ h', st (i + 1) h' → Heap.SameBut it s.heap h' → Q x { s with heap := h' }) → wpAny (model P w) A (Builtin.SmallTypes.nextOf (.ref it)) Q E s
  done : ∀ (A : Around) (E : Value → Shared → Prop) (s : Shared) (i : Nat) (xs : List Value) (Q : Value → Shared → Prop), A.handled = none → st i s.heap → src xs s.heap → xs[i]? = none →
    (∀ h' e, Heap.ExtBut it s.heap h' → (∃ o, h'.get? e = some o ∧ o.cls = .type "StopIteration") → E (.ref e) { s with heap := h' }) → wpAny (model P w) A (Builtin.SmallTypes.nextOf (.ref it)) Q E s
theorem drw_list {P : Program} {w : World} (it l : Addr) : Drw P w it l (fun i h => h.IsListIter it l i) (fun xs h => h.IsList l xs.toArray) where
  obj := fun i h st => by
    obtain ⟨o, e, c, d⟩ := st
    exact ⟨o, e, fun v z => by rw [d] at z; cases z⟩
  keep := fun i h h' st k => st.at k
  srck := fun xs h h' sr k => sr.at k
  item := fun A E s i xs x Q st sr hx hQ => wpAny_nextOf_list_item st sr (by simpa using hx) hQ
  done := fun A E s i xs Q hh st sr hx hE => wpAny_nextOf_list_end hh st sr (by simpa using hx) hE
section
variable {P : Program} {w : World} {A : Around} {E : Value → Shared → Prop} {s : Shared}
theorem nextOf_tup_item {it t : Addr} {i : Nat} {xs : Array Value} {x : Value} {Q : Value → Shared → Prop} (hI : s.heap.IsTupleIter it t i) (hT : s.heap.IsTuple t xs) (hx : xs[i]? = some x)
    (hQ : ∀ h', h'.IsTupleIter it t (i + 1) → Heap.SameBut it s.heap h' → Q x { s with heap := h' }) : wpAny (model P w) A (Builtin.SmallTypes.nextOf (.ref it)) Q E s := by
  obtain ⟨oI, gI, cI, dI⟩ := id hI
  obtain ⟨oT, gT, _, nT, dT⟩ := hT
  unfold Builtin.SmallTypes.nextOf
  refine wpAny_bind (wpAny_callSpecial?_slot (name := Str.ofString "__next__") hI.typeIs F.slot_tuple_iterator_next (wpAny_call_entry F.slot_tuple_iterator_next hI.typeIs F.entry_tuple_iterator_next ?_ (F.args_tuple_iterator_next_1 _)))
  show wpAny _ _ (field (.ref it) 0 >>= _) _ _ s
  refine wpAny_bind (wpAny_field gI dI (x := .ref t) rfl ?_)
  show wpAny _ _ (if (Value.ref t == Value.none) = true then _ else _) _ _ s
  rw [if_neg (show ¬ ((Value.ref t == Value.none) = true) from Bool.false_ne_true)]
  show wpAny _ _ (field (.ref it) 1 >>= _) _ _ s
  refine wpAny_bind (wpAny_field gI dI (x := .int i 0) rfl ?_)
  show wpAny _ _ (seqItems? (.ref t) >>= _) _ _ s
  refine wpAny_bind (wpAny_seqItems gT dT ?_)
  simp only [Int.toNat_natCast, hx]
  refine wpAny_bind (wpAny_setField gI dI (by simp) (wpAny_pure ⟨x, rfl, wpAny_pure (hQ _ ?_ (Heap.SameBut.update ..))⟩))
  refine ⟨_, Heap.get?_update_self _ gI (Obj.isFreed_of_fields (Obj.data_mapFields dI _)), (Obj.cls_mapFields ..).trans cI, ?_⟩
  rw [Obj.data_mapFields dI]; simp [rawInt]
theorem nextOf_tup_end {it t : Addr} {i : Nat} {xs : Array Value} {Q : Value → Shared → Prop} (hh : A.handled = none) (hI : s.heap.IsTupleIter it t i) (hT : s.heap.IsTuple t xs) (hx : xs[i]? = none)
    (hE : ∀ h' e, Heap.ExtBut it s.heap h' → (∃ o, h'.get? e = some o ∧ o.cls = .type "StopIteration") → E (.ref e) { s with heap := h' }) : wpAny (model P w) A (Builtin.SmallTypes.nextOf (.ref it)) Q E s := by
  obtain ⟨oI, gI, cI, dI⟩ := id hI
  obtain ⟨oT, gT, _, nT, dT⟩ := hT
  unfold Builtin.SmallTypes.nextOf
  refine wpAny_bind (wpAny_callSpecial?_slot (name := Str.ofString "__next__") hI.typeIs F.slot_tuple_iterator_next (wpAny_call_entry F.slot_tuple_iterator_next hI.typeIs F.entry_tuple_iterator_next ?_ (F.args_tuple_iterator_next_1 _)))
  show wpAny _ _ (field (.ref it) 0 >>= _) _ _ s
  refine wpAny_bind (wpAny_field gI dI (x := .ref t) rfl ?_)
  show wpAny _ _ (if (Value.ref t == Value.none) = true then _ else _) _ _ s
  rw [if_neg (show ¬ ((Value.ref t == Value.none) = true) from Bool.false_ne_true)]
  show wpAny _ _ (field (.ref it) 1 >>= _) _ _ s
  refine wpAny_bind (wpAny_field gI dI (x := .int i 0) rfl ?_)
  show wpAny _ _ (seqItems? (.ref t) >>= _) _ _ s
  refine wpAny_bind (wpAny_seqItems gT dT ?_)
  simp only [Int.toNat_natCast, hx]
  refine wpAny_bind (wpAny_rule (wpAny_bind (wpAny_setField gI dI (by simp) ?_)))
  show wpAny _ _ (newExc (.type "StopIteration") [] >>= _) _ _ _
  refine wpAny_bind ?_
  simp only [newExc, newTuple]
  refine wpAny_bind (wpAny_newObj_type ?_ (by size_fits))
  refine wpAny_bind (m := firstArgMember _ _) (wpAny_of_eq (a := Value.none) (by first | rfl | (simp only [firstArgMember]; rfl)) ?_)
  refine wpAny_newObj_type ?_ (by size_fits)
  simp only [raiseNew]
  refine wpAny_bind (wpAny_handled ?_)
  first | rw [show A.in1.handled = none from hh] | rw [hh]
  exact wpAny_bind (wpAny_pure (wpAny_throw (hE _ _ (((Heap.SameBut.update ..).extBut.push _).push _) ⟨_, Heap.get?_push_size _ rfl, rfl⟩)))
end
theorem drw_tup {P : Program} {w : World} (it l : Addr) : Drw P w it l (fun i h => h.IsTupleIter it l i) (fun xs h => h.IsTuple l xs.toArray) where
  obj := fun i h st => by
    obtain ⟨o, e, c, d⟩ := st
    exact ⟨o, e, fun v z => by rw [d] at z; cases z⟩
  keep := fun i h h' st k => st.at k
  srck := fun xs h h' sr k => sr.at k
  item := fun A E s i xs x Q st sr hx hQ => nextOf_tup_item st sr (by simpa using hx) hQ
  done := fun A E s i xs Q hh st sr hx hE => nextOf_tup_end hh st sr (by simpa using hx) hE
section
variable {P : Program} {w : World} {A : Around} {E : Value → Shared → Prop} {s : Shared} {z u o i1 i2 l1 l2 : Addr} {st1 st2 : Nat → Heap → Prop} {src1 src2 : List Value → Heap → Prop} {k1 k2 : Nat} {xs ys : List Value} {a b : Value}
end
noncomputable def itObj (n : String) (l : Addr) : Obj := { cls := .type n, data := .fields #[.ref l, .int 0 0] }
structure Itr0 (n : String) (l : Addr) (pr : Heap → Prop) : Prop where
  go : ∀ (P : Program) (w : World) (A : Around) (E : Value → Shared → Prop) (s : Shared) (Q : Value → Shared → Prop), pr s.heap → Q (.ref s.heap.objs.size) { s with heap := s.heap.push (itObj n l) } → wpAny (model P w) A (pyIter (.ref l)) Q E s
  push : ∀ h o, pr h → pr (h.push o)
theorem itr0_list (l : Addr) (xs : Array Value) : Itr0 "list_iterator" l (fun h => h.IsList l xs) := ⟨fun _ _ _ _ _ _ hl h => wpAny_pyIter_list hl h, fun _ _ hl => hl.push _⟩
theorem itr0_tup (l : Addr) (xs : Array Value) : Itr0 "tuple_iterator" l (fun h => h.IsTuple l xs) := ⟨fun _ _ _ _ _ _ hl h => wpAny_pyIter_tuple hl h, fun _ _ hl => hl.push _⟩
end L2
namespace L2
open PySem PySem.Spec PyProof.Rows
noncomputable def Sq (K : PySem.W.Frag) (m : Bool) (H : Hp) (a : Addr) (xs : List V) : Prop := if m = true then SqL K H a xs else SqT K H a xs
noncomputable def itN (m : Bool) : String := if m = true then "list_iterator" else "tuple_iterator"
noncomputable def itSt (m : Bool) (it l : Addr) (i : Nat) (h : Heap) : Prop := if m = true then h.IsListIter it l i else h.IsTupleIter it l i
noncomputable def itSrc (m : Bool) (l : Addr) (xs : List Value) (h : Heap) : Prop := if m = true then h.IsList l xs.toArray else h.IsTuple l xs.toArray
theorem drw_of {P : Program} {w : World} (m : Bool) (it l : Addr) : Drw P w it l (itSt m it l) (itSrc m l) := by
  cases m
  · exact drw_tup it l
  · exact drw_list it l
theorem itr0_of (m : Bool) (l : Addr) (xs : List Value) : Itr0 (itN m) l (itSrc m l xs) := by
  cases m
  · exact itr0_tup l xs.toArray
  · exact itr0_list l xs.toArray
theorem itSt_new (m : Bool) {h : Heap} {it l : Addr} (e : h.get? it = some (itObj (itN m) l)) : itSt m it l 0 h := by
  cases m
  · exact ⟨_, e, rfl, rfl⟩
  · exact ⟨_, e, rfl, rfl⟩
section
variable {X : Cx} {pins : List (Addr × Obj)} {σ : St} {H : Hp} {s : Shared}
theorem Inv.sq {m : Bool} {a : Addr} {xs : List V} (I : Inv X pins σ H s) (h : Sq X.K m H a xs) : ∃ its : List Value, Vals xs its ∧ itSrc m a its s.heap ∧ xs.length ≤ sizeLine := by
  cases m
  · obtain ⟨its, rv, p, hz⟩ := I.tuple h
    exact ⟨its, rv, p, by first | exact hz | omega⟩
  · obtain ⟨its, rv, p, hz⟩ := I.list h
    exact ⟨its, rv, p.isList, by first | exact hz | omega⟩
theorem Inv.sq_inj {m : Bool} {a : Addr} {xs ys : List V} (I : Inv X pins σ H s) (h : Sq X.K m H a xs) (h' : Sq X.K m H a ys) : xs = ys := by
  cases m
  · exact I.tuple_inj h h'
  · exact I.list_inj h h'
theorem Inv.tupNew {xs : List V} {its : List Value} {h' : Heap} {ch : List Addr} {T : Addr} (I : Inv X pins σ H s) (hT : s.heap.objs.size ≤ T) (r : Vals xs its) (hz : xs.length ≤ sizeLine) (e : h'.get? T = some { cls := .type "tuple", data := .seq its.toArray })
    (hf : ∀ b ∈ ch, FpOk X pins H b) (k : ∀ b o, b ∉ ch → s.heap.get? b = some o → h'.get? b = some o) (th : ∀ b ∈ ch, ∃ o, h'.get? b = some o) : Inv X pins σ (upd H T (.tup xs)) { s with heap := h' } := by
  have hn : H T = none := I.hok.fresh hT
  have tr : ∀ b o, H b = some o → b ∉ ch := fun b o e z => by rw [(hf b z).1] at e; cases e
  refine I.step (g' := s.gens) (t' := s.toks) (d' := s.drawn) (ch := ch) (fun b hb => ⟨(hf b hb).2.2.2.1, (hf b hb).2.1, (hf b hb).2.2.2.2.1, (hf b hb).2.2.2.2.2⟩) (fun b o _ _ hc q _ => k b o hc q) (fun b o _ _ hc q _ => ⟨o.slots, k b o hc q⟩) (fun b o _ q n => ?_) (fun b o hc q => ⟨o, k b o hc q⟩)
    (fun b xs q => ?_) (fun b o u q => ?_) (fun b ps q => ⟨#[], ?_⟩) (fun m hm => ?_) (fun b ob q => ?_) I.bare
  · rw [upd_ne (Nat.ne_of_lt (Nat.lt_of_lt_of_le (Heap.lt_size q) hT))]; exact n
  · rw [upd_ne (ne_of_none q hn)]; exact q
  · rw [upd_ne (ne_of_none q hn)]; exact q
  · rw [upd_ne (ne_of_none q hn), Array.append_empty]; exact q
  · obtain ⟨o, es, ep, q, d, r⟩ := hm
    exact ⟨o, es, ep, k _ o (fun z => (hf _ z).2.1 rfl) q, d, r⟩
  · by_cases hb : b = T
    · subst hb
      rw [upd_same] at q; cases q
      exact ⟨hz, its, r, _, e, rfl, _, rfl⟩
    · rw [upd_ne hb] at q
      refine (I.hok b ob q).stay (fun c v hc r => k c v ?_ r) (fun c r => by rw [upd_ne (ne_of_none r hn)]; exact r) fun c xs r => by rw [upd_ne (ne_of_none r hn)]; exact r
      rcases hc with rfl | hc
      · exact tr _ _ q
      · exact tr _ _ hc
end
section
variable {X : Cx}
theorem itSrc_lt {m : Bool} {a : Addr} {xs : List Value} {h : Heap} (e : itSrc m a xs h) : a < h.objs.size := by
  cases m
  · obtain ⟨o, e, _⟩ := e; exact Heap.lt_size e
  · obtain ⟨o, e, _⟩ := e; exact Heap.lt_size e
end
end L2
namespace L2
open PySem PySem.Spec PyProof.Rows
section
variable {X : Cx}
noncomputable def isiV (K : PySem.W.Frag) (H : Hp) : V → String → Bool → Prop
  | .int _, T, b => (T = "int" ∧ b = true) ∨ (T = "bool" ∧ b = false) ∨ (T = "tuple" ∧ b = false)
  | .bl _, T, b => (T = "int" ∧ b = true) ∨ (T = "bool" ∧ b = true) ∨ (T = "tuple" ∧ b = false)
  | .ref a, T, b => (∃ xs, SqT K H a xs) ∧ ((T = "tuple" ∧ b = true) ∨ (T = "int" ∧ b = false) ∨ (T = "bool" ∧ b = false))
  | _, _, _ => False
theorem call_isi : CallR X (.builtin "isinstance") (fun xs H Q => ∃ x T b, xs = [x, .ty T] ∧ isiV X.K H x T b ∧ Q (.bl b) H) := by
  intro pins s σ H xs us Q I rv h
  obtain ⟨x, T, b, rfl, hi, q⟩ := h
  obtain ⟨u, v, rfl, ru, rT⟩ := rv.two
  cases rT
  have fin : ∀ (tk : Nat), EP X pins σ Q (.bool b) { s with toks := tk } := fun tk => ⟨.bl b, H, I.tok tk, rfl, q⟩
  cases x with
  | int n =>
    obtain ⟨t, rfl⟩ := ru
    rcases hi with ⟨rfl, rfl⟩ | ⟨rfl, rfl⟩ | ⟨rfl, rfl⟩
    · exact IsiPair.int_int (fin s.toks)
    · exact IsiPair.int_bool (fin _)
    · exact IsiPair.int_tuple (fin _)
  | bl n =>
    cases ru
    rcases hi with ⟨rfl, rfl⟩ | ⟨rfl, rfl⟩ | ⟨rfl, rfl⟩
    · exact IsiPair.bool_int (fin s.toks)
    · exact IsiPair.bool_bool (fin s.toks)
    · exact IsiPair.bool_tuple (fin _)
  | ref a =>
    cases ru
    obtain ⟨⟨xs, hq⟩, hi⟩ := hi
    obtain ⟨its, r, ⟨o, e, c, _⟩, _⟩ := I.tuple hq
    rcases hi with ⟨rfl, rfl⟩ | ⟨rfl, rfl⟩ | ⟨rfl, rfl⟩
    · exact IsiPair.tuple_tuple e c (fin s.toks)
    · exact IsiPair.tuple_int e c (fin _)
    · exact IsiPair.tuple_bool e c (fin _)
  | non => exact hi.elim
  | str _ => exact hi.elim
  | byt _ => exact hi.elim
  | flt _ => exact hi.elim
  | ty _ => exact hi.elim
noncomputable def CDivB (i j : Int) : Prop := 0 < j ∧ j.natAbs.log2 < 9000
theorem op_fdivB : OpR X (binaryOp .FloorDiv) (rI CDivB fun i j => .int (i / j)) := opI fun i j _ _ _ _ _ hc q => by
  refine floordiv_int (Int.ne_of_gt hc.1) ?_ (.inl (PyProof.noPylong_of_log2 hc.2))
  rw [Int.fdiv_eq_ediv_of_nonneg _ (Int.le_of_lt hc.1)]
  exact q
theorem call_sumI (hc : X.calm = true) : CallR X (.builtin "sum") (fun xs H Q => ∃ (a : Addr) (ns : List Int), xs = [.ref a] ∧ SqL X.K H a (ns.map V.int) ∧ Q (.int ns.sum) H) := by
  intro pins s σ H xs us Q I rv h
  obtain ⟨a, ns, rfl, hq, q⟩ := h
  obtain ⟨u, rfl, ru⟩ := rv.one
  cases ru
  obtain ⟨its, r, p, hz⟩ := I.list hq
  have hi : IntsAre its.toArray.toList ns := intsAre_of r
  have hall : AllInts its.toArray := hi.allInts
  obtain ⟨xs, hx⟩ := hall.items
  have hl' : s.heap.IsList a (intItems xs) := hx ▸ p.isList
  refine sum_intListG (I.ok.hd hc) hl' fun h' tk t' hk => ?_
  have e1 : ns = xs.toList.map (·.1) := by
    rw [← nums_intItems, ← hx]
    exact (show numsOf its.toArray.toList = ns from hi.numsOf).symm
  have e2 : preSum (numAt xs) xs.size = ns.sum := by
    rw [preSum_eq, List.take_of_length_le (by simp), e1]
  rw [e2]
  exact ⟨.int ns.sum, H, I.kept hk, ⟨_, rfl⟩, q⟩
end
section
variable {X : Cx} {pins : List (Addr × Obj)} {σ : St} {H : Hp} {s : Shared}
theorem ext_all {α : Type} {xs ys : List α} (hl : xs.length = ys.length) (h : ∀ (i : Nat) x y, xs[i]? = some x → ys[i]? = some y → x = y) : xs = ys := by
  refine List.ext_getElem? fun i => ?_
  by_cases hi : i < xs.length
  · rw [List.getElem?_eq_getElem hi, List.getElem?_eq_getElem (by omega : i < ys.length)]
    exact congrArg some (h i _ _ (List.getElem?_eq_getElem hi) (List.getElem?_eq_getElem (by omega)))
  · rw [List.getElem?_eq_none (by omega), List.getElem?_eq_none (by omega)]
theorem allRange {n : Nat} {e : Nat → Bool} : (List.range n).all e = true ↔ ∀ i, i < n → e i = true := by simp [List.all_eq_true]
open PySem.SeqAt Classical in
end
end L2
namespace L2
open PySem PySem.Spec PyProof.Rows
noncomputable def Fn (K : PySem.W.Frag) (mg : Str → Option Value) (x : Str) (st : Stmt) : Prop := ∃ f fd, Fun K x x st f fd ∧ mg x = some (.ref f)
theorem fn_mk {K : PySem.W.Frag} {h : Heap} {mg : Str → Option Value} {x : Str} {st : Stmt} {f : Addr} {oc : Value} {od an : Option Addr} {osl : Array (Option Value)} {kV doc pm cdv ct : Value} (X : K.In h) (G : h.Ns mainGlobals mg)
    (a : PySem.W.nsIn K mainGlobals x = some (some (.ref f))) (l : K.lookup f = some ⟨oc, od, .func (PySem.W.fnOf x x (defArgs st) (defBody st) (defScope st) .none kV doc pm an cdv ct), osl⟩) (c : PySem.W.codeIn K cdv x = true) (k : PySem.W.keepIn K (.ref f) = true) : Fn K mg x st :=
  ⟨f, _, fun_mk l c k, PySem.W.mg_of X G a⟩
structure Cal (P : Program) (w : World) (K : PySem.W.Frag) (mg : Str → Option Value) (base : Heap) (k : Nat) (x : Str) (ps : List Str) (sp : Sp) : Prop where
  ex : ∃ f fd, FnOk P w K mg base CX0 k f fd ps sp ∧ mg x = some (.ref f) ∧ PySem.W.keepIn K (.ref f) = true ∧ Binds K fd ps []
theorem cal_of {P : Program} {w : World} {K : PySem.W.Frag} {mg : Str → Option Value} {base : Heap} {k : Nat} {x : Str} {st : Stmt} {N ps : List Str} {sp : Sp} (F : Fn K mg x st) (S : FnScope N ps (defScope st))
    (hb : ∀ (kV doc pm : Value) (an : Option Addr) (cdv ct : Value) (us : List Value), us.length = ps.length → bindArgs (PySem.W.fnOf x x (defArgs st) (defBody st) (defScope st) .none kV doc pm an cdv ct) ⟨us, []⟩ = pure (ps.zip us)) (len : ∀ vs H Q E, sp vs H Q E → vs.length = ps.length)
    (hbody : ∀ (f : Addr) (cdv : Value) (A : Around) (outer : List Env) (s : Shared) (H : Hp) (vs : List V) (Q : VK) (E : XK), Room k (A.deeper (envOfC x (defScope st) s.heap.objs.size f cdv)) → sp vs H Q E →
      ∃ t, PSs (cxOf CX0 P w K mg base N x (defScope st) f cdv A outer s H E).nox (defBody st) t ∧ t { nx := fun _ H' => Q .non H', rt := Q } (start N vs) H) : Cal P w K mg base (k + 1) x ps sp := by
  obtain ⟨f, fd, F, m⟩ := F
  exact ⟨f, fd, F.ok S len (hbody f), m, F.kp, F.binds hb⟩
section
variable {X : Cx}
theorem pe_fn {k : Nat} {x : Str} {ps : List Str} {sp : Sp} {e : Expr} {es : List Expr} {t : TA} {p pos : Pos} (C : Cal X.prog X.w X.K X.mg X.base k x ps sp) (hr : Room k X.A) (ha : PA X (e :: es) t) (hg : autoParam (Gl X x) L2.aRfl._auto_1)
    (hdb : autoParam ((x == ("__debug__" : Str)) = false) L2.aDec._auto_1) (he : autoParam (starEach (e :: es) X.env = (false, eval e X.env) :: starEach es X.env) L2.aRfl._auto_1) (hpl : autoParam ((backTo pos (starEach es X.env)).any (·.1) = false) L2.aRfl._auto_1) :
    PE X (.Call (.Name x p) (e :: es) [] pos) (tCall sp [] E0 t) := by
  obtain ⟨f, fd, F, m, kp, b⟩ := C.ex
  exact pe_call F hr hg m kp b .nil pass0 ha hdb he hpl
theorem pe_ty {x : Str} {T : String} {pos : Pos} (hm : X.mg x = none) (hv : bootBuiltins x = some (.type T)) (hg : autoParam (Gl X x) L2.aRfl._auto_1) (hn : autoParam (x ≠ "__name__") L2.aDec._auto_1) (hd : autoParam ((x == ("__debug__" : Str)) = false) L2.aDec._auto_1) : PE X (.Name x pos) (tC (.ty T)) :=
  pe_bltn hg hm hv (v := .ty T) rfl hn hd
end
noncomputable def gPair (K : PySem.W.Frag) (i j : Nat) : TG := gTup K 2 (gCons (gName i) (gCons (gName j) gNil))
theorem pg_pair {X : Cx} {K : PySem.W.Frag} {i j : Nat} {x y : Str} {px py pos : Pos} {k : Nat} (hK : X.K = K) (hc : X.calm = true) (hN : X.N.Nodup) (hi : X.N[i]? = some x) (hj : X.N[j]? = some y) (hx : X.env.scope.names.lookup x = some .local) (hy : X.env.scope.names.lookup y = some .local) :
    PG X (.Tuple [.Name x px, .Name y py] k pos) (gPair K i j) := by
  subst hK
  exact pg_tup hc (pgs_cons (pg_name hN hi (.inl hx) (.inr hx)) (pgs_cons (pg_name hN hj (.inl hy) (.inr hy)) pgs_nil))
theorem bt_len : bootBuiltins "len" = some (.builtin "len") := by decide +kernel
theorem bt_sum : bootBuiltins "sum" = some (.builtin "sum") := by decide +kernel
theorem bt_isinstance : bootBuiltins "isinstance" = some (.builtin "isinstance") := by decide +kernel
theorem bt_min : bootBuiltins "min" = some (.builtin "min") := by decide +kernel
theorem bt_max : bootBuiltins "max" = some (.builtin "max") := by decide +kernel
theorem bt_int : bootBuiltins "int" = some (.type "int") := by decide +kernel
theorem bt_bool : bootBuiltins "bool" = some (.type "bool") := by decide +kernel
theorem bt_tuple : bootBuiltins "tuple" = some (.type "tuple") := by decide +kernel
theorem bt_list : bootBuiltins "list" = some (.type "list") := by decide +kernel
theorem bt_dict : bootBuiltins "dict" = some (.type "dict") := by decide +kernel
theorem bt_enumerate : bootBuiltins "enumerate" = some (.type "enumerate") := by decide +kernel
theorem bt_reversed : bootBuiltins "reversed" = some (.type "reversed") := by decide +kernel
theorem same_new' {H : Hp} {p : Addr} (h : H p = none) (o : HO) : Same H (upd H p o) := fun b u q => by rw [upd_ne (ne_of_none q h)]; exact q
theorem Same.tup {K : PySem.W.Frag} {H H' : Hp} {a : Addr} {xs : List V} (e : Same H H') (h : SqT K H a xs) : SqT K H' a xs := by
  rcases h with (h | ⟨o, h⟩) | h
  · exact .inl (.inl (e _ _ h))
  · exact .inl (.inr ⟨o, e _ _ h⟩)
  · exact .inr h
theorem sqT_new {K : PySem.W.Frag} {H : Hp} {a : Addr} {xs : List V} (h : H a = some (.tup xs)) : SqT K H a xs := .inl (.inl h)
theorem sqL_new {K : PySem.W.Frag} {H : Hp} {a : Addr} {xs : List V} (h : H a = some (.lst xs)) : SqL K H a xs := .inl (.inl h)
theorem lc_any {J : It} {n : Nat} {τ0 : St} {g : TG} {tt : TT} {te : TE} {H : Hp} {Q : Addr → Hp → Prop} {D : Addr} (Pv : Nat → St → List V → Hp → Prop)
    (h0 : Pv 0 τ0 [] (upd H D (.lst []))) (hD : ∀ i τ ys H, i ≤ n → Pv i τ ys H → H D = some (.lst ys) ∧ ys.length < sizeLine) (go : ∀ i τ ys H, i < n → Pv i τ ys H → J.go i H) (stop : ∀ τ ys H, Pv n τ ys H → J.stop n H)
    (hs : ∀ i τ ys H x H', i < n → Pv i τ ys H → J.yld i H x H' → g x τ H' fun σ2 H2 => tt σ2 H2 fun ok H3 => if ok = true then te σ2 H3 fun v H4 => H4 D = some (.lst ys) ∧ Pv (i + 1) σ2 (ys ++ [v]) (upd H4 D (.lst (ys ++ [v]))) else Pv (i + 1) σ2 ys H3)
    (hd : ∀ τ ys H, Pv n τ ys H → Q D H) :
    LcW J D τ0 H g tt te Q := by
  refine ⟨fun i m τ ys H => m = n - i ∧ i ≤ n ∧ Pv i τ ys H, ⟨n, by simp, Nat.zero_le _, h0⟩, ?_⟩
  rintro i m τ ys H ⟨rfl, hi, p⟩
  obtain ⟨z1, z2⟩ := hD i τ ys H hi p
  refine ⟨z1, ?_⟩
  by_cases hlt : i < n
  · refine .inr ⟨go i τ ys H hlt p, z2, fun τ v H => Pv (i + 1) τ (ys ++ [v]) (upd H D (.lst (ys ++ [v]))), fun τ H => Pv (i + 1) τ ys H, fun τ v H q => ⟨n - (i + 1), by omega, rfl, hlt, q⟩, fun τ H q => ⟨n - (i + 1), by omega, rfl, hlt, q⟩, fun x H' y => hs i τ ys H x H' hlt p y⟩
  · have e : i = n := by omega
    subst e
    exact .inl ⟨stop τ ys H p, hd τ ys H p⟩
end L2
namespace L2
open PySem PySem.Spec PyProof.Rows
section
variable {X : Cx}
theorem pe_range {e : Expr} {ta : TA} {p pos : Pos} (hm : X.mg "range" = none) (ha : PA X [e] ta) (hg : autoParam (Gl X "range") L2.aRfl._auto_1) (hs : autoParam (starEach [e] X.env = [(false, eval e X.env)]) L2.aRfl._auto_1) :
    PE X (.Call (.Name "range" p) [e] [] pos) (fun σ H Q => ta σ H fun vs H1 => ∃ n : Int, vs = [.int n] ∧ ∀ r, H1 r = none → Q (.ref r) (upd H1 r (.rng 0 n))) := by
  intro pins s σ H Q I h
  refine Call_ (ld_blt I hg hm boot_range (PyProof.Rows.callWith_type1 (thn (ha pos pins s σ H _ I h) fun us s1 ⟨vs, H1, I1, r1, q1⟩ => ?_) hs rfl))
  obtain ⟨n, e, q⟩ := q1
  subst e
  obtain ⟨u, rfl, t, rfl⟩ := r1.one
  refine call_range_1 ⟨.ref s1.heap.objs.size, upd H1 s1.heap.objs.size (.rng 0 n), I1.laid (fun b u e => Heap.get?_push_of_some _ e) (Nat.le_refl _) ⟨_, _, _, Heap.get?_push_size _ rfl⟩, rfl, q _ (I1.hok.fresh (Nat.le_refl _))⟩
theorem ix_listK {K : PySem.W.Frag} (hK : X.K = K) : IxR X (rIxL K) := by subst hK; exact ix_list
theorem call_len_seqK {K : PySem.W.Frag} (hK : X.K = K) : CallR X (.builtin "len") (fun xs H Q => ∃ p ys, xs = [.ref p] ∧ (SqL K H p ys ∨ SqT K H p ys) ∧ Q (.int ys.length) H) := by subst hK; exact call_len_seq
theorem call_list_ofK {K : PySem.W.Frag} (hK : X.K = K) : CallR X (.type "list") (fun xs H Q => ∃ p ys, xs = [.ref p] ∧ (SqL K H p ys ∨ SqT K H p ys) ∧ ∀ l, H l = none → Q (.ref l) (upd H l (.lst ys))) := by subst hK; exact call_list_of
theorem call_tuple_ofK {K : PySem.W.Frag} (hK : X.K = K) : CallR X (.type "tuple") (fun xs H Q => ∃ p ys, xs = [.ref p] ∧ ((SqL K H p ys ∧ ∀ l, H l = none → Q (.ref l) (upd H l (.tup ys))) ∨ (SqT K H p ys ∧ Q (.ref p) H))) := by subst hK; exact call_tuple_of
theorem op_in_seqK {K : PySem.W.Frag} (hK : X.K = K) : OpR X (compareOp .In) (rIn K false) := by subst hK; exact op_in_seq
end
end L2
namespace Nb
open PySem L2
structure Mg (mg : Str → Option Value) : Prop where
  len : mg "len" = none
  min : mg "min" = none
  max : mg "max" = none
  sum : mg "sum" = none
  all : mg "all" = none
  any : mg "any" = none
  abs : mg "abs" = none
  isinstance : mg "isinstance" = none
  sorted : mg "sorted" = none
  range_ : mg "range" = none
  zip_ : mg "zip" = none
  tuple_ : mg "tuple" = none
  list_ : mg "list" = none
  int_ : mg "int" = none
  bool_ : mg "bool" = none
  dict_ : mg "dict" = none
  enumerate_ : mg "enumerate" = none
  reversed_ : mg "reversed" = none
  ValueError_ : mg "ValueError" = none
  set_ : mg "set" = none
  str_ : mg "str" = none
theorem atNs {ns : List Int} {k : Int} (h0 : 0 ≤ k) (h : k < (((ns.map V.int).length : Nat) : Int)) : ∃ v : Int, atI (ns.map V.int) k = some (.int v) := by
  have hk : k.toNat < ns.length := by rw [List.length_map] at h; omega
  have ek : k = ((k.toNat : Nat) : Int) := by omega
  have q : atI (ns.map V.int) ((k.toNat : Nat) : Int) = some (.int ns[k.toNat]) := atI_nat (by rw [List.getElem?_map, List.getElem?_eq_getElem hk] <;> rfl)
  rw [← ek] at q
  exact ⟨_, q⟩
noncomputable def spWhole : Sp := fun vs H Q _ => ∃ z : Int, vs = [.int z] ∧ Q (.bl true) H
noncomputable def spBlock (K : PySem.W.Frag) : Sp := fun vs H Q _ => ∃ (a : Addr) (ns : List Int) (k : Int), vs = [.ref a, .int k] ∧ SqL K H a (ns.map V.int) ∧ 0 ≤ k ∧ ∀ z : Int, Q (.int z) H
noncomputable def spMixed (K : PySem.W.Frag) : Sp := fun vs H Q _ => ∃ (a : Addr) (ns : List Int) (k : Int), vs = [.ref a, .int k] ∧ SqL K H a (ns.map V.int) ∧ 0 ≤ k ∧ k ≤ 1000000 ∧ ∀ z : Int, 0 ≤ z → z < 2147483629 → Q (.int z) H
theorem mulA (c k : Int) (h0 : 0 ≤ k) (h1 : k ≤ 1000000) (y : Int) : CMul (c % (10 : Int) ^ (18 : Int).toNat + 48271 * (k + 1)) y := by
  have e : (10 : Int) ^ (18 : Int).toNat = 1000000000000000000 := by decide +kernel
  rw [e]
  have a1 := Int.emod_nonneg c (show (1000000000000000000 : Int) ≠ 0 by decide)
  have a2 := Int.emod_lt_of_pos c (show (0 : Int) < 1000000000000000000 by decide)
  exact .inl ⟨by omega, by omega⟩
theorem mulB (x k : Int) (h0 : 0 ≤ k) (h1 : k ≤ 1000000) (y : Int) : CMul (x % 2147483629 + 69621 * k) y := .inl ⟨by omega, by omega⟩
theorem mulC (c y : Int) (h1 : -(2 ^ 64) < c) (h2 : c < 2 ^ 64) : CMul c y := .inl ⟨h1, h2⟩
theorem SqT_upd {K : PySem.W.Frag} {H : Hp} {D a : Addr} {ys zs xs : List V} (hD : H D = some (.lst ys)) (h : SqT K H a xs) : SqT K (upd H D (.lst zs)) a xs := by
  rcases h with (h | ⟨o, h⟩) | h
  · exact .inl (.inl (by rw [upd_ne (ne_of h hD (by intro z; cases z))]; exact h))
  · exact .inl (.inr ⟨o, by rw [upd_ne (ne_of h hD (by intro z; cases z))]; exact h⟩)
  · exact .inr h
theorem at0 {x y : V} : atI [x, y] 0 = some x := by rfl
theorem at1 {x y : V} : atI [x, y] 1 = some y := by rfl
theorem takeS {α : Type} {l : List α} {i : Nat} {x : α} (h : l[i]? = some x) : l.take (i + 1) = l.take i ++ [x] := by rw [List.take_succ, h]; rfl
theorem atNat {α : Type} {xs : List α} {k : Nat} {x : α} (h : xs[k]? = some x) : atI xs (k : Int) = some x := atI_nat h
noncomputable def spLaw (K : PySem.W.Frag) : Sp := fun vs H Q _ => ∃ (a : Addr) (ns : List Int), vs = [.ref a] ∧ SqL K H a (ns.map V.int) ∧ ns.length ≤ 63 ∧ ∀ H', Q (.bl true) H'
end Nb
namespace L2
open PySem PySem.Spec PyProof.Rows
end L2
namespace L2
open PySem PySem.Spec PyProof.Rows
section
variable (P : Program) (w : World)
end
section
variable {P : Program} {w : World} {H H' : Hp} {h h' : Heap} {a : Addr} {o : HO}
end
section
variable {P : Program} {w : World} {H : Hp} {h h' : Heap} {x e : Addr} {o' : HO}
end
section
variable {fs fs' ex ex' : List Addr} {H H1 H2 : Hp} {h h1 h2 h' : Heap} {a x e : Addr} {o : HO}
end
end L2
namespace L2
open PySem PySem.Spec PyProof.Rows
section
variable {X : Cx} {pins : List (Addr × Obj)} {σ : List (Option V)} {H H' : Hp} {s : Shared} {h' : Heap}
end
end L2
namespace L2
open PySem PySem.Spec PyProof.Rows
section
variable {X : Cx}
variable {a b : Expr} {ta tb : TE} {pos : Pos}
variable {tA tB' : TT} {rest : List Expr}
end
end L2
namespace L2
open PySem PySem.Spec PyProof.Rows
section
variable {X : Cx} {pins : List (Addr × Obj)} {σ : St} {H : Hp} {s : Shared} {a : Addr} {xs ys : List V}
end
section
variable {X : Cx} {pins : List (Addr × Obj)} {σ : St} {H : Hp} {s : Shared} {E : Value → Shared → Prop}
end
section
variable {X : Cx} {st : Stmt} {rest : List Stmt} {t u : TS} {e : Expr} {te : TE} {pos : Pos}
end
section
variable {X : Cx} {pos : Pos}
end
section
variable {X : Cx} {pos : Pos}
end
end L2
namespace L2
open PySem PySem.Spec PyProof.Rows
section
variable {X : Cx} {tg : Expr}
end
end L2
namespace L2
open PySem PySem.Spec PyProof.Rows
section
variable {X : Cx} {a b c : Expr} {ta tb tc : TE} {pos : Pos}
end
section
variable {X : Cx} {a b c : Expr} {ta tb tc : TE} {pos : Pos}
end
end L2
namespace L2
open PySem PySem.Spec PyProof.Rows
section
variable {prog : Program} {w : World} {A : Around} {E : Value → Shared → Prop} {s : Shared} {K : PySem.W.Frag} {x dx C f : Addr} {mA : Str → Option Value} {name : Str} {v : Value}
end
section
variable {P : Program} {w : World} {H H' : Hp} {h h' : Heap} {a C dx : Addr} {fs fs' : List (Str × V)}
end
section
variable {X : Cx} {pins : List (Addr × Obj)} {σ : St} {H : Hp} {s : Shared} {a C dx : Addr} {fs : List (Str × V)} {f : Str} {v : V} {A : Around} {E : Value → Shared → Prop}
end
section
variable {X : Cx} {o e value : Expr} {f : Str} {pos pos' tpos : Pos} {ta tv : TE}
end
section
variable {X : Cx} {pins : List (Addr × Obj)} {σ : St} {H : Hp} {s : Shared} {A : Around} {E : Value → Shared → Prop} {Q : Value → Shared → Prop} {c : Value} {b : Bool}
end
end L2
namespace L2
open PySem PySem.Spec PyProof.Rows
section
variable {X : Cx} {e : Expr} {es : List Expr} {te : TE} {t : TA} {pos : Pos}
end
section
variable {X : Cx} {pins : List (Addr × Obj)} {σ : St} {H : Hp} {s s' : Shared}
end
section
variable {X : Cx} {CX : CXT} {k : Nat} {f C : Addr} {fd : FuncData} {ps : List Str} {sp : Sp} {dvs : List V} {ds : List Value} {E : XK} {x m : Str} {p pos apos : Pos} {e o : Expr} {es : List Expr} {ta : TE} {t : TA}
end
section
variable {X : Cx} {CX : CXT} {k : Nat} {f C : Addr} {fd : FuncData} {ps ks : List Str} {sp : Sp} {E : XK} {x m : Str} {p pos apos kpos : Pos} {e o : Expr} {es : List Expr} {kws : List Keyword} {te ta : TE} {t tk : TA} {nm : Option Str}
variable {g : List Value → List Value → List Value} {gV : List V → List V → List V}
end
end L2
namespace L2
open PySem PySem.Spec PyProof.Rows
section
variable {X : Cx} {x : Str} {p pos : Pos} {e : Expr} {es : List Expr} {t : TA} {id T : String} {r : List V → Hp → VK → Prop}
end
end L2
namespace L2
open PySem PySem.Spec PyProof.Rows
section
variable {κ : Type} [DecidableEq κ]
noncomputable def valV (kvs : List (κ × V)) (k : κ) : Option V := (kvs.find? fun kv => decide (kv.1 = k)).map (·.2)
noncomputable def putK (kvs : List (κ × V)) (k : κ) (v : V) : List (κ × V) :=
  if (kvs.any fun kv => decide (kv.1 = k)) = true then kvs.map (fun kv => if kv.1 = k then (kv.1, v) else kv) else kvs ++ [(k, v)]
theorem valV_pos {p : κ × V} {r : List (κ × V)} {k : κ} (e : p.1 = k) : valV (p :: r) k = some p.2 := by simp [valV, List.find?_cons, e]
theorem valV_neg {p : κ × V} {r : List (κ × V)} {k : κ} (e : ¬ p.1 = k) : valV (p :: r) k = valV r k := by simp [valV, List.find?_cons, e]
theorem valV_any (k : κ) : ∀ kvs : List (κ × V), (kvs.any fun kv => decide (kv.1 = k)) = (valV kvs k).isSome
  | [] => rfl
  | p :: r => by
    rw [List.any_cons]
    by_cases e : p.1 = k
    · simp only [valV_pos e, decide_eq_true e, Bool.true_or, Option.isSome_some]
    · rw [valV_neg e, decide_eq_false e, Bool.false_or]; exact valV_any k r
theorem valV_map (k j : κ) (y : V) : ∀ kvs : List (κ × V), valV (kvs.map fun kv => if kv.1 = k then (kv.1, y) else kv) j = (valV kvs j).map fun x => if j = k then y else x
  | [] => rfl
  | p :: r => by
    have ih := valV_map k j y r
    rw [List.map_cons]
    by_cases h : p.1 = k
    · rw [if_pos h]
      by_cases e : p.1 = j
      · rw [valV_pos (p := (p.1, y)) e, valV_pos e, Option.map_some, if_pos (e.symm.trans h)]
      · rw [valV_neg (p := (p.1, y)) e, valV_neg e, ih]
    · rw [if_neg h]
      by_cases e : p.1 = j
      · rw [valV_pos (p := p) e, valV_pos e, Option.map_some, if_neg (fun z => h (e.trans z))]
      · rw [valV_neg (p := p) e, valV_neg e, ih]
theorem valV_snoc (k j : κ) (y : V) : ∀ kvs : List (κ × V), valV kvs k = none → valV (kvs ++ [(k, y)]) j = if j = k then some y else valV kvs j
  | [], _ => by
    by_cases e : k = j
    · rw [if_pos e.symm]; exact valV_pos (p := (k, y)) e
    · rw [if_neg (fun z => e z.symm)]; exact valV_neg (p := (k, y)) e
  | p :: r, hn => by
    rw [List.cons_append]
    have hk : ¬ p.1 = k := fun z => by rw [valV_pos z] at hn; cases hn
    rw [valV_neg hk] at hn
    have ih := valV_snoc k j y r hn
    by_cases e : p.1 = j
    · rw [valV_pos e, valV_pos e, if_neg (fun z => hk (e.trans z))]
    · rw [valV_neg e, valV_neg e, ih]
theorem valV_put (kvs : List (κ × V)) (k j : κ) (y : V) : valV (putK kvs k y) j = if j = k then some y else valV kvs j := by
  unfold putK
  by_cases a : (kvs.any fun kv => decide (kv.1 = k)) = true
  · rw [if_pos a, valV_map]
    rw [valV_any] at a
    by_cases e : j = k
    · obtain ⟨x, hx⟩ := Option.isSome_iff_exists.mp a
      rw [if_pos e, e, hx, Option.map_some, if_pos rfl]
    · rw [if_neg e]
      cases valV kvs j with
      | none => rfl
      | some x => rw [Option.map_some, if_neg e]
  · rw [if_neg a]
    refine valV_snoc k j y kvs ?_
    rw [valV_any] at a
    cases q : valV kvs k with
    | none => rfl
    | some x => rw [q] at a; exact (a rfl).elim
theorem length_putK (kvs : List (κ × V)) (k : κ) (v : V) : (putK kvs k v).length ≤ kvs.length + 1 := by
  unfold putK
  split
  · rw [List.length_map]; omega
  · rw [List.length_append, List.length_cons, List.length_nil]; omega
theorem putK_new {kvs : List (κ × V)} {k : κ} (v : V) (h : valV kvs k = none) : putK kvs k v = kvs ++ [(k, v)] := by
  unfold putK
  rw [valV_any, h]
  exact if_neg (by decide)
theorem RelO.isSome_eq {o : Option V} {u : Option Value} (r : RelO o u) : o.isSome = u.isSome := by
  cases o with
  | none => cases u with
    | none => rfl
    | some _ => exact (show False from r).elim
  | some _ => cases u with
    | none => exact (show False from r).elim
    | some _ => rfl
theorem RelO.getD {o : Option V} {u : Option Value} {d : V} {d' : Value} (r : RelO o u) (rd : RelV d d') : RelV (o.getD d) (u.getD d') := by
  cases o with
  | none => cases u with
    | none => exact rd
    | some _ => exact (show False from r).elim
  | some _ => cases u with
    | none => exact (show False from r).elim
    | some _ => exact r
theorem KV.val {kvs : List (κ × V)} {vs : List (κ × Value)} (r : KV kvs vs) (k : κ) : RelO (valV kvs k) (valueAt vs k) := by
  unfold KV at r
  induction r with
  | nil => exact True.intro
  | @cons p q ps qs h t ih =>
    obtain ⟨h1, h2⟩ := h
    by_cases e : p.1 = k
    · have e' : q.1 = k := h1.symm.trans e
      have b : valueAt (q :: qs) k = some q.2 := by simp [valueAt, List.find?_cons, e']
      rw [valV_pos e, b]; exact h2
    · have e' : ¬ q.1 = k := fun z => e (h1.trans z)
      have b : valueAt (q :: qs) k = valueAt qs k := by simp [valueAt, List.find?_cons, e']
      rw [valV_neg e, b]; exact ih
theorem KV.any {kvs : List (κ × V)} {vs : List (κ × Value)} (r : KV kvs vs) (k : κ) : (kvs.any fun kv => decide (kv.1 = k)) = vs.any fun kv => decide (kv.1 = k) := by
  unfold KV at r
  induction r with
  | nil => rfl
  | cons h t ih => rw [List.any_cons, List.any_cons, ih, h.1]
theorem KV.repl {kvs : List (κ × V)} {vs : List (κ × Value)} (r : KV kvs vs) (k : κ) {y : V} {u : Value} (ry : RelV y u) :
    KV (kvs.map fun kv => if kv.1 = k then (kv.1, y) else kv) (vs.map fun kv => if kv.1 = k then (kv.1, u) else kv) := by
  unfold KV at r ⊢
  induction r with
  | nil => exact .nil
  | @cons p q ps qs h t ih =>
    rw [List.map_cons, List.map_cons]
    refine .cons ?_ ih
    obtain ⟨h1, h2⟩ := h
    by_cases e : p.1 = k
    · rw [if_pos e, if_pos (h1.symm.trans e)]; exact ⟨h1, ry⟩
    · rw [if_neg e, if_neg (fun z => e (h1.trans z))]; exact ⟨h1, h2⟩
theorem KV.put {kvs : List (κ × V)} {vs : List (κ × Value)} (r : KV kvs vs) (k : κ) {y : V} {u : Value} (ry : RelV y u) : KV (putK kvs k y) (stored vs k u) := by
  unfold putK stored
  rw [r.any k]
  by_cases e : (vs.any fun kv => decide (kv.1 = k)) = true
  · rw [if_pos e, if_pos e]; exact r.repl k ry
  · rw [if_neg e, if_neg e]; exact Paired.snoc r ⟨rfl, ry⟩
theorem KV.length {kvs : List (κ × V)} {vs : List (κ × Value)} (r : KV kvs vs) : kvs.length = vs.length := Paired.length r
end
theorem kV_is {P : Program} {w : World} {k : Key} {u : Value} (r : RelV (kV k) u) : (mixKind P w).is k u = true := by
  cases k with
  | inl i => obtain ⟨t, e⟩ := (show ∃ t, u = Value.int i t from r); subst e; exact mixKind_int P w i t
  | inr x => obtain ⟨t, e⟩ := (show ∃ t, u = Value.str x t from r); subst e; exact mixKind_str P w x t
theorem items_are {P : Program} {w : World} : ∀ {ks : List Key} {us : List Value}, Vals (ks.map kV) us → ItemsAre (mixKind P w) ks us
  | [], _, r => by rw [List.map_nil] at r; cases r; exact .nil
  | k :: ks, _, r => by
    rw [List.map_cons] at r
    cases r with
    | cons h t => exact .cons (kV_is h) (items_are t)
noncomputable abbrev KT (H : Hp) : List (List Key × V) → List (List Key × Addr × Value) → Prop := Paired fun p q => p.1 = q.1 ∧ H q.2.1 = some (.tup (p.1.map kV)) ∧ RelV p.2 q.2.2
theorem KT.val {H : Hp} {kvs : List (List Key × V)} {xs : List (List Key × Addr × Value)} (r : KT H kvs xs) (k : List Key) : RelO (valV kvs k) ((atKey xs k).map (·.2)) := by
  induction r with
  | nil => exact True.intro
  | @cons p q ps qs h t ih =>
    obtain ⟨h1, _, h2⟩ := h
    by_cases e : p.1 = k
    · have e' : q.1 = k := h1.symm.trans e
      have b : atKey (q :: qs) k = some q.2 := by simp [atKey, List.find?_cons, e']
      rw [valV_pos e, b]; exact h2
    · have e' : ¬ q.1 = k := fun z => e (h1.trans z)
      have b : atKey (q :: qs) k = atKey qs k := by simp [atKey, List.find?_cons, e']
      rw [valV_neg e, b]; exact ih
theorem KT.repl {H : Hp} {kvs : List (List Key × V)} {xs : List (List Key × Addr × Value)} (r : KT H kvs xs) (k : List Key) {y : V} {u : Value} (ry : RelV y u) :
    KT H (kvs.map fun kv => if kv.1 = k then (kv.1, y) else kv) (xs.map (putAt k u)) := by
  induction r with
  | nil => exact .nil
  | @cons p q ps qs h t ih =>
    rw [List.map_cons, List.map_cons]
    refine .cons ?_ ih
    obtain ⟨h1, h2, h3⟩ := h
    unfold putAt
    by_cases e : p.1 = k
    · rw [if_pos e, if_pos (h1.symm.trans e)]; exact ⟨h1, h2, ry⟩
    · rw [if_neg e, if_neg (fun z => e (h1.trans z))]; exact ⟨h1, h2, h3⟩
theorem KT.put {H : Hp} {kvs : List (List Key × V)} {xs : List (List Key × Addr × Value)} (r : KT H kvs xs) (k : List Key) {b : Addr} {y : V} {u : Value} (hb : H b = some (.tup (k.map kV))) (ry : RelV y u) :
    KT H (putK kvs k y) (storedH xs k b u) := by
  have e : (kvs.any fun kv => decide (kv.1 = k)) = (atKey xs k).isSome := by
    rw [valV_any, (r.val k).isSome_eq, Option.isSome_map]
  unfold putK storedH
  rw [e]
  by_cases q : (atKey xs k).isSome = true
  · rw [if_pos q, if_pos q]; exact r.repl k ry
  · rw [if_neg q, if_neg q]; exact Paired.snoc r ⟨rfl, hb, ry⟩
theorem KT.keeps {H H' : Hp} {kvs : List (List Key × V)} {xs : List (List Key × Addr × Value)} (r : KT H kvs xs) (ht : ∀ b ys, H b = some (.tup ys) → H' b = some (.tup ys)) : KT H' kvs xs :=
  Paired.mapP r fun _ _ z => ⟨z.1, ht _ _ z.2.1, z.2.2⟩
section
variable {P : Program} {w : World} {H : Hp} {h : Heap} {a : Addr}
theorem rd_of {u : HO} (ok : HOk P w H h) (e : Rd H a u) : ObjOk P w H h a u := e.ok ok
theorem dk_rd {kvs : List (Key × V)} (ok : HOk P w H h) (e : Rd H a (.dK kvs)) : kvs.length ≤ sizeLine ∧ (a == sysModules) = false ∧ ∃ vs, KV kvs vs ∧ h.DictOf (mixKind P w) a vs :=
  show ObjOk P w H h a (.dK kvs) from rd_of ok e
theorem dk_of {kvs : List (Key × V)} (ok : HOk P w H h) (e : H a = some (.dK kvs)) : kvs.length ≤ sizeLine ∧ (a == sysModules) = false ∧ ∃ vs, KV kvs vs ∧ h.DictOf (mixKind P w) a vs := dk_rd ok (.inl e)
theorem key_of {ks : List Key} (ok : HOk P w H h) (e : H a = some (.tup (ks.map kV))) : (tupleKind (mixKind P w)).is h ks a := by
  obtain ⟨_, its, r, o, h1, h2, n, h3⟩ := (show ObjOk P w H h a (.tup (ks.map kV)) from ok a _ e)
  exact ⟨o, its.toArray, n, h1, h2, h3, by simpa using items_are r⟩
theorem dt_rd {kvs : List (List Key × V)} (ok : HOk P w H h) (e : Rd H a (.dT kvs)) : kvs.length ≤ sizeLine ∧ (a == sysModules) = false ∧
    ∃ xs, KT H kvs xs ∧ h.DictOfH (tupleKind (mixKind P w)) a xs := by
  obtain ⟨z, y, xs, r, o, es, ep, h1, h2, h3, h4, h5⟩ := (show ObjOk P w H h a (.dT kvs) from rd_of ok e)
  refine ⟨z, y, xs, r, o, es, ep, h1, h2, h3, h4, fun x hx => ?_, h5⟩
  have all : ∀ {l : List (List Key × V)} {m : List (List Key × Addr × Value)}, KT H l m → ∀ x ∈ m, (tupleKind (mixKind P w)).is h x.1 x.2.1 := by
    intro l m q
    induction q with
    | nil => intro x hx; exact nomatch hx
    | @cons p q ps qs hq t ih =>
      intro x hx
      rcases List.mem_cons.mp hx with e | hx
      · subst e
        exact key_of ok (by rw [← hq.1]; exact hq.2.1)
      · exact ih x hx
  exact all r x hx
theorem dt_of {kvs : List (List Key × V)} (ok : HOk P w H h) (e : H a = some (.dT kvs)) : kvs.length ≤ sizeLine ∧ (a == sysModules) = false ∧
    ∃ xs, KT H kvs xs ∧ h.DictOfH (tupleKind (mixKind P w)) a xs := dt_rd ok (.inl e)
end
noncomputable def DGet (H : Hp) (a : Addr) (y : V) (r : Option V) : Prop :=
  (∃ kvs k, Rd H a (.dK kvs) ∧ y = kV k ∧ r = valV kvs k) ∨ ∃ kvs k b, Rd H a (.dT kvs) ∧ y = .ref b ∧ H b = some (.tup (k.map kV)) ∧ r = valV kvs k
noncomputable def DPut (H : Hp) (a : Addr) (y v : V) (H' : Hp) : Prop :=
  (∃ kvs k, H a = some (.dK kvs) ∧ y = kV k ∧ kvs.length < sizeLine ∧ H' = upd H a (.dK (putK kvs k v))) ∨
  ∃ kvs k b, H a = some (.dT kvs) ∧ y = .ref b ∧ H b = some (.tup (k.map kV)) ∧ kvs.length < sizeLine ∧ H' = upd H a (.dT (putK kvs k v))
theorem DGet.k {H : Hp} {a : Addr} {kvs : List (Key × V)} {k : Key} (e : H a = some (.dK kvs)) : DGet H a (kV k) (valV kvs k) := .inl ⟨kvs, k, .inl e, rfl, rfl⟩
theorem DGet.t {H : Hp} {a b : Addr} {kvs : List (List Key × V)} {k : List Key} (e : H a = some (.dT kvs)) (eb : H b = some (.tup (k.map kV))) : DGet H a (.ref b) (valV kvs k) := .inr ⟨kvs, k, b, .inl e, rfl, eb, rfl⟩
theorem DPut.k {H : Hp} {a : Addr} {kvs : List (Key × V)} {k : Key} {v : V} (e : H a = some (.dK kvs)) (hl : kvs.length < sizeLine) : DPut H a (kV k) v (upd H a (.dK (putK kvs k v))) := .inl ⟨kvs, k, e, rfl, hl, rfl⟩
section
variable {X : Cx} {pins : List (Addr × Obj)} {σ : St} {H : Hp} {s : Shared} {a : Addr} {y v : V} {u r : Value} {o : Option V} {A : Around} {E : Value → Shared → Prop}
theorem Inv.big (I : Inv X pins σ H s) : sysModules < s.heap.objs.size := by
  have h : mainGlobals < s.heap.objs.size := (I.mod.glob.keeps I.bk).lt
  exact Nat.lt_trans (by decide) h
theorem d_getItem {Q : Value → Shared → Prop} (hu : A.units + 1 < cLine) (I : Inv X pins σ H s) (g : DGet H a y (some v)) (ry : RelV y u) (h : ∀ w' s', Inv X pins σ H s' → RelV v w' → Q w' s') :
    wpAny (model X.prog X.w) A (getItem (.ref a) u) Q E s := by
  rcases g with ⟨kvs, k, e, ey, l⟩ | ⟨kvs, k, b, e, ey, eb, l⟩
  · subst ey
    obtain ⟨z, hd, vs, rel, dd⟩ := dk_rd I.hok e
    obtain ⟨w', hw, rw'⟩ := RelO.some_of (v := v) (o := valueAt vs k) (by rw [l]; exact rel.val k)
    exact wpAny_getItem_of (kV_is ry) dd.mapOf hw (h w' _ (I.tok _) rw')
  · subst ey
    cases (show u = Value.ref b from ry)
    obtain ⟨z, hd, xs, rel, dd⟩ := dt_rd I.hok e
    obtain ⟨w', hw, rw'⟩ := RelO.some_of (v := v) (o := (atKey xs k).map (·.2)) (by rw [l]; exact rel.val k)
    obtain ⟨p, hp, hp2⟩ := Option.map_eq_some_iff.mp hw
    refine wpAny_getItem_heap (tupleKind_room_in1 hu) (key_of I.hok eb) dd hp ?_
    rw [hp2]
    exact h w' _ (I.tok _) rw'
theorem d_write {h' : Heap} {t' : Nat} {ob : HO} (I : Inv X pins σ H s) (mu : Mut (H a)) (hs : Heap.SameBut a s.heap h') (he : ∃ q, h'.get? a = some q) (new : ObjOk X.prog X.w (upd H a ob) h' a ob) :
    Inv X pins σ (upd H a ob) { s with heap := h', toks := t' } :=
  I.write (x := a) (e := a) mu (.inl rfl) (fun b q hb z => (hs.2 b hb).trans z) he new
theorem dk_new {P : Program} {w : World} {H' : Hp} {h' : Heap} {kvs : List (Key × V)} {vs : List (Key × Value)} (z : kvs.length ≤ sizeLine) (hd : (a == sysModules) = false) (rel : KV kvs vs) (dd : h'.DictOf (mixKind P w) a vs) :
    ObjOk P w H' h' a (.dK kvs) := ⟨z, hd, vs, rel, dd⟩
theorem d_setItem {H' : Hp} {Q : Unit → Shared → Prop} (hu : A.units + 1 < cLine) (I : Inv X pins σ H s) (g : DPut H a y v H') (ry : RelV y u) (rv : RelV v r) (h : ∀ s', Inv X pins σ H' s' → Q () s') :
    wpAny (model X.prog X.w) A (setItem (.ref a) u r) Q E s := by
  rcases g with ⟨kvs, k, e, ey, l, eH⟩ | ⟨kvs, k, b, e, ey, eb, l, eH⟩
  · subst ey eH
    obtain ⟨z, hd, vs, rel, dd⟩ := dk_of I.hok e
    have hz : vs.length ≤ sizeLine := by rw [← rel.length]; exact z
    have hl : (putK kvs k v).length ≤ sizeLine := by have := length_putK kvs k v; omega
    refine wpAny_setItem_pairs (hsz := hz) (kV_is ry) dd fun h' dd' hs => h _ ?_
    have he : ∃ q, h'.get? a = some q := let ⟨q, _, _, hq, _⟩ := dd'; ⟨q, hq⟩
    exact d_write I (by rw [e]; exact True.intro) hs he (dk_new hl hd (rel.put k rv) dd')
  · subst ey eH
    cases (show u = Value.ref b from ry)
    obtain ⟨z, hd, xs, rel, dd⟩ := dt_of I.hok e
    have hz : xs.length ≤ sizeLine := by rw [← Paired.length rel]; exact z
    have hl : (putK kvs k v).length ≤ sizeLine := by have := length_putK kvs k v; omega
    refine wpAny_setItem_heap (hsz := hz) (tupleKind_room_in1 hu) (key_of I.hok eb) dd fun h' dd' hs => h _ ?_
    obtain ⟨q, es, ep, hq, h2, h3, h4, _, h5⟩ := dd'
    refine d_write I (by rw [e]; exact True.intro) hs ⟨q, hq⟩ ⟨hl, hd, _, (rel.put k eb rv).keeps fun c ys ec => ?_, q, es, ep, hq, h2, h3, h4, h5⟩
    rw [upd_ne (ne_of ec e (fun z => nomatch z))]
    exact ec
end
section
variable {X : Cx} {pins : List (Addr × Obj)} {σ : St} {H : Hp} {s : Shared} {a : Addr} {kvs : List (Key × V)} {k : Key} {u : Value} {A : Around} {E : Value → Shared → Prop}
end
noncomputable def NoSl (i : Expr) : Prop := ∀ ov iv, subscripted i false ov iv = operate [ov, iv] (getItem ov iv)
theorem subD_of {prog : Program} {w : World} {A : Around} {E : Value → Shared → Prop} {s : Shared} {env : Env} {value slice : Expr} {pos : Pos} {T id : String} {Q : Value → Shared → Prop}
    (hl : typeLookup (.type T) "__getitem__" = pure (some (.builtin id))) (hs : NoSl slice)
    (h : wpAny (model prog w) A (eval value env) (fun o s₁ => wpAny (model prog w) A (eval slice env) (fun i s₂ => s₂.TypeIs o T ∧ wpAny (model prog w) A (getItem o i) Q E s₂) E s₁) E s) :
    wpAny (model prog w) A (eval (.Subscript value slice pos) env) Q E s := by
  refine Subscript_ (wpAny_mono h (fun o s₁ h₁ => wpAny_mono h₁ (fun i s₂ h₂ => ?_) fun _ _ x => x) fun _ _ x => x)
  obtain ⟨hT, h₂⟩ := h₂
  unfold subscriptTail
  refine wpAny_bind ?_
  rw [getitemInPython_of_ne hT.not_modules]
  refine wpAny_bind (wpAny_specialOf hT hl ?_)
  have fin : wpAny (model prog w) A (subscripted slice false o i) (fun r s₃ => wpAny (model prog w) A (letTemporaryGo value o r >>= fun _ => pure r) Q E s₃) E s₂ := by
    rw [hs o i]
    exact wpAny_operating (wpAny_mono h₂ (fun r s₃ h₃ => wpAny_bind (wpAny_letTemporaryGo (wpAny_pure h₃))) fun _ _ x => x)
  first
    | exact wpAny_pure (wpAny_bind fin)
    | exact wpAny_bind (wpAny_pure (wpAny_bind fin))
    | exact wpAny_bind fin
theorem dict_typeIs {X : Cx} {pins : List (Addr × Obj)} {σ : St} {H : Hp} {s : Shared} {a : Addr} {y : V} {o : Option V} (I : Inv X pins σ H s) (g : DGet H a y o) : s.TypeIs (.ref a) "dict" := by
  rcases g with ⟨kvs, k, e, _, _⟩ | ⟨kvs, k, b, e, _, _, _⟩
  · obtain ⟨_, _, vs, _, dd⟩ := dk_rd I.hok e
    exact dd.typeIs
  · obtain ⟨_, _, xs, _, dd⟩ := dt_rd I.hok e
    exact dd.typeIs
noncomputable def tDGet (td ty : TE) : TE := fun σ H Q => td σ H fun x H1 => ty σ H1 fun y H2 => ∃ a v, x = .ref a ∧ DGet H2 a y (some v) ∧ Q v H2
noncomputable def sDPut (td ty tv : TE) : TS := fun D σ H => tv σ H fun v H1 => td σ H1 fun x H2 => ty σ H2 fun y H3 => ∃ a H4, x = .ref a ∧ DPut H3 a y v H4 ∧ D.nx σ H4
section
variable {X : Cx} {o i e value : Expr} {pos pos' tpos : Pos} {td ty tv : TE}
theorem pe_dget (hu : X.A.units + 1 < cLine) (ho : PE X o td) (hi : PE X i ty) (hs : NoSl i) : PE X (.Subscript o i pos) (tDGet td ty) := by
  intro pins s σ H Q I h
  refine subD_of PySem.F.slot_dict_getitem.lookup hs (thn (ho pins s σ H _ I h) fun u s1 ⟨x, H1, I1, rx, q1⟩ => thn (hi pins s1 σ H1 _ I1 q1) fun iv s2 ⟨y, H2, I2, ry, a, v, ex, g, q2⟩ => ?_)
  subst ex
  obtain rfl : u = Value.ref a := rx
  exact ⟨dict_typeIs I2 g, d_getItem hu I2 g ry fun w' s3 I3 rw' => ⟨v, H2, I3, rw', q2⟩⟩
theorem ps_dput (hu : X.A.units + 1 < cLine) (ho : PE X o td) (hi : PE X i ty) (hv : PE X value tv) (hs : swapsWith value (some (.Subscript o i pos')) pos.line X.env = pure false) :
    PS X (.Assign [.Subscript o i pos'] value pos) (sDPut td ty tv) := by
  intro pins s σ H D I h
  refine wpAny_Assign_Subscript (thn (hv pins s σ H _ I h) fun r s1 ⟨v, H1, I1, rv, q1⟩ => thn (ho pins s1 σ H1 _ I1 q1) fun u s2 ⟨x, H2, I2, rx, q2⟩ => thn (hi pins s2 σ H2 _ I2 q2) fun iv s3 ⟨y, H3, I3, ry, a, H4, ex, g, q3⟩ => ?_) hs
  subst ex
  obtain rfl : u = Value.ref a := rx
  exact d_setItem hu I3 g ry rv fun s4 I4 => ⟨σ, H4, I4, q3⟩
end
theorem dk_empty {P : Program} {w : World} {H : Hp} (h : Heap) (hb : sysModules < h.objs.size) : ObjOk P w H (h.push { cls := .type "dict", data := .dict #[] }) h.objs.size (.dK []) :=
  ⟨Nat.zero_le _, beq_eq_false_iff_ne.mpr (Ne.symm (Nat.ne_of_lt hb)), [], .nil, Heap.DictOf.new h⟩
theorem dt_empty {P : Program} {w : World} {H : Hp} (h : Heap) (hb : sysModules < h.objs.size) : ObjOk P w H (h.push { cls := .type "dict", data := .dict #[] }) h.objs.size (.dT []) :=
  ⟨Nat.zero_le _, beq_eq_false_iff_ne.mpr (Ne.symm (Nat.ne_of_lt hb)), [], .nil, _, #[], 0, Heap.get?_push_size _ rfl, ⟨rfl, rfl, rfl⟩, rfl, rfl, List.nodup_nil⟩
noncomputable def tDNewK : TE := fun _ H Q => ∀ p, H p = none → Q (.ref p) (upd H p (.dK []))
section
variable {X : Cx} {pos : Pos}
theorem pe_dnewK : PE X (.Dict [] [] pos) tDNewK := fun pins s σ H Q I h =>
  wpAny_Dict_empty ⟨.ref s.heap.objs.size, _, I.laid (a := s.heap.objs.size) (o := .dK []) (t' := s.toks) (fun _ _ q => Heap.get?_push_of_some _ q) (Nat.le_refl _) (dk_empty s.heap I.big), rfl, h _ (I.hok.fresh (Nat.le_refl _))⟩
end
structure M2 (X : Cx) (o : Expr) (m : Str) (apos : Pos) (e f : Expr) (cpos : Pos) : Prop where
  base : attributeBase o m X.env (eval o X.env) = eval o X.env
  few : ((backTo cpos (starEach [e, f] X.env)).all (fun x => !x.1) && (backToKw cpos (keywordEach [] X.env)).all (fun x => x.1.isSome)
    && decide (([e, f] : List Expr).length + ([] : List Keyword).length + (if ([] : List Keyword).isEmpty then 0 else 1) < 30)) = true
  line : (apos.endLine == cpos.line) = true
  trees : backTo cpos (starEach [e, f] X.env) = [(false, eval e X.env), (false, eval f X.env)]
noncomputable def IsD (H : Hp) (a : Addr) : Prop := (∃ kvs, Rd H a (.dK kvs)) ∨ ∃ kvs, Rd H a (.dT kvs)
theorem isD_at {X : Cx} {pins : List (Addr × Obj)} {σ : St} {H : Hp} {s : Shared} {a : Addr} (I : Inv X pins σ H s) (d : IsD H a) :
    s.TypeIs (.ref a) "dict" ∧ (∀ b, Value.ref a = .ref b → ∃ ob, s.heap.get? b = some ob ∧ ob.dict = none) ∧ (a == sysModules) = false := by
  rcases d with ⟨kvs, e⟩ | ⟨kvs, e⟩
  · obtain ⟨_, hd, vs, _, dd⟩ := dk_rd I.hok e
    refine ⟨dd.typeIs, fun b q => ?_, hd⟩
    cases q
    obtain ⟨ob, _, _, h1, h2, _⟩ := dd
    exact ⟨ob, h1, h2.2.1⟩
  · obtain ⟨_, hd, xs, _, dd⟩ := dt_rd I.hok e
    refine ⟨dd.typeIs, fun b q => ?_, hd⟩
    cases q
    obtain ⟨ob, _, _, h1, h2, _⟩ := dd
    exact ⟨ob, h1, h2.2.1⟩
section
variable {X : Cx} {pins : List (Addr × Obj)} {σ : St} {H : Hp} {s : Shared} {a : Addr} {y d : V} {u r : Value} {o : Option V} {A : Around} {E : Value → Shared → Prop}
theorem d_get2 {Q : Value → Shared → Prop} (hu : A.units + 1 < cLine) (I : Inv X pins σ H s) (g : DGet H a y o) (ry : RelV y u) (rd : RelV d r) (h : ∀ w' s', Inv X pins σ H s' → RelV (o.getD d) w' → Q w' s') :
    wpAny (model X.prog X.w) A (call (.builtin "dict.get") [.ref a, u, r]) Q E s := by
  rcases g with ⟨kvs, k, e, ey, l⟩ | ⟨kvs, k, b, e, ey, eb, l⟩
  · subst ey
    obtain ⟨z, hd, vs, rel, dd⟩ := dk_rd I.hok e
    refine call_meetsIn PySem.F.slot_dict_get dd.typeIs PySem.F.entry_dict_get (PySem.F.args_dict_get_3 _ _ _) (meets_dict_get_default (mixKind X.prog X.w) a (kV_is ry) hd r) ⟨_, dd.mapOf, h _ _ (I.tok _) ?_⟩
    rw [l]
    exact (rel.val k).getD rd
  · subst ey
    cases (show u = Value.ref b from ry)
    obtain ⟨z, hd, xs, rel, dd⟩ := dt_rd I.hok e
    refine call_meetsIn PySem.F.slot_dict_get dd.typeIs PySem.F.entry_dict_get (PySem.F.args_dict_get_3 _ _ _) (meetsH_dict_get_default (tupleKind (mixKind X.prog X.w)) a b hd r) ⟨tupleKind_room_in1 hu, k, xs, key_of I.hok eb, dd, h _ _ (I.tok _) ?_⟩
    rw [l]
    exact (rel.val k).getD rd
end
noncomputable def tDGet2 (td ty tx : TE) : TE := fun σ H Q => td σ H fun x H1 => ∃ a, x = .ref a ∧ IsD H1 a ∧ ty σ H1 fun y H2 => tx σ H2 fun z H3 => ∃ o, DGet H3 a y o ∧ Q (o.getD z) H3
section
variable {X : Cx} {o e f : Expr} {apos cpos : Pos} {td ty tx : TE}
theorem pe_dget2 (hu : X.A.units + 1 < cLine) (ho : PE X o td) (he : PE X e ty) (hf : PE X f tx) (m : M2 X o "get" apos e f cpos) : PE X (.Call (.Attribute o "get" apos) [e, f] [] cpos) (tDGet2 td ty tx) := by
  intro pins s σ H Q I h
  refine wpAny_Call_method m.base m.few m.line PySem.F.plainAttrs_dict PySem.F.slot_dict_get PySem.F.type_dict_get (thn (ho pins s σ H _ I h) fun u s1 ⟨x, H1, I1, rx, a, ex, d, q1⟩ => ?_)
  subst ex
  obtain rfl : u = Value.ref a := rx
  obtain ⟨t1, t2, _⟩ := isD_at I1 d
  refine ⟨t1, t2, ?_⟩
  rw [m.trees]
  refine Calls.callWith_builtin rfl (Calls.evalArgs_plain (Calls.spliced_cons (thn (he pins s1 σ H1 _ I1 q1) fun iv s2 ⟨y, H2, I2, ry, q2⟩ =>
    Calls.spliced_cons (thn (hf pins s2 σ H2 _ I2 q2) fun fv s3 ⟨z, H3, I3, rz, ov, g, q3⟩ => Calls.spliced_nil ?_))))
  exact d_get2 hu I3 g ry rz fun w' s4 I4 rw' => ⟨_, H3, I4, rw', q3⟩
end
section
variable {X : Cx} {pins : List (Addr × Obj)} {σ : St} {H : Hp} {s : Shared} {a : Addr} {kvs : List (Key × V)} {A : Around} {E : Value → Shared → Prop}
end
section
variable {X : Cx} {pins : List (Addr × Obj)} {σ : St} {H : Hp} {s : Shared} {a : Addr} {y : V} {u : Value} {A : Around} {E : Value → Shared → Prop}
end
end L2
namespace Att
open PySem PySem.W PySem.Calls PyProof.Rows
section
variable {prog : Program} {w : World} {A : Around} {E : Value → Shared → Prop} {s : Shared} {K : Frag}
end
end Att
namespace L2
open PySem PySem.Spec PyProof.Rows
end L2
namespace L2
open PySem PySem.Spec PyProof.Rows
end L2
namespace L2
open PySem PySem.Spec PyProof.Rows
section
variable {P : Program} {w : World} {K : PySem.W.Frag} {mg : Str → Option Value} {base : Heap}
end
section
variable {X : Cx}
end
section
variable {κ : Type} [DecidableEq κ]
theorem valV_in {kvs : List (κ × V)} {k : κ} {v : V} (h : valV kvs k = some v) : k ∈ kvs.map (·.1) := by
  have q : (kvs.any fun kv => decide (kv.1 = k)) = true := by
    rw [valV_any, h]
    all_goals rfl
  obtain ⟨p, hp, e⟩ := List.any_eq_true.mp q
  exact List.mem_map.mpr ⟨p, hp, of_decide_eq_true e⟩
end
end L2
namespace L2
open PySem PySem.Spec PyProof.Rows
theorem lk_list_keys : typeLookup (.type "list") "keys" = pure none := by rw [typeLookup_type, builtinLookup_eq_fast]; kernel_rfl
section
variable {prog : Program} {w : World} {A : Around} {E : Value → Shared → Prop}
theorem getAttrQ_keys {s : Shared} {a : Addr} {xs : Array Value} {k : Nat} {sl : Array (Option Value)} {Q : Option Value → Shared → Prop} (hx : s.heap.get? a = some { cls := .type "list", dict := none, data := .seq xs k, slots := sl }) (hA : A.handled = none)
    (h : ∀ h' tk, (∀ b o, s.heap.get? b = some o → h'.get? b = some o) → Q none { s with heap := h', toks := tk }) : wpAny (model prog w) A (getAttr? (.ref a) "keys") Q E s := by
  obtain ⟨hp, g, d, tk, os⟩ := s
  have hT : ∀ tk', (⟨hp, g, d, tk', os⟩ : Shared).TypeIs (.ref a) "list" := fun _ => ⟨_, hx, rfl⟩
  have f1 := sub_AttributeError
  have f3 := F.slot_list_getattribute.lookup
  have f4 := F.slot_list_getattribute.bind (.ref a)
  have f5 := am_list_getattr_none
  have hname : (["__module__", "__name__", "__qualname__", "__doc__", "__annotations__"] : List Str).contains "keys" = false := by decide +kernel
  unfold getAttr? getAttrBy? getAttrBy
  repeat (any_goals (first | assumption | exact hT _ | ((with_reducible show wpAny _ _ (call (Value.builtin "list.__getattribute__") _ _) _ _ _); refine call_meets F.slot_list_getattribute (hT _) am_entry_list_getattribute (F.args_list_getattribute_2 _ _) (meets_getattribute_miss_list a xs k sl "keys" _ lk_list_keys hname (by decide +kernel)) ⟨hx, hA, fun h' tk' e hx' => ?_⟩) | wp_step))
  have hxo := hx'.of
  obtain ⟨⟨cl, dc, da, sl2⟩, vs, he, hc, _, _⟩ := hxo.there
  simp only at hc
  subst hc
  have hE : ∀ tk2, (⟨h', g, d, tk2, os⟩ : Shared).TypeIs (.ref e) "AttributeError" := fun _ => ⟨_, he, rfl⟩
  show wpAny _ _ (getattributeRaised _ _ _ _ _ _ _) _ _ _
  unfold getattributeRaised
  repeat (any_goals (first | assumption | exact hE _ | wp_step))
  all_goals exact h _ _ hxo.keeps
end
noncomputable def entry_dul : entryFor table "dict.update.loop" = some Builtin.«dict.update.loop» := entryFor_of_tree (by kernel_rfl)
theorem plain_dul : plainId "dict.update.loop" = true := by decide +kernel
section
variable {X : Cx}
end
end L2
namespace L2
open PySem PySem.Spec PyProof.Rows
section
variable {P : Program} {w : World} {A : Around} {E : Value → Shared → Prop} {s : Shared} {e it l : Addr} {st : Nat → Heap → Prop} {src : List Value → Heap → Prop} {i : Nat} {xs : List Value} {old : Value}
theorem enumNext_item {x : Value} {Q : Option Value → Shared → Prop} (dr : Drw P w it l st src) (hE : IsEnum s.heap e it i old) (hI : st i s.heap) (hl : src xs s.heap) (hx : xs[i]? = some x) (hne : e ≠ it)
    (hQ : ∀ h', IsEnumOut h' e it ((i : Int) + 1) x s.heap.objs.size → st (i + 1) h' → h'.get? s.heap.objs.size = some { cls := .type "tuple", data := .seq #[.int i s.toks, x] } →
      (∀ b o, b ≠ e → b ≠ it → s.heap.get? b = some o → h'.get? b = some o) → Q (some (.ref s.heap.objs.size)) { s with heap := h', toks := s.toks + 1 }) : wpAny (model P w) A (pyNext (.ref e)) Q E s := by
  have hTy : s.TypeIs (.ref e) "enumerate" := ⟨_, hE, rfl⟩
  unfold pyNext
  refine wpAny_bind (wpAny_attempt (wpAny_callSpecial?_slot (name := Str.ofString "__next__") hTy F.slot_enumerate_next (wpAny_call_entry F.slot_enumerate_next hTy F.entry_enumerate_next ?_ (F.args_enumerate_next_1 _))))
  obtain ⟨hp, g, d, tk, os⟩ := s
  show wpAny _ _ (field (.ref e) 2 >>= _) _ _ _
  refine wpAny_bind (wpAny_field hE rfl (x := .ref it) rfl ?_)
  refine wpAny_bind (dr.item _ _ ⟨hp, g, d, tk, os⟩ i xs x _ hI hl hx fun g1 hI1 e1 => ?_)
  replace e1 : Heap.SameBut it hp g1 := e1
  have hE1 : IsEnum g1 e it i old := (e1.2 e hne).trans hE
  show wpAny _ _ (field (.ref e) 3 >>= _) _ _ ⟨g1, g, d, tk, os⟩
  refine wpAny_bind (wpAny_field hE1 rfl (x := rawInt i) rfl ?_)
  show wpAny _ _ (field (.ref e) 4 >>= _) _ _ ⟨g1, g, d, tk, os⟩
  refine wpAny_bind (wpAny_field hE1 rfl (x := .none) rfl ?_)
  show wpAny _ _ (mkInt i >>= _) _ _ ⟨g1, g, d, tk, os⟩
  refine wpAny_bind (wpAny_mkInt ?_)
  show wpAny _ _ (setField (.ref e) 3 (rawInt ((i : Int) + 1)) >>= _) _ _ ⟨g1, g, d, tk + 1, os⟩
  refine wpAny_bind (wpAny_setField_rec hE1 (by simp) fun g2 hE2 e2 => ?_)
  replace e2 : Heap.SameBut e g1 g2 := e2
  replace hE2 : IsEnum g2 e it ((i : Int) + 1) old := hE2
  show wpAny _ _ (setField (.ref e) 4 .none >>= _) _ _ ⟨g2, g, d, tk + 1, os⟩
  refine wpAny_bind (wpAny_setField_rec hE2 (by simp) fun g3 hE3 e3 => ?_)
  replace e3 : Heap.SameBut e g2 g3 := e3
  replace hE3 : IsEnum g3 e it ((i : Int) + 1) old := hE3
  show wpAny _ _ (newTuple [.int i tk, x] >>= _) _ _ ⟨g3, g, d, tk + 1, os⟩
  refine wpAny_bind (wpAny_newTuple ?_)
  have hE4 : IsEnum (g3.push { cls := .type "tuple", data := .seq #[.int i tk, x] }) e it ((i : Int) + 1) old := Heap.get?_push_of_some _ hE3
  generalize hg4 : g3.push { cls := .type "tuple", data := .seq #[.int i tk, x] } = g4 at hE4
  have hsz : g3.objs.size = hp.objs.size := by rw [e3.1, e2.1, e1.1]
  have hel : e < hp.objs.size := Heap.lt_size hE
  have hT4 : g4.get? hp.objs.size = some { cls := .type "tuple", data := .seq #[.int i tk, x] } := by rw [← hg4, ← hsz]; exact Heap.get?_push_size _ rfl
  have hk4 : ∀ b o, b ≠ e → b ≠ it → hp.get? b = some o → g4.get? b = some o := fun b o hbe hbi hb => by
    rw [← hg4]; exact Heap.get?_push_of_some _ (e3.extBut b o hbe (e2.extBut b o hbe (e1.extBut b o hbi hb)))
  have hI4 : st (i + 1) g4 := dr.keep _ _ _ hI1 fun q z => by rw [← hg4]; exact Heap.get?_push_of_some _ (e3.extBut _ _ hne.symm (e2.extBut _ _ hne.symm z))
  show wpAny _ _ (Builtin.SmallTypes.ownedTupleIsFree (.ref e) >>= _) _ _ ⟨g4, g, d, tk + 1, os⟩
  rw [hsz]
  clear hg4 hE3 e3 hE2 e2 hE1 e1 hI1 hsz
  refine wpAny_bind ?_
  unfold Builtin.SmallTypes.ownedTupleIsFree
  refine wpAny_bind (wpAny_field hE4 rfl (x := .none) rfl (wpAny_pure ?_))
  simp only [if_true]
  refine wpAny_bind (wpAny_rule (wpAny_bind (wpAny_field hE4 rfl (x := old) rfl (wpAny_bind (wpAny_setField_rec hE4 (by simp) fun g5 hE5 e5 => ?_)))))
  replace e5 : Heap.SameBut e g4 g5 := e5
  replace hE5 : IsEnum g5 e it ((i : Int) + 1) x := hE5
  show wpAny _ _ (Builtin.SmallTypes.ownedTupleHandOut (.ref e) (.ref hp.objs.size) >>= _) _ _ ⟨g5, g, d, tk + 1, os⟩
  refine wpAny_bind ?_
  unfold Builtin.SmallTypes.ownedTupleHandOut
  refine wpAny_bind (wpAny_setField_rec hE5 (by simp) fun g6 hE6 e6 => ?_)
  replace e6 : Heap.SameBut e g5 g6 := e6
  replace hE6 : IsEnumOut g6 e it ((i : Int) + 1) x hp.objs.size := hE6
  refine wpAny_setField_rec hE6 (by simp) fun g7 hE7 e7 => ?_
  replace e7 : Heap.SameBut e g6 g7 := e7
  replace hE7 : IsEnumOut g7 e it ((i : Int) + 1) x hp.objs.size := hE7
  have up : ∀ b o, b ≠ e → g4.get? b = some o → g7.get? b = some o := fun b o hb z => e7.extBut b o hb (e6.extBut b o hb (e5.extBut b o hb z))
  refine wpAny_bind (wpAny_letGo (wpAny_pure ⟨_, rfl, wpAny_pure (hQ g7 hE7 ?_ ?_ ?_)⟩))
  · exact dr.keep _ _ _ hI4 fun q z => up _ _ hne.symm z
  · exact up _ _ (Nat.ne_of_gt hel) hT4
  · exact fun b o hbe hbi hb => up b o hbe (hk4 b o hbe hbi hb)
theorem enumNext_end {Q : Option Value → Shared → Prop} (hh : A.handled = none) (dr : Drw P w it l st src) (hE : IsEnum s.heap e it i old) (hI : st i s.heap) (hl : src xs s.heap) (hx : xs[i]? = none)
    (hQ : ∀ h', Heap.ExtBut it s.heap h' → Q none { s with heap := h' }) : wpAny (model P w) A (pyNext (.ref e)) Q E s := by
  have hTy : s.TypeIs (.ref e) "enumerate" := ⟨_, hE, rfl⟩
  unfold pyNext
  refine wpAny_bind (wpAny_attempt (wpAny_callSpecial?_slot (name := Str.ofString "__next__") hTy F.slot_enumerate_next (wpAny_call_entry F.slot_enumerate_next hTy F.entry_enumerate_next ?_ (F.args_enumerate_next_1 _))))
  show wpAny _ _ (field (.ref e) 2 >>= _) _ _ _
  refine wpAny_bind (wpAny_field hE rfl (x := .ref it) rfl ?_)
  refine wpAny_bind (dr.done _ _ s i xs _ hh hI hl hx fun h' x eb hx' => ?_)
  obtain ⟨o, ho, hc⟩ := hx'
  refine wpAny_bind (wpAny_isInstance (T := "StopIteration") (b := true) ⟨o, ho, hc⟩ isSubtype_stop (wpAny_pure (hQ _ eb)))
end
theorem meets_enum {n : String} {l : Addr} {p : Heap → Prop} (I : Itr0 n l p) :
    Meets (Builtin.«enumerate.__new__» ⟨[.type "enumerate", .ref l], []⟩) (fun _ R s => p s.heap ∧ R (.ok (.ret (.ref (s.heap.push (itObj n l)).objs.size))) { s with heap := (s.heap.push (itObj n l)).push { cls := .type "enumerate", data := .fields #[.none, .bool false, .ref s.heap.objs.size, rawInt 0, .none, .none] } }) :=
  .of_wp fun prog w A R s h => by
    obtain ⟨hp, g, d, tk, os⟩ := s
    obtain ⟨q, h⟩ := h
    have hsub := sub_enumerate
    have f1 := fun (A : Around) (E : Value → Shared → Prop) (Q : Value → Shared → Prop) => I.go prog w A E ⟨hp, g, d, tk, os⟩ Q q
    wp_walk
    refine wpAny_stack_any fun stk => wpAny_pure ?_
    split
    · rename_i c _ _ _ _ _
      cases (c == Value.type "enumerate")
      · wp_walk using f1 _ _ _
        exact ⟨_, rfl, h⟩
      · wp_walk using f1 _ _ _
        exact ⟨_, rfl, h⟩
    · wp_walk using f1 _ _ _
      exact ⟨_, rfl, h⟩
noncomputable def Ite (K : PySem.W.Frag) (m : Bool) (a : Addr) : It :=
  ⟨fun i H => ∃ xs x, Sq K m H a xs ∧ xs[i]? = some x,
   fun i H v H' => ∃ T x, v = .ref T ∧ H T = none ∧ H' = upd H T (.tup [.int (i : Nat), x]) ∧ (∀ xs, Sq K m H a xs → xs[i]? = some x),
   fun i H => ∃ xs, Sq K m H a xs ∧ xs.length ≤ i⟩
noncomputable def eTn (m : Bool) (e it a : Addr) (i : Nat) (h : Heap) : Prop := (∃ old, IsEnum h e it i old) ∧ itSt m it a i h
theorem turn_enum {P : Program} {w : World} {K : PySem.W.Frag} {es : List Expr} {kk : Nat} {tp : Pos} {m : Bool} {e it a : Addr} (hne : e ≠ it) (hea : a ≠ e) (hia : a ≠ it) :
    Turn P w K (.Tuple es kk tp) (Ite K m a) [e, it] e (eTn m e it a) where
  mem := by simp
  obj := fun i h st c hc => by
    obtain ⟨⟨old, h1⟩, h2⟩ := st
    simp only [List.mem_cons, List.mem_nil_iff, or_false] at hc
    rcases hc with rfl | rfl
    · exact ⟨_, h1, fun v z => by cases z⟩
    · exact (drw_of (P := P) (w := w) m c a).obj i h h2
  keep := fun i h h' st k => by
    obtain ⟨⟨old, h1⟩, h2⟩ := st
    exact ⟨⟨old, k e (by simp) _ h1⟩, (drw_of (P := P) (w := w) m it a).keep i h h' h2 (k it (by simp))⟩
  item := by
    intro X hP hw hK hc i pins s σ H E I hf st hg
    subst hP hw hK
    obtain ⟨xs, x, q1, hx⟩ := hg
    obtain ⟨is1, r1, p1, z1⟩ := I.sq q1
    obtain ⟨v1, e1, rv1⟩ := r1.get hx
    obtain ⟨⟨old, hE⟩, s1⟩ := st
    refine enumNext_item (drw_of m it a) hE s1 p1 e1 hne fun h' a1 a2 a3 a4 => ⟨_, rfl, ?_⟩
    have kk : ∀ c q, c ∉ [e, it] → s.heap.get? c = some q → h'.get? c = some q := fun c q hc e => by
      simp only [List.mem_cons, List.mem_nil_iff, or_false, not_or] at hc
      exact a4 c q hc.1 hc.2 e
    have I1 : Inv X pins σ (upd H s.heap.objs.size (.tup [.int (i : Nat), x])) { s with heap := h' } := I.tupNew (ch := [e, it]) (its := [.int i s.toks, v1]) (Nat.le_refl _) (.cons ⟨_, rfl⟩ (.cons rv1 .nil)) (by show 2 ≤ sizeLine; decide) a3 hf kk (fun c hc => by
      simp only [List.mem_cons, List.mem_nil_iff, or_false] at hc
      rcases hc with rfl | rfl
      · exact ⟨_, a1⟩
      · obtain ⟨q, z, _⟩ := (drw_of (P := X.prog) (w := X.w) m c a).obj _ _ a2; exact ⟨q, z⟩)
    refine wpAny_letOwnedTupleGo_enum (s := { s with heap := h', toks := s.toks + 1 }) a1 fun h2 g1 g2 => ?_
    obtain ⟨f0, f1, f2, f3, f4, f5⟩ := hf e (by simp)
    have lte : e < s.heap.objs.size := Heap.lt_size hE
    have I2 : Inv X pins σ (upd H s.heap.objs.size (.tup [.int (i : Nat), x])) { s with heap := h2, toks := s.toks + 1 } := I1.turned (h' := h2) (t' := s.toks + 1) (fun c q hc z => g2.extBut c q hc z) (by rw [upd_ne (Nat.ne_of_lt lte)]; exact f0) f1 f3 f4 f5
    refine ⟨.ref s.heap.objs.size, _, I2, rfl, ⟨_, x, rfl, I.hok.fresh (Nat.le_refl _), rfl, fun xs' hq => by rw [I.sq_inj hq q1]; exact hx⟩, ⟨⟨_, by exact_mod_cast g1⟩, (drw_of (P := X.prog) (w := X.w) m it a).keep _ _ _ a2 fun q z => g2.extBut _ _ hne.symm z⟩, fun c hc => ?_⟩
    have hlt : c ≠ s.heap.objs.size := by
      simp only [List.mem_cons, List.mem_nil_iff, or_false] at hc
      rcases hc with rfl | rfl
      · exact Nat.ne_of_lt lte
      · obtain ⟨q, z, _⟩ := (drw_of (P := X.prog) (w := X.w) m c a).obj _ _ s1; exact Nat.ne_of_lt (Heap.lt_size z)
    rw [upd_ne hlt]
    exact (hf c hc).1
  done := by
    intro X hP hw hK hc i pins s σ H E I hf st hg
    subst hP hw hK
    obtain ⟨xs, q1, hx⟩ := hg
    obtain ⟨is1, r1, p1, z1⟩ := I.sq q1
    obtain ⟨⟨old, hE⟩, s1⟩ := st
    have l1 := r1.length
    obtain ⟨f0, f1, f2, f3, f4, f5⟩ := hf it (by simp)
    exact enumNext_end (I.ok.hd hc) (drw_of m it a) hE s1 p1 (List.getElem?_eq_none_iff.mpr (by omega)) fun h' eb => ⟨rfl, I.turned (t' := s.toks) (fun b o hb z => eb b o hb z) f0 f1 f3 f4 f5⟩
  self := fun _ _ _ _ _ st h => by
    obtain ⟨⟨old, h1⟩, _⟩ := st
    exact wpAny_pyIter_enum h1 h
section
variable {X : Cx}
noncomputable def iEnum (K : PySem.W.Frag) (m : Bool) (ta : TA) : TI := fun σ H R => ta σ H fun vs H1 => ∃ a, vs = [.ref a] ∧ (∃ xs, Sq K m H1 a xs) ∧ R (Ite K m a) H1
theorem pi_enum {a : Expr} {ta : TA} {p pos tp : Pos} {es : List Expr} {kk : Nat} (m : Bool) (hg : Gl X "enumerate") (hm : X.mg "enumerate" = none) (ha : PA X [a] ta) (hs : autoParam (starEach [a] X.env = [(false, eval a X.env)]) L2.aRfl._auto_1) :
    PI X (.Tuple es kk tp) (.Call (.Name "enumerate" p) [a] [] pos) (iEnum X.K m ta) := by
  intro pins s σ H R I h
  refine Call_ (ld_blt I hg hm bt_enumerate (PyProof.Rows.callWith_type1 (thn (ha pos pins s σ H _ I h) fun us s1 ⟨vs, H1, I1, r1, q1⟩ => ?_) hs rfl))
  obtain ⟨l1, e, ⟨xs, q1⟩, q⟩ := q1
  subst e
  obtain ⟨u1, rfl, e1⟩ := r1.one
  cases e1
  obtain ⟨is1, r1, p1, z1⟩ := I1.sq q1
  refine callType_new F.called_enumerate (by decide) (F.typeCall_enumerate_1 _) (F.newCall_enumerate_1 _) (fun obj => F.args_object_init_2 obj _) F.entry_enumerate_new (meets_enum (itr0_of m l1 is1)) ⟨p1, ?_⟩
  have z2 : (s1.heap.push (itObj (itN m) l1)).objs.size = s1.heap.objs.size + 1 := Heap.size_push ..
  have g2 : ((s1.heap.push (itObj (itN m) l1)).push { cls := .type "enumerate", data := .fields #[.none, .bool false, .ref s1.heap.objs.size, rawInt 0, .none, .none] }).get? (s1.heap.push (itObj (itN m) l1)).objs.size = some { cls := .type "enumerate", data := .fields #[.none, .bool false, .ref s1.heap.objs.size, rawInt 0, .none, .none] } := Heap.get?_push_size _ rfl
  have g1 : ((s1.heap.push (itObj (itN m) l1)).push { cls := .type "enumerate", data := .fields #[.none, .bool false, .ref s1.heap.objs.size, rawInt 0, .none, .none] }).get? s1.heap.objs.size = some (itObj (itN m) l1) := Heap.get?_push_of_some _ (Heap.get?_push_size _ rfl)
  rw [z2] at g2
  show _ ∧ _
  rw [z2]
  have kp : ∀ b o, s1.heap.get? b = some o → ((s1.heap.push (itObj (itN m) l1)).push { cls := .type "enumerate", data := .fields #[.none, .bool false, .ref s1.heap.objs.size, rawInt 0, .none, .none] }).get? b = some o := fun b o z => Heap.get?_push_of_some _ (Heap.get?_push_of_some _ z)
  generalize (s1.heap.push (itObj (itN m) l1)).push { cls := .type "enumerate", data := .fields #[.none, .bool false, .ref s1.heap.objs.size, rawInt 0, .none, .none] } = h' at g1 g2 kp
  have I2 : Inv X pins σ H1 { s1 with heap := h' } := I1.kept (t' := s1.toks) kp
  have ltl : l1 < s1.heap.objs.size := itSrc_lt p1
  refine ⟨⟨_, g2, rfl⟩, wpAny_pyIter_enum (s := { s1 with heap := h' }) g2 ⟨_, [s1.heap.objs.size + 1, s1.heap.objs.size], _, _, H1, rfl, I2, turn_enum (m := m) (a := l1) (Nat.succ_ne_self _) (Nat.ne_of_lt (Nat.lt_succ_of_lt ltl)) (Nat.ne_of_lt ltl), ⟨⟨_, g2⟩, itSt_new m g1⟩, fun c hc => ?_, q⟩⟩
  have hle : s1.heap.objs.size ≤ c := by
    simp only [List.mem_cons, List.mem_nil_iff, or_false] at hc
    rcases hc with rfl | rfl
    · exact Nat.le_add_right _ _
    · exact Nat.le_refl _
  exact I1.fpOk hle (I1.hok.fresh hle)
end
theorem for_enum {K : PySem.W.Frag} {m : Bool} {a : Addr} {xs : List V} {g : TG} {tb : TS} {D : Ends} {σ : St} {H : Hp} (Pv : Nat → St → Hp → Prop) (h0 : Pv 0 σ H) (hl : ∀ i σ H, i ≤ xs.length → Pv i σ H → Sq K m H a xs)
    (hs : ∀ i x σ H T, xs[i]? = some x → Pv i σ H → H T = none → g (.ref T) σ (upd H T (.tup [.int (i : Nat), x])) fun σ2 H2 => tb { D with nx := Pv (i + 1), ct := Pv (i + 1), bk := D.nx } σ2 H2) (hd : ∀ σ H, Pv xs.length σ H → D.nx σ H) :
    ∃ W : Nat → Nat → St → Hp → Prop, (∃ m, W 0 m σ H) ∧ ∀ i n σ H, W i n σ H →
      ((Ite K m a).stop i H ∧ D.nx σ H) ∨ ((Ite K m a).go i H ∧ ∃ N : St → Hp → Prop, (∀ σ' H', N σ' H' → ∃ m', m' < n ∧ W (i + 1) m' σ' H') ∧ ∀ x H', (Ite K m a).yld i H x H' → g x σ H' fun σ2 H2 => tb { D with nx := N, ct := N, bk := D.nx } σ2 H2) := by
  refine ⟨fun i n σ H => n = xs.length - i ∧ i ≤ xs.length ∧ Pv i σ H, ⟨_, rfl, Nat.zero_le _, h0⟩, ?_⟩
  rintro i n σ H ⟨rfl, hi, p⟩
  have q1 := hl i σ H hi p
  by_cases hlt : i < xs.length
  · refine .inr ⟨⟨xs, xs[i], q1, by simp [hlt]⟩, Pv (i + 1), fun σ' H' p' => ⟨xs.length - (i + 1), by omega, rfl, hlt, p'⟩, fun x H' y => ?_⟩
    obtain ⟨T, u, rfl, hT, rfl, y1⟩ := y
    exact hs i u σ H T (y1 xs q1) p hT
  · have e : i = xs.length := by omega
    subst e
    exact .inl ⟨⟨xs, q1, Nat.le_refl _⟩, hd σ H p⟩
end L2
namespace L2
open PySem PySem.Spec PyProof.Rows
section
variable {prog : Program} {w : World} {A : Around} {E : Value → Shared → Prop} {s : Shared}
end
section
variable {X : Cx}
end
end L2
namespace L2
open PySem PySem.Spec PyProof.Rows
section
variable {P : Program} {w : World} {A : Around} {E : Value → Shared → Prop} {s : Shared}
end
section
variable {P : Program} {w : World} {A : Around} {E : Value → Shared → Prop} {s : Shared} {z u o i1 i2 l1 l2 : Addr} {st1 st2 : Nat → Heap → Prop} {src1 src2 : List Value → Heap → Prop} {k1 k2 : Nat} {xs ys : List Value}
end
section
variable {X : Cx} {pins : List (Addr × Obj)} {σ : St} {H : Hp} {s : Shared} {m1 m2 : Bool} {z u o i1 i2 a b : Addr} {i : Nat} {xs ys : List V} {E : Value → Shared → Prop} {A : Around}
end
section
variable {X : Cx}
end
noncomputable def Itr3 (lo c : Int) (n : Nat) : It := ⟨fun i _ => i < n, fun i H x H' => H' = H ∧ x = .int (lo + (i : Nat) * c), fun i _ => n ≤ i⟩
theorem turn_range3 {P : Program} {w : World} {K : PySem.W.Frag} {tg : Expr} (it : Addr) (lo c : Int) (n : Nat) : Turn P w K tg (Itr3 lo c n) [it] it (fun i h => IsRangeIter h it (lo + (i : Nat) * c) ((n : Int) - (i : Nat)) c) where
  mem := by simp
  obj := fun i h st b hb => by
    have e : b = it := by simpa using hb
    subst e
    exact ⟨_, st, fun v z => by
      have z' : Data.fields _ = Data.cell v := z
      cases z'⟩
  keep := fun i h h' st k => k it (by simp) _ st
  item := by
    intro X hP hw hK hc i pins s σ H E I hf st hg
    subst hP hw hK
    obtain ⟨f0, f1, f2, f3, f4, f5⟩ := hf it (by simp)
    have W := Walks.range (prog := X.prog) (w := X.w) (I.ok.hd hc) it lo c n
    refine W.item i s _ _ hg st fun v h' tk hv st' kk => ?_
    obtain ⟨t, rfl⟩ := hv
    have I1 : Inv X pins σ H { s with heap := h', toks := tk } := I.turned (fun b o hb e => kk b o (by simpa using hb) e) f0 f1 f3 f4 f5
    exact ⟨_, rfl, go_of (s := { s with heap := h', toks := tk }) (n := "range_iterator") st' rfl rfl (by decide) ⟨.int (lo + (i : Nat) * c), H, I1, ⟨t, rfl⟩, ⟨rfl, rfl⟩, st', fun b hb => (hf b hb).1⟩⟩
  done := by
    intro X hP hw hK hc i pins s σ H E I hf st hg
    subst hP hw hK
    obtain ⟨f0, f1, f2, f3, f4, f5⟩ := hf it (by simp)
    exact wpAny_pyNext_range_end (I.ok.hd hc) st (by have : n ≤ i := hg; omega) fun h' eb => ⟨rfl, I.turned (t' := s.toks) (fun b o hb e => eb b o hb e) f0 f1 f3 f4 f5⟩
  self := fun _ _ _ _ _ st h => wpAny_pyIter_rangeiter st h
section
variable {X : Cx} {tg : Expr}
end
theorem for_range3 {lo c : Int} {n : Nat} {g : TG} {tb : TS} {D : Ends} {σ : St} {H : Hp} (Pv : Nat → St → Hp → Prop) (h0 : Pv 0 σ H)
    (hs : ∀ i σ H, i < n → Pv i σ H → g (.int (lo + (i : Nat) * c)) σ H fun σ2 H2 => tb { D with nx := Pv (i + 1), ct := Pv (i + 1), bk := D.nx } σ2 H2) (hd : ∀ σ H, Pv n σ H → D.nx σ H) :
    ∃ W : Nat → Nat → St → Hp → Prop, (∃ m, W 0 m σ H) ∧ ∀ i m σ H, W i m σ H →
      ((Itr3 lo c n).stop i H ∧ D.nx σ H) ∨ ((Itr3 lo c n).go i H ∧ ∃ N : St → Hp → Prop, (∀ σ' H', N σ' H' → ∃ m', m' < m ∧ W (i + 1) m' σ' H') ∧ ∀ x H', (Itr3 lo c n).yld i H x H' → g x σ H' fun σ2 H2 => tb { D with nx := N, ct := N, bk := D.nx } σ2 H2) := by
  refine ⟨fun i m σ H => m = n - i ∧ i ≤ n ∧ Pv i σ H, ⟨n, by simp, Nat.zero_le _, h0⟩, ?_⟩
  rintro i m σ H ⟨rfl, hi, p⟩
  by_cases hlt : i < n
  · refine .inr ⟨hlt, Pv (i + 1), fun σ' H' p' => ⟨n - (i + 1), by omega, rfl, hlt, p'⟩, fun x H' y => ?_⟩
    obtain ⟨e, y⟩ := y
    subst e y
    exact hs i σ _ hlt p
  · have e : i = n := by omega
    subst e
    exact .inl ⟨Nat.le_refl _, hd σ H p⟩
end L2
namespace L2
open PySem PySem.Spec PyProof.Rows
section
variable {X : Cx} {tg : Expr}
end
end L2
namespace L2
open PySem PySem.Spec PyProof.Rows PySem.SeqAt
section
variable {X : Cx}
end
end L2
namespace L2
open PySem PySem.Spec PyProof.Rows PySem.SeqAt
theorem paired_get {α β : Type} {R : α → β → Prop} {xs : List α} {ys : List β} (h : Paired R xs ys) : ∀ {i : Nat} {x : α}, xs[i]? = some x → ∃ y, ys[i]? = some y ∧ R x y := by
  induction h with
  | nil => intro i x e; exact nomatch e
  | cons z _ ih =>
    intro i x e
    match i with
    | 0 => cases e; exact ⟨_, rfl, z⟩
    | i + 1 => exact ih (show _ = some x from e)
theorem kV_flat1 (k : Key) : flatV (kV k) = true := by cases k <;> rfl
theorem eqV_kV (a b : Key) : eqV (kV a) (kV b) = true ↔ a = b := by
  cases a with
  | inl i =>
    cases b with
    | inl j => show (i == j) = true ↔ _; rw [beq_iff_eq]; exact ⟨fun z => (by rw [z]), fun z => (by cases z; rfl)⟩
    | inr y => exact ⟨fun z => (nomatch z), fun z => (nomatch z)⟩
  | inr x =>
    cases b with
    | inl j => exact ⟨fun z => (nomatch z), fun z => (nomatch z)⟩
    | inr y => show (x == y) = true ↔ _; rw [beq_iff_eq]; exact ⟨fun z => (by rw [z]), fun z => (by cases z; rfl)⟩
noncomputable def RowsL (H : Hp) : List V → List (List Key) → Prop := Paired fun v r => ∃ l, v = .ref l ∧ H l = some (.lst (r.map kV))
noncomputable def PlanAt (K : PySem.W.Frag) (H : Hp) (d : Addr) (pl : List (Str × Str × Int)) : Prop := ∃ kvs : List (Key × V), H d = some (.dK kvs) ∧ Paired (fun (p : Key × V) (q : Str × Str × Int) => p.1 = Sum.inr q.1 ∧ ∃ t, p.2 = .ref t ∧ SqT K H t [.str q.2.1, .int q.2.2]) kvs pl
section
variable {X : Cx} {pins : List (Addr × Obj)} {σ : St} {H : Hp} {s : Shared}
theorem keys_at {A : Around} {ks ls : List Key} {its its' : List Value} (r : Vals (ks.map kV) its) (r' : Vals (ls.map kV) its') :
    ∀ j (h1 : j < its.toArray.size) (h2 : j < its'.toArray.size), EqAt A s its.toArray[j] its'.toArray[j] (decide (ks[j]? = ls[j]?)) := fun j h1 h2 => by
  have l1 := r.length
  have l2 := r'.length
  rw [List.length_map] at l1 l2
  rw [List.size_toArray] at h1 h2
  have j1 : j < ks.length := by omega
  have j2 : j < ls.length := by omega
  obtain ⟨u1, e1, ru1⟩ := r.get (i := j) (x := kV ks[j]) (by rw [List.getElem?_map, List.getElem?_eq_getElem j1]; rfl)
  obtain ⟨u2, e2, ru2⟩ := r'.get (i := j) (x := kV ls[j]) (by rw [List.getElem?_map, List.getElem?_eq_getElem j2]; rfl)
  have z1 : its.toArray[j] = u1 := by rw [List.getElem?_eq_getElem (by omega)] at e1; simpa using e1
  have z2 : its'.toArray[j] = u2 := by rw [List.getElem?_eq_getElem (by omega)] at e2; simpa using e2
  rw [z1, z2]
  have e : decide (ks[j]? = ls[j]?) = eqV (kV ks[j]) (kV ls[j]) := by
    rw [Bool.eq_iff_iff, decide_eq_true_iff, eqV_kV, List.getElem?_eq_getElem j1, List.getElem?_eq_getElem j2]
    exact ⟨fun z => Option.some.inj z, fun z => congrArg some z⟩
  rw [e]
  exact eqAt_V ru1 ru2 (kV_flat1 _) (kV_flat1 _)
theorem eqAt_keys {A : Around} {a b : Addr} {ks ls : List Key} (hu : A.units < cLine) (I : Inv X pins σ H s) (h1 : SqL X.K H a (ks.map kV)) (h2 : SqL X.K H b (ls.map kV)) :
    ∃ c : Bool, (c = true ↔ ks = ls) ∧ EqAt A s (.ref a) (.ref b) c ∧ RcAt A s (.ref a) (.ref b) c ∧ RcNeAt A s (.ref a) (.ref b) (!c) := by
  obtain ⟨its, r, pt, _⟩ := I.list h1
  obtain ⟨its', r', pt', _⟩ := I.list h2
  have l1 := r.length
  have l2 := r'.length
  rw [List.length_map] at l1 l2
  have key := keys_at (A := A.in1) (s := s) r r'
  have inj : a = b → ks = ls := fun z => by
    subst z
    have := I.list_inj h1 h2
    refine ext_all (by rw [← List.length_map (f := kV), this, List.length_map]) fun i x y ex ey => ?_
    have e5 : (ks.map kV)[i]? = (ls.map kV)[i]? := by rw [this]
    rw [List.getElem?_map, List.getElem?_map, ex, ey] at e5
    have e6 : kV x = kV y := Option.some.inj e5
    exact (eqV_kV x y).mp (by
      rw [e6]
      exact (eqV_kV y y).mpr rfl)
  by_cases hsz : its.toArray.size = its'.toArray.size
  · have hb : ((List.range its.toArray.size).all (fun j => decide (ks[j]? = ls[j]?))) = true ↔ ks = ls := by
      rw [List.size_toArray, List.size_toArray] at hsz
      rw [allRange, List.size_toArray]
      constructor
      · intro z1
        refine ext_all (by omega) fun i x y ex ey => ?_
        have hi := (List.getElem?_eq_some_iff.mp ex).1
        have := of_decide_eq_true (z1 i (by omega))
        rw [ex, ey] at this
        exact Option.some.inj this
      · intro z
        subst z
        exact fun i _ => decide_eq_true rfl
    refine ⟨_, hb, ?_, RcAt.lists pt.isList pt'.isList hsz hu key, RcNeAt.lists pt.isList pt'.isList hsz hu key⟩
    by_cases hpq : a = b
    · rw [hb.mpr (inj hpq)]
      subst hpq
      exact EqAt.same _
    · exact EqAt.of_refs hpq (RcAt.lists pt.isList pt'.isList hsz hu key)
  · have hne : (its.toArray.size != its'.toArray.size) = true := by simpa using hsz
    rw [List.size_toArray, List.size_toArray] at hsz
    have hb : false = true ↔ ks = ls := ⟨fun z => (nomatch z), fun z => (by subst z; omega)⟩
    refine ⟨false, hb, ?_, RcAt.lists_lengths pt.isList pt'.isList hne hu, RcNeAt.lists_lengths pt.isList pt'.isList hne hu⟩
    by_cases hpq : a = b
    · exact absurd (hb.mpr (inj hpq)) (by decide)
    · exact EqAt.of_refs hpq (RcAt.lists_lengths pt.isList pt'.isList hne hu)
theorem op_eqK {K : PySem.W.Frag} {n : Nat} (hK : X.K = K) (hu : X.A.units + n < cLine) : OpR X (compareOp .Eq) (fun x y H Q => ∃ (a b : Addr) (ks ls : List Key), x = .ref a ∧ y = .ref b ∧ SqL K H a (ks.map kV) ∧ SqL K H b (ls.map kV) ∧ ∀ c : Bool, (c = true ↔ ks = ls) → Q (.bl c) H) := by
  subst hK
  intro pins s σ H x y v u Q I rx ry h
  obtain ⟨a, b, ks, ls, rfl, rfl, h1, h2, q⟩ := h
  cases rx
  cases ry
  obtain ⟨c, hc, _, hr, _⟩ := eqAt_keys (A := X.A) (by omega) I h1 h2
  exact hr _ _ _ _ ⟨.bl c, H, I, rfl, q c hc⟩
theorem nil_at {A : Around} {a b : Addr} {xs : List V} (hu : A.units < cLine) (I : Inv X pins σ H s) (h1 : SqL X.K H a xs) (h2 : SqL X.K H b []) : RcAt A s (.ref a) (.ref b) xs.isEmpty ∧ RcNeAt A s (.ref a) (.ref b) (!xs.isEmpty) := by
  obtain ⟨its, r, pt, _⟩ := I.list h1
  obtain ⟨its', r', pt', _⟩ := I.list h2
  have l1 := r.length
  have l2 := r'.length
  cases xs with
  | nil =>
    have e1 : its = [] := List.eq_nil_of_length_eq_zero l1.symm
    have e2 : its' = [] := List.eq_nil_of_length_eq_zero l2.symm
    subst e1 e2
    have key : ∀ j (h1 : j < ([] : List Value).toArray.size) (h2 : j < ([] : List Value).toArray.size), EqAt A.in1 s ([] : List Value).toArray[j] ([] : List Value).toArray[j] ((fun _ => true) j) := fun j h1 _ => absurd h1 (by simp)
    exact ⟨RcAt.lists pt.isList pt'.isList rfl hu key, RcNeAt.lists pt.isList pt'.isList rfl hu key⟩
  | cons x xs =>
    have hne : (its.toArray.size != its'.toArray.size) = true := by
      rw [List.size_toArray, List.size_toArray, ← l1, ← l2]
      simp
    exact ⟨RcAt.lists_lengths pt.isList pt'.isList hne hu, RcNeAt.lists_lengths pt.isList pt'.isList hne hu⟩
theorem op_eqNil {K : PySem.W.Frag} {n : Nat} (hK : X.K = K) (hu : X.A.units + n < cLine) : OpR X (compareOp .Eq) (fun x y H Q => ∃ (a b : Addr) (xs : List V), x = .ref a ∧ y = .ref b ∧ SqL K H a xs ∧ SqL K H b [] ∧ Q (.bl xs.isEmpty) H) := by
  subst hK
  intro pins s σ H x y v u Q I rx ry h
  obtain ⟨a, b, xs, rfl, rfl, h1, h2, q⟩ := h
  cases rx
  cases ry
  exact (nil_at (A := X.A) (by omega) I h1 h2).1 _ _ _ _ ⟨.bl _, H, I, rfl, q⟩
theorem op_neNil {K : PySem.W.Frag} {n : Nat} (hK : X.K = K) (hu : X.A.units + n < cLine) : OpR X (compareOp .NotEq) (fun x y H Q => ∃ (a b : Addr) (xs : List V), x = .ref a ∧ y = .ref b ∧ SqL K H a xs ∧ SqL K H b [] ∧ Q (.bl (!xs.isEmpty)) H) := by
  subst hK
  intro pins s σ H x y v u Q I rx ry h
  obtain ⟨a, b, xs, rfl, rfl, h1, h2, q⟩ := h
  cases rx
  cases ry
  exact (nil_at (A := X.A) (by omega) I h1 h2).2 _ _ _ _ ⟨.bl _, H, I, rfl, q⟩
theorem all_tt (n : Nat) : (List.range n).all (fun _ => true) = true := by simp
theorem eqAt_book {A : Around} {a b : Addr} {us vs : List V} {bk : List (List Key)} (hu : A.units + 1 < cLine) (I : Inv X pins σ H s) (h1 : SqL X.K H a us) (h2 : SqL X.K H b vs) (r1 : RowsL H us bk) (r2 : RowsL H vs bk) : EqAt A s (.ref a) (.ref b) true := by
  by_cases hpq : a = b
  · subst hpq
    exact EqAt.same _
  obtain ⟨its, r, pt, _⟩ := I.list h1
  obtain ⟨its', r', pt', _⟩ := I.list h2
  have l1 := r.length
  have l2 := r'.length
  have l3 := Paired.length r1
  have l4 := Paired.length r2
  have key : ∀ j (h1 : j < its.toArray.size) (h2 : j < its'.toArray.size), EqAt A.in1 s its.toArray[j] its'.toArray[j] ((fun _ => true) j) := fun j h1 h2 => by
    rw [List.size_toArray] at h1 h2
    have j1 : j < us.length := by omega
    have j2 : j < vs.length := by omega
    obtain ⟨u1, e1, ru1⟩ := r.get (List.getElem?_eq_getElem j1)
    obtain ⟨u2, e2, ru2⟩ := r'.get (List.getElem?_eq_getElem j2)
    obtain ⟨q1, e3, m1, f1, g1⟩ := paired_get r1 (List.getElem?_eq_getElem j1)
    obtain ⟨q2, e4, m2, f2, g2⟩ := paired_get r2 (List.getElem?_eq_getElem j2)
    have e5 : q1 = q2 := Option.some.inj (e3.symm.trans e4)
    subst e5
    rw [f1] at ru1
    rw [f2] at ru2
    cases ru1
    cases ru2
    have z1 : its.toArray[j] = .ref m1 := by rw [List.getElem?_eq_getElem (by omega)] at e1; simpa using e1
    have z2 : its'.toArray[j] = .ref m2 := by rw [List.getElem?_eq_getElem (by omega)] at e2; simpa using e2
    rw [z1, z2]
    obtain ⟨c, hc, he, _⟩ := eqAt_keys (A := A.in1) (by show A.units + 1 < cLine; exact hu) I (.of g1) (.of g2)
    rw [hc.mpr rfl] at he
    exact he
  have := RcAt.lists pt.isList pt'.isList (by rw [List.size_toArray, List.size_toArray]; omega) (by omega) key
  rw [all_tt] at this
  exact EqAt.of_refs hpq this
theorem eqAt_tupK {A : Around} {a b : Addr} {ks : List Key} (hu : A.units < cLine) (I : Inv X pins σ H s) (h1 : SqT X.K H a (ks.map kV)) (h2 : SqT X.K H b (ks.map kV)) : EqAt A s (.ref a) (.ref b) true := by
  by_cases hpq : a = b
  · subst hpq
    exact EqAt.same _
  obtain ⟨its, r, pt, _⟩ := I.tuple h1
  obtain ⟨its', r', pt', _⟩ := I.tuple h2
  have l1 := r.length
  have l2 := r'.length
  have key := keys_at (A := A.in1) (s := s) r r'
  have := RcAt.tuples pt pt' hu key
  have e : ((List.range (min its.toArray.size its'.toArray.size)).all (fun j => decide (ks[j]? = ks[j]?)) && its.toArray.size == its'.toArray.size) = true := by
    rw [Bool.and_eq_true, allRange, List.size_toArray, List.size_toArray, beq_iff_eq]
    exact ⟨fun i _ => decide_eq_true rfl, by omega⟩
  rw [e] at this
  exact EqAt.of_refs hpq this
theorem val_at {κ : Type} [DecidableEq κ] : ∀ {kvs : List (κ × V)} {i : Nat} {k : κ} {v : V}, (kvs.map (·.1)).Nodup → kvs[i]? = some (k, v) → valV kvs k = some v
  | [], i, k, v, _, e => nomatch e
  | p :: r, 0, k, v, _, e => by
    cases e
    unfold valV
    rw [List.find?_cons_of_pos (by simp)]
    rfl
  | p :: r, i + 1, k, v, n, e => by
    have n' : (p.1 :: r.map (·.1)).Nodup := n
    obtain ⟨n1, n2⟩ := List.nodup_cons.mp n'
    have e' : r[i]? = some (k, v) := e
    have ne : ¬ p.1 = k := fun z => n1 (by rw [z]; exact List.mem_map.mpr ⟨(k, v), List.mem_of_getElem? e', rfl⟩)
    have := val_at n2 e'
    unfold valV at this ⊢
    rw [List.find?_cons_of_neg (by simpa using ne)]
    exact this
theorem kv_keys {kvs : List (Key × V)} {vs : List (Key × Value)} (h : KV kvs vs) : kvs.map (·.1) = vs.map (·.1) := by
  induction h with
  | nil => rfl
  | cons h _ ih => rw [List.map_cons, List.map_cons, ih, h.1]
noncomputable def EqW (prog : Program) (w : World) (A : Around) (s : Shared) (y x : Value) (b : Bool) : Prop := ∀ (E : Value → Shared → Prop) (Q : Bool → Shared → Prop), Q b s → wpAny (model prog w) A (eqBool y x) Q E s
theorem eqW_refs {prog : Program} {w : World} {A : Around} {l b : Addr} {k : Bool} (hne : l ≠ b) (h : ∀ (E : Value → Shared → Prop) (Q : Value → Shared → Prop), Q (.bool k) s → wpAny (model prog w) A (richCompare .Eq (.ref l) (.ref b)) Q E s) : EqW prog w A s (.ref l) (.ref b) k := fun E Q hq => by
  unfold eqBool
  try with_reducible refine wpAny_holding ?_
  show wpAny _ _ (if (Value.ref l == Value.ref b) = true then _ else _) Q E s
  rw [if_neg (fun z => hne (by have := eq_of_beq z; injection this))]
  exact wpAny_bind (h _ _ (wpAny_truthy_bool hq))
open PySem.MeetsSeq PySem.MeetsSeq2 PySem.MeetsSeq3 in
open AutoSeq1 (wpAny_loadPart') in
theorem ne_loopW {prog : Program} {w : World} (l b : Addr) (items items2 : Array Value) (n n2 : Nat) (dd dd2 : Option Addr) (sl sl2 : Array (Option Value)) (hsz : items.size = items2.size) (k : Nat) :
    ∀ i : Nat, items.size - i = k → MeetsIn prog w (Builtin.«list.__eq__.loop» ⟨[.ref l, .ref b, rawInt i, rawInt 3], []⟩)
      (fun A R s => s.heap.get? l = some { cls := .type "list", dict := dd, data := .seq items n, slots := sl } ∧ s.heap.get? b = some { cls := .type "list", dict := dd2, data := .seq items2 n2, slots := sl2 } ∧
        (∀ j (h1 : j < items.size) (h2 : j < items2.size), EqW prog w A.in1 s items[j] items2[j] true) ∧ R (.ok (.ret (.bool false))) s) := by
  induction k with
  | zero =>
    intro i hk A R s h
    obtain ⟨hp, g, d, tk, os⟩ := s; obtain ⟨hl, hb, he, h⟩ := h
    wp_walk using wpAny_loadPart' hl, wpAny_loadPart' hb
    have hi1 : items[((i : Nat) : Int).toNat]? = none := by simp; omega
    have hi2 : items2[((i : Nat) : Int).toNat]? = none := by simp; omega
    rw [hi1, hi2]
    wp_walk using wpAny_loadPart' hl, wpAny_loadPart' hb
    show R (.ok (.ret (.bool (items.size != items2.size)))) _
    rw [hsz]
    simpa using h
  | succ k ih =>
    intro i hk A R s h
    obtain ⟨hp, g, d, tk, os⟩ := s; obtain ⟨hl, hb, he, h⟩ := h
    wp_walk using wpAny_loadPart' hl, wpAny_loadPart' hb
    have hlt : i < items.size := by omega
    have hlt2 : i < items2.size := by omega
    have hi1 : items[((i : Nat) : Int).toNat]? = some items[i] := by simp [hlt]
    have hi2 : items2[((i : Nat) : Int).toNat]? = some items2[i] := by simp [hlt2]
    have hc : ((i : Int) + 1) = ((i + 1 : Nat) : Int) := by push_cast; rfl
    rw [hi1, hi2]
    refine wpAny_bind (he i hlt hlt2 _ _ ?_)
    wp_walk
    rw [hc]
    exact ⟨plainId_quiet plain_eq_loop _, codeAny_builtin entry_eq_loop (by
      rw [Around.under_plainId plain_eq_loop _]
      exact ih (i + 1) (by omega) A R _ ⟨hl, hb, he, h⟩)⟩
open PySem.MeetsSeq PySem.MeetsSeq2 PySem.MeetsSeq3 in
open AutoSeq1 (wpAny_loadPart') in
theorem list_neW {prog : Program} {w : World} (l b : Addr) (items items2 : Array Value) (n n2 : Nat) (dd dd2 : Option Addr) (sl sl2 : Array (Option Value)) (hsz : items.size = items2.size) :
    MeetsIn prog w (Builtin.«list.__ne__» ⟨[.ref l, .ref b], []⟩)
      (fun A R s => s.heap.get? l = some { cls := .type "list", dict := dd, data := .seq items n, slots := sl } ∧ s.heap.get? b = some { cls := .type "list", dict := dd2, data := .seq items2 n2, slots := sl2 } ∧
        (∀ j (h1 : j < items.size) (h2 : j < items2.size), EqW prog w A.in1 s items[j] items2[j] true) ∧ R (.ok (.ret (.bool false))) s) := by
  intro A R s h
  obtain ⟨hp, g, d, tk, os⟩ := s; obtain ⟨hl, hb, he, h⟩ := h
  have f3 := AutoSeq1.sub_list_list
  have hne : ¬ (items.size != items2.size) = true := by simp [hsz]
  wp_walk using wpAny_loadPart' hl, wpAny_loadPart' hb
  exact ⟨plainId_quiet plain_eq_loop _, codeAny_builtin entry_eq_loop (by
    rw [Around.under_plainId plain_eq_loop _]
    exact ne_loopW l b items items2 n n2 dd dd2 sl sl2 hsz _ 0 rfl A R _ ⟨hl, hb, he, h⟩)⟩
theorem eqAt_plan {A : Around} {a b : Addr} {pl : List (Str × Str × Int)} (hu : A.units + 1 < cLine) (I : Inv X pins σ H s) (h1 : PlanAt X.K H a pl) (h2 : PlanAt X.K H b pl) : EqW X.prog X.w A s (.ref a) (.ref b) true := by
  by_cases hpq : a = b
  · subst hpq
    exact fun E Q hq => EqAt.same _ _ _ _ _ hq
  obtain ⟨kvs, e1, p1⟩ := h1
  obtain ⟨kvs', e2, p2⟩ := h2
  obtain ⟨z1, hd1, vs1, rel1, dd1⟩ := dk_of I.hok e1
  obtain ⟨z2, hd2, vs2, rel2, dd2⟩ := dk_of I.hok e2
  have nd2 : (kvs'.map (·.1)).Nodup := by
    obtain ⟨_, _, _, _, _, _, _, _, n⟩ := id dd2
    rw [kv_keys rel2]; exact n
  have l1 := Paired.length p1
  have l2 := Paired.length p2
  have l3 := rel1.length
  have l4 := rel2.length
  have hits : ∀ i, i ≤ vs1.length → PySem.W.KeqHits A.in1 s vs2 (vs1.drop i) true := by
    intro i hi
    obtain ⟨n, hn⟩ : ∃ n, vs1.length - i = n := ⟨_, rfl⟩
    induction n generalizing i with
    | zero => rw [List.drop_of_length_le (by omega)]; exact .nil
    | succ n ih =>
      have j1 : i < vs1.length := by omega
      rw [List.drop_eq_getElem_cons j1]
      obtain ⟨q, eq, hq⟩ := paired_get rel1 (i := i) (x := kvs[i]'(by omega)) (List.getElem?_eq_getElem _)
      obtain ⟨m1, em1, f1, t1, g1, k1⟩ := paired_get p1 (i := i) (x := kvs[i]'(by omega)) (List.getElem?_eq_getElem _)
      obtain ⟨m2, em2, f2, t2, g2, k2⟩ := paired_get p2 (i := i) (x := kvs'[i]'(by omega)) (List.getElem?_eq_getElem _)
      have em : m1 = m2 := Option.some.inj (em1.symm.trans em2)
      subst em
      have eq' : vs1[i] = q := by rw [List.getElem?_eq_getElem j1] at eq; exact Option.some.inj eq
      have ev : valV kvs' (Sum.inr m1.1) = some (.ref t2) := val_at (i := i) nd2 (by
        rw [List.getElem?_eq_getElem (by omega)]
        exact congrArg some (Prod.ext f2 g2))
      obtain ⟨y, hy, ry⟩ := RelO.some_of (v := .ref t2) (o := valueAt vs2 (Sum.inr m1.1)) (by rw [← ev]; exact rel2.val _)
      cases ry
      have er : q.2 = .ref t1 := by
        have h5 := hq.2
        rw [g1] at h5
        exact (show q.2 = Value.ref t1 from h5)
      rw [eq']
      obtain ⟨qk, qv⟩ := q
      have ek : qk = Sum.inr m1.1 := hq.1.symm.trans f1
      have er' : qv = .ref t1 := er
      subst ek er'
      exact PySem.W.KeqHits.hit (e := true) (b := true) hy (eqAt_tupK (ks := [Sum.inr m1.2.1, Sum.inl m1.2.2]) (by show A.units + 1 < cLine; exact hu) I k1 k2) (ih (i + 1) (by omega) (by omega))
  have h0 := hits 0 (Nat.zero_le _)
  rw [List.drop_zero] at h0
  intro E Q hq
  show wpAny _ _ (eqBool (.ref a) (.ref b)) _ _ _
  exact eqW_refs hpq (fun E Q hq => PySem.W.keq_eq (knd := mixKind X.prog X.w) hd1 hd2 dd1 dd2 (by omega) (fun _ => h0) (by
    have e5 : (vs1.length == vs2.length && true) = true := by rw [Bool.and_true, beq_iff_eq]; omega
    rw [e5]
    exact hq)) E Q hq
theorem op_neBP {n : Nat} (hn : 3 ≤ n) (hu : X.A.units + n < cLine) : OpR X (compareOp .NotEq) (fun x y H Q => ∃ (a b l1 l2 d1 d2 : Addr) (us vs : List V) (bk : List (List Key)) (pl : List (Str × Str × Int)), x = .ref a ∧ y = .ref b ∧ SqL X.K H a [.ref l1, .ref d1] ∧ SqL X.K H b [.ref l2, .ref d2] ∧ SqL X.K H l1 us ∧ RowsL H us bk ∧ SqL X.K H l2 vs ∧ RowsL H vs bk ∧ PlanAt X.K H d1 pl ∧ PlanAt X.K H d2 pl ∧ Q (.bl false) H) := by
  intro pins s σ H x y v u Q I rx ry h
  obtain ⟨a, b, l1, l2, d1, d2, us, vs, bk, pl, rfl, rfl, h1, h2, h3, h4, h5, h6, h7, h8, q⟩ := h
  cases rx
  cases ry
  obtain ⟨its, r, pt, _⟩ := I.list h1
  obtain ⟨its', r', pt', _⟩ := I.list h2
  obtain ⟨u1, u2, rfl, ru1, ru2⟩ := r.two
  obtain ⟨w1, w2, rfl, rw1, rw2⟩ := r'.two
  cases ru1
  cases ru2
  cases rw1
  cases rw2
  have k0 : EqAt X.A.in1 s (.ref l1) (.ref l2) true := eqAt_book (A := X.A.in1) (by show X.A.units + 1 + 1 < cLine; omega) I h3 h5 h4 h6
  have k1 : EqW X.prog X.w X.A.in1 s (.ref d1) (.ref d2) true := eqAt_plan (A := X.A.in1) (by show X.A.units + 1 + 1 < cLine; omega) I h7 h8
  have key : ∀ j (h1 : j < [Value.ref l1, .ref d1].toArray.size) (h2 : j < [Value.ref l2, .ref d2].toArray.size), EqW X.prog X.w X.A.in1 s [Value.ref l1, .ref d1].toArray[j] [Value.ref l2, .ref d2].toArray[j] true := fun j h1 h2 => by
    match j, h1 with
    | 0, _ => exact fun E Q hq => k0 _ _ E Q hq
    | 1, _ => exact k1
    | j + 2, h1 => exact absurd h1 (by simp)
  obtain ⟨⟨cls, dd, data, sl⟩, ho, hc, m1, hd⟩ := id pt.isList
  obtain ⟨⟨cls2, dd2, data2, sl2⟩, ho2, hc2, m2, hd2⟩ := id pt'.isList
  simp only at hc hd hc2 hd2
  subst hc hd hc2 hd2
  exact wpAny_richCompare_same_room (op := .NotEq) ⟨_, ho, rfl⟩ ⟨_, ho2, rfl⟩ F.slot_list_ne (call_meetsIn F.slot_list_ne ⟨_, ho, rfl⟩ F.entry_list_ne (F.args_list_ne_2 _ _) (list_neW a b [Value.ref l1, .ref d1].toArray [Value.ref l2, .ref d2].toArray m1 m2 dd dd2 sl sl2 rfl)
    ⟨ho, ho2, key, ⟨(fun x => nomatch x), ⟨.bl false, H, I, rfl, q⟩⟩⟩) (by omega)
end
noncomputable def PairsT (K : PySem.W.Frag) (H : Hp) : List V → List (List Key × V) → Prop := Paired fun v p => ∃ t b, v = .ref t ∧ SqT K H t [.ref b, p.2] ∧ H b = some (.tup (p.1.map kV))
noncomputable def dictOfT (ps : List (List Key × V)) : List (List Key × V) := ps.foldl (fun d p => putK d p.1 p.2) []
theorem dictOfT_snoc {ps : List (List Key × V)} {i : Nat} {p : List Key × V} (h : ps[i]? = some p) : dictOfT (ps.take (i + 1)) = putK (dictOfT (ps.take i)) p.1 p.2 := by
  unfold dictOfT
  rw [List.take_add_one, h, List.foldl_append]
  rfl
theorem dictOfT_len (ps : List (List Key × V)) : (dictOfT ps).length ≤ ps.length := by
  have key : ∀ (l : List (List Key × V)) (acc : List (List Key × V)), (l.foldl (fun d p => putK d p.1 p.2) acc).length ≤ acc.length + l.length := by
    intro l
    induction l with
    | nil => intro acc; exact Nat.le_refl _
    | cons p t ih =>
      intro acc
      have h1 := ih (putK acc p.1 p.2)
      have h2 := length_putK acc p.1 p.2
      rw [List.foldl_cons, List.length_cons]
      omega
  have := key ps []
  rwa [List.length_nil, Nat.zero_add] at this
section
variable {X : Cx}
theorem upd_loopT {pins : List (Addr × Obj)} {σ : St} {H : Hp} {d it l : Addr} {vs : List V} {ps : List (List Key × V)} {A : Around} {R : Result → Shared → Prop} (hh : A.handled = none) (hu : A.units + 1 < cLine) (hd : H d = none) (hl : SqL X.K H l vs) (hp : PairsT X.K H vs ps) (hz : ps.length < sizeLine)
    (hR : ∀ s', Inv X pins σ (upd H d (.dT (dictOfT ps))) s' → R (.ok (.ret .none)) s') :
    ∀ (k i : Nat) (s : Shared), ps.length - i = k → i ≤ ps.length → Inv X pins σ (upd H d (.dT (dictOfT (ps.take i)))) s → s.heap.IsListIter it l i → FpOk X pins (upd H d (.dT (dictOfT (ps.take i)))) it →
      codeAny (model X.prog X.w) A (.builtin "dict.update.loop" ⟨[.ref d, .ref it, rawInt i, .none], []⟩) R s := by
  intro k
  induction k with
  | zero =>
    intro i s hk hi I st f
    have ei : i = ps.length := by omega
    subst ei
    rw [List.take_length] at I f
    have sm : Same H (upd H d (.dT (dictOfT ps))) := same_new' hd _
    obtain ⟨its, r, p, _⟩ := I.list (sm.seq hl)
    have lv := Paired.length hp
    have lr := r.length
    refine codeAny_builtin entry_dul ?_
    rw [Around.under_plainId plain_dul _]
    show wpAny _ A.in1 (pyNext (.ref it) >>= _) _ _ s
    refine wpAny_bind (wpAny_pyNext_list_end (A := A.in1) hh st p.isList (by simp; omega) fun h' eb => ?_)
    refine wpAny_bind (wpAny_pure (wpAny_pure ?_))
    exact hR _ (I.turned (t' := s.toks) (fun b o hb e => eb b o hb e) f.1 f.2.1 f.2.2.2.1 f.2.2.2.2.1 f.2.2.2.2.2)
  | succ k ih =>
    intro i s hk hi I st f
    have sm : Same H (upd H d (.dT (dictOfT (ps.take i)))) := same_new' hd _
    obtain ⟨its, r, p, _⟩ := I.list (sm.seq hl)
    have lv := Paired.length hp
    have hlt : i < vs.length := by omega
    obtain ⟨pr, ep, t, b, ev, hT, hb⟩ := paired_get hp (List.getElem?_eq_getElem hlt)
    obtain ⟨u, hu', ru⟩ := r.get (List.getElem?_eq_getElem hlt)
    rw [ev] at ru
    cases ru
    refine codeAny_builtin entry_dul ?_
    rw [Around.under_plainId plain_dul _]
    show wpAny _ A.in1 (pyNext (.ref it) >>= _) _ _ s
    refine wpAny_bind (wpAny_pyNext_list_item st p.isList (x := .ref t) (by simpa using hu') fun h' st' sb => ?_)
    have I1 : Inv X pins σ (upd H d (.dT (dictOfT (ps.take i)))) { s with heap := h' } := I.turned (t' := s.toks) (fun b o hb e => (sb.2 b hb).trans e) f.1 f.2.1 f.2.2.2.1 f.2.2.2.2.1 f.2.2.2.2.2
    obtain ⟨its2, r2, ⟨ot, gt, ct, nt, dt⟩, _⟩ := I1.tuple (sm.tup hT)
    obtain ⟨u1, u2, rfl, ru1, ru2⟩ := r2.two
    cases ru1
    refine wpAny_bind (wpAny_holding ?_)
    refine wpAny_bind (wpAny_tryCatch ?_)
    unfold Builtin.Dict.pairItems
    refine wpAny_bind (wpAny_typeOf (T := "tuple") ⟨ot, gt, ct⟩ ?_)
    rw [if_pos (by simp)]
    refine wpAny_bind (wpAny_seqItems gt dt (wpAny_pure ?_))
    show wpAny _ _ (holding [Value.ref b, u2] (dictSet d (Value.ref b) u2)) _ _ _
    obtain ⟨z, hdS, xs, rel, dd⟩ := dt_of I1.hok (upd_same (H := H) (a := d) (o := .dT (dictOfT (ps.take i))))
    have l1 := dictOfT_len (ps.take i)
    rw [List.length_take] at l1
    have hz2 : xs.length ≤ sizeLine := by rw [← Paired.length rel]; exact z
    have eb := sm _ _ hb
    refine wpAny_holding (wpAny_dictSet_heap (hsz := hz2) (knd := tupleKind (mixKind X.prog X.w)) (k := pr.1) (by first | exact hu | exact Nat.lt_of_succ_lt hu | (show A.units + 1 < cLine; exact hu)) (key_of I1.hok eb) dd fun h2 dd' hs2 => ?_)
    obtain ⟨q, es, ep5, hq, q2, q3, q4, _, q5⟩ := dd'
    have l2 := length_putK (dictOfT (ps.take i)) pr.1 pr.2
    have I2 : Inv X pins σ (upd (upd H d (.dT (dictOfT (ps.take i)))) d (.dT (putK (dictOfT (ps.take i)) pr.1 pr.2))) { s with heap := h2, toks := s.toks + (tupleKind (mixKind X.prog X.w)).draws pr.1 } :=
      d_write (s := { s with heap := h' }) I1 (by rw [upd_same]; exact True.intro) hs2 ⟨q, hq⟩ ⟨by omega, hdS, _, (rel.put pr.1 eb ru2).keeps fun c ys ec => (by
        rw [upd_ne (ne_of ec (upd_same (H := H) (a := d) (o := .dT (dictOfT (ps.take i)))) (fun z => nomatch z))]
        exact ec), q, es, ep5, hq, q2, q3, q4, q5⟩
    rw [upd_upd, ← dictOfT_snoc ep] at I2
    have nit : it ≠ d := fun e => by have := f.1; rw [e, upd_same] at this; cases this
    refine wpAny_pure ⟨plainId_quiet plain_dul _, ?_⟩
    have ei : rawInt ((i : Int) + 1) = rawInt ((i + 1 : Nat) : Int) := by push_cast; rfl
    rw [ei]
    refine ih (i + 1) _ (by omega) (by omega) I2 (st'.at fun o e => hs2.extBut _ _ nit e) ⟨?_, f.2⟩
    have := f.1
    rw [upd_ne nit] at this ⊢
    exact this
theorem call_dict_ofT {n : Nat} (hn : 2 ≤ n) (hu : X.A.units + n < cLine) (hc : X.calm = true) : CallR X (.type "dict") (fun xs H Q => ∃ (l : Addr) (vs : List V) (ps : List (List Key × V)), xs = [.ref l] ∧ SqL X.K H l vs ∧ PairsT X.K H vs ps ∧ ps.length < sizeLine ∧ ∀ d, H d = none → Q (.ref d) (upd H d (.dT (dictOfT ps)))) := by
  intro pins s σ H xs us Q I rv h
  obtain ⟨l, vs, ps, rfl, hl, hp, hz, q⟩ := h
  obtain ⟨u, rfl, ru⟩ := rv.one
  cases ru
  refine callType_codes (Q₁ := fun obj s1 => obj = .ref s.heap.objs.size ∧ s1 = { s with heap := s.heap.push { cls := .type "dict", data := .dict #[] } }) F.kt_called_dict (F.kt_typeCall_dict_1 _) F.entry_dict_init (kt_code_dict_new _ ⟨rfl, rfl⟩) ?_
  rintro obj s1 ⟨rfl, rfl⟩
  have hd : H s.heap.objs.size = none := I.hok.fresh (Nat.le_refl _)
  have I1 : Inv X pins σ (upd H s.heap.objs.size (.dT [])) { s with heap := s.heap.push { cls := .type "dict", data := .dict #[] } } := I.laid (t' := s.toks) (fun _ _ q => Heap.get?_push_of_some _ q) (Nat.le_refl _) (dt_empty s.heap I.big)
  have sm : Same H (upd H s.heap.objs.size (.dT [])) := same_new' hd _
  obtain ⟨z, hdS, kv, rel, dd⟩ := dt_of I1.hok (upd_same (H := H) (a := s.heap.objs.size) (o := .dT []))
  refine ⟨dd.typeIs, F.args_dict_init_2 _ _, ?_⟩
  unfold Builtin.«dict.__init__»
  refine wpAny_bind ?_
  unfold Builtin.Dict.selfAndRest
  refine wpAny_bind (wpAny_notOrdered_dict dd.typeIs ?_)
  show wpAny _ _ (pure (s.heap.objs.size, [Value.ref l])) _ _ _
  refine wpAny_pure ?_
  show wpAny _ _ (Builtin.Dict.updateFrom "dict.__init__" s.heap.objs.size (.ref l) [] .none) _ _ _
  unfold Builtin.Dict.updateFrom
  obtain ⟨its, r, ⟨o, n5, e, c, dn, sl⟩, _⟩ := I1.list (sm.seq hl)
  obtain ⟨cls, dct, dat, sls⟩ := o
  simp only at c dn sl
  subst c dn sl
  refine wpAny_bind (wpAny_typeOf (T := "list") ⟨_, e, rfl⟩ ?_)
  rw [if_pos (by decide)]
  refine wpAny_bind (getAttrQ_keys (s := { s with heap := s.heap.push { cls := .type "dict", data := .dict #[] } }) e (by exact I.ok.hd hc) fun h2 tk2 hk2 => ?_)
  have I2 : Inv X pins σ (upd H s.heap.objs.size (.dT [])) { s with heap := h2, toks := tk2 } := I1.kept hk2
  rw [if_pos (by rfl)]
  refine wpAny_bind (wpAny_rule (wpAny_bind ?_))
  obtain ⟨its2, r2, p2, _⟩ := I2.list (sm.seq hl)
  refine wpAny_pyIter_list (s := { s with heap := h2, toks := tk2 }) p2.isList ?_
  refine wpAny_pure ⟨plainId_quiet plain_dul _, ?_⟩
  have I3 : Inv X pins σ (upd H s.heap.objs.size (.dT [])) { s with heap := h2.push { cls := .type "list_iterator", data := .fields #[.ref l, .int 0 0] }, toks := tk2 } := I2.kept (t' := tk2) fun b o e => Heap.get?_push_of_some _ e
  have hfr := I2.hok.fresh (a := h2.objs.size) (Nat.le_refl _)
  refine upd_loopT (X := X) (pins := pins) (σ := σ) (H := H) (vs := vs) (ps := ps) (A := X.A.in1) (by exact I.ok.hd hc) (by show X.A.units + 1 + 1 < cLine; omega) hd hl hp hz (fun s' I' => ⟨rfl, .ref s.heap.objs.size, _, I', rfl, q _ hd⟩) ps.length 0 _ (by omega) (Nat.zero_le _) I3 ⟨_, Heap.get?_push_size _ rfl, rfl, rfl⟩ (I2.fpOk (Nat.le_refl _) hfr)
theorem call_dictD : CallR X (.type "dict") (fun xs H Q => ∃ (a : Addr) (kvs : List (Key × V)), xs = [.ref a] ∧ H a = some (.dK kvs) ∧ kvs.length < sizeLine ∧ ∀ d, H d = none → Q (.ref d) (upd H d (.dK kvs))) := by
  intro pins s σ H xs us Q I rv h
  obtain ⟨a, kvs, rfl, ha, hz, q⟩ := h
  obtain ⟨u, rfl, ru⟩ := rv.one
  cases ru
  refine callType_codes (Q₁ := fun obj s1 => obj = .ref s.heap.objs.size ∧ s1 = { s with heap := s.heap.push { cls := .type "dict", data := .dict #[] } }) F.kt_called_dict (F.kt_typeCall_dict_1 _) F.entry_dict_init (kt_code_dict_new _ ⟨rfl, rfl⟩) ?_
  rintro obj s1 ⟨rfl, rfl⟩
  have hd : H s.heap.objs.size = none := I.hok.fresh (Nat.le_refl _)
  have I1 : Inv X pins σ (upd H s.heap.objs.size (.dK [])) { s with heap := s.heap.push { cls := .type "dict", data := .dict #[] } } := I.laid (t' := s.toks) (fun _ _ q => Heap.get?_push_of_some _ q) (Nat.le_refl _) (dk_empty s.heap I.big)
  have na : s.heap.objs.size ≠ a := fun z => by rw [z, ha] at hd; cases hd
  obtain ⟨z, hdS, kv, rel, dd⟩ := dk_of I1.hok (upd_same (H := H) (a := s.heap.objs.size) (o := .dK []))
  cases rel
  obtain ⟨z2, hdA, kv2, rel2, dd2⟩ := dk_of I1.hok (same_new' hd (.dK []) a _ ha)
  refine ⟨dd.typeIs, F.args_dict_init_2 _ _, ?_⟩
  unfold Builtin.«dict.__init__»
  refine wpAny_bind ?_
  unfold Builtin.Dict.selfAndRest
  refine wpAny_bind (wpAny_notOrdered_dict dd.typeIs ?_)
  show wpAny _ _ (pure (s.heap.objs.size, [Value.ref a])) _ _ _
  refine wpAny_pure ?_
  show wpAny _ _ (Builtin.Dict.updateFrom "dict.__init__" s.heap.objs.size (.ref a) [] .none) _ _ _
  unfold Builtin.Dict.updateFrom
  refine wpAny_bind (wpAny_typeOf dd2.typeIs ?_)
  rw [if_neg (by decide)]
  refine wpAny_bind ?_
  unfold Builtin.Dict.merge
  refine wpAny_bind ?_
  unfold Builtin.Dict.readDirectly
  refine wpAny_bind (wpAny_isInstance dd2.typeIs PySem.F.sub_dict_dict ?_)
  simp only [Bool.not_true, Bool.false_eq_true, if_false]
  refine wpAny_bind (wpAny_specialOf dd2.typeIs F.slot_dict_iter.lookup (wpAny_pure ?_))
  simp only [beq_self_eq_true, if_true]
  refine wpAny_bind (wpAny_pure ?_)
  have lz := rel2.length
  refine wpAny_mergeDict (hsz := by rw [List.length_nil]; omega) na hdA dd dd2 fun h' hd' ho' hs' => ?_
  show wpAny _ _ (Builtin.Dict.addKeywords s.heap.objs.size [] >>= _) _ _ _
  have nd : (kv2.map (·.1)).Nodup := by
    obtain ⟨_, _, _, _, _, _, _, _, n⟩ := id dd2
    exact n
  rw [merged_nil_of_nodup _ nd] at hd'
  have I2 : Inv X pins σ (upd (upd H s.heap.objs.size (.dK [])) s.heap.objs.size (.dK kvs)) { s with heap := h' } :=
    d_write (s := { s with heap := s.heap.push { cls := .type "dict", data := .dict #[] } }) (t' := s.toks) I1 (by rw [upd_same]; exact True.intro) hs' (let ⟨q, _, _, hq, _⟩ := hd'; ⟨q, hq⟩) (dk_new (by omega) hdS rel2 hd')
  rw [upd_upd] at I2
  exact wpAny_bind (wpAny_pure (wpAny_pure ⟨rfl, .ref s.heap.objs.size, _, I2, rfl, q _ hd⟩))
end
end L2
namespace L2
open PySem PySem.Spec PyProof.Rows PySem.W
open Att in
section
variable {prog : Program} {w : World} {A : Around} {R : Result → Shared → Prop} {I : Addr} {fp wr : List Addr} {n : Nat} {P : Nat → Value → Prop} {St : Nat → Heap → Prop}
end
section
variable {prog : Program} {w : World} {A : Around} {E : Value → Shared → Prop} {s : Shared} {l : Addr} {xs : Array (Int × Tok)}
end
section
variable {X : Cx}
end
end L2
namespace L2
open PySem PySem.Spec PySem.Calls PyProof.Rows PySem.W
section
variable {P : Program} {w : World} {K : PySem.W.Frag} {mg : Str → Option Value} {base : Heap} {N : List Str} {qual : Str} {scope : Scope} {f : Addr} {cd : Value} {A : Around} {outer : List Env} {s₀ : Shared} {H₀ : Hp} {E : XK} {C : Addr}
  {pins : List (Addr × Obj)} {σ : St} {H : Hp} {s : Shared}
end
end L2
namespace L2
open PySem PySem.Spec PySem.Calls PyProof.Rows PySem.W
section
variable {X : Cx} {pins : List (Addr × Obj)} {σ : St} {H H' : Hp} {s : Shared} {e : Addr}
end
section
variable {X : Cx} {k : Nat} {f C D : Addr} {fd : FuncData} {ps : List Str} {sp : Sp} {g x n c : Str} {p np pc pn cpos epos hpos apos pos : Pos} {a : Expr} {es : List Expr} {t : TA} {i j : Nat}
end
end L2
namespace L2
open PySem PySem.Spec PySem.Calls PyProof.Rows PySem.W
section
variable {prog : Program} {w : World} {A : Around} {E : Value → Shared → Prop} {h : Heap} {g : Array GenState} {d : Drawn} {t : Nat} {os : OsState} {a C : Addr} {o : Obj} {K : Frag}
open Builtin Builtin.ObjectAttr Builtin.Getset_descriptor in
end
end L2
namespace L2
open PySem PySem.Spec PySem.Calls PyProof.Rows PySem.W
section
variable {X : Cx}
end
noncomputable def Big (i : Int) : Prop := i.natAbs < 2 ^ 4000
section
variable {X : Cx}
theorem op_fdivG : OpR X (binaryOp .FloorDiv) (rI (fun _ j => j ≠ 0 ∧ Big j) fun i j => .int (i.fdiv j)) := opI fun i j _ _ _ _ _ hc q => floordiv_int hc.1 q (.inl (PyProof.noPylong_of_log2 (Nat.lt_of_lt_of_le ((Nat.log2_lt (by have := hc.1; omega)).mpr hc.2) (by decide))))
end
section
variable {P : Program} {w : World} {K : PySem.W.Frag} {mg : Str → Option Value} {base : Heap} {N : List Str} {qual : Str} {scope : Scope} {f : Addr} {cd : Value} {A : Around} {outer : List Env} {s₀ : Shared} {H₀ : Hp} {E : XK} {C : Addr}
end
end L2
namespace L2
open PySem PySem.Spec PySem.Calls PyProof.Rows PySem.W
end L2
namespace L2
open PySem PySem.Spec PyProof.Rows
section
variable {X : Cx}
end
end L2
namespace L2
open PySem PySem.Spec PyProof.Rows
noncomputable def rCatG (K : PySem.W.Frag) : R2 := fun x y H Q => ∃ a b xs ys, x = .ref a ∧ y = .ref b ∧ SqT K H a xs ∧ SqT K H b ys ∧ ys ≠ [] ∧ xs.length + ys.length ≤ sizeLine ∧ ∀ (p : Addr) (H' : Hp), Same H H' → SqT K H' p (xs ++ ys) → Q (.ref p) H'
theorem op_catG {X : Cx} : OpR X (binaryOp .Add) (rCatG X.K) := by
  intro pins s σ H x y v u Q I rx ry h
  obtain ⟨a, b, xs, ys, rfl, rfl, ha, hb, hy, hz, q⟩ := h
  by_cases hx : xs = []
  · subst hx
    cases rx
    cases ry
    obtain ⟨its, r1, p1, _⟩ := I.tuple ha
    obtain ⟨its2, r2, p2, _⟩ := I.tuple hb
    have e0 : its = [] := r1.nil_iff.mpr rfl
    subst e0
    obtain ⟨⟨c1, d1, da1, sl1⟩, ho, hc, n, hd⟩ := id p1
    obtain ⟨⟨c2, d2, da2, sl2⟩, ho2, hc2, n2, hd2⟩ := id p2
    simp only at hc hd hc2 hd2
    subst hc hd hc2 hd2
    exact concat_meets ⟨_, ho, rfl⟩ ⟨_, ho2, rfl⟩ noFill_tuple_add seq_tuple_add PySem.F.slot_tuple_add PySem.F.entry_tuple_add (PySem.F.args_tuple_add_2 _ _) (tuple_addW0 a b ([] : List Value).toArray its2.toArray n n2 d1 d2 sl1 sl2 (by simp)) ⟨ho, ho2, ⟨.ref b, H, I, rfl, q b H (Same.refl H) hb⟩⟩
  · exact op_catT pins s σ H (.ref a) (.ref b) v u Q I rx ry ⟨a, b, xs, ys, rfl, rfl, ha, hb, hx, hz, fun z => absurd z hy, fun _ p hp => q p _ (same_new' hp _) (sqT_new upd_same)⟩
theorem op_catGK {X : Cx} {K : PySem.W.Frag} (hK : X.K = K) : OpR X (binaryOp .Add) (rCatG K) := by subst hK; exact op_catG
end L2
namespace L2
open PySem PySem.W PyProof.Rows
section
variable {r : Nat → Int} {n : Nat}
end
end L2
namespace L2
open PySem PySem.Spec PySem.W PyProof.Rows
open PySem.SeqAt
section
variable {prog : Program} {w : World} {A : Around} {E : Value → Shared → Prop} {s : Shared}
end
section
variable {prog : Program} {w : World} {A : Around} {E : Value → Shared → Prop} {s : Shared}
end
end L2
namespace L2
open PySem PySem.Spec PySem.W PyProof.Rows
open PySem.SeqAt
section
variable {prog : Program} {w : World} {A : Around} {E : Value → Shared → Prop} {s : Shared}
end
section
variable {X : Cx}
end
end L2
namespace L2
open PySem PySem.Spec PyProof.Rows PySem.W
structure Tab (w : World) (K : Frag) (mg : Str → Option Value) (x : Str) (a : Addr) (f : Str → Option Value) : Prop where
  bound : mg x = some (.ref a)
  map : ∀ (P : Program) (h : Heap), K.In h → h.MapOf (strKind P w) a f
  low : (a == sysModules) = false
theorem tab_mk {w : World} {K : Frag} {mg : Str → Option Value} {x : Str} {a : Addr} {es : Array DictEntry} {n : Nat} (hb : mg x = some (.ref a)) (hl : K.lookup a = some ⟨.type "dict", none, .dict es n, #[]⟩) (hk : KeysLit w.params es.toList) (lo : (a == sysModules) = false) :
    Tab w K mg x a (fun k => findBy Value.isStrOf es k) := ⟨hb, fun P h X => mapOf_K (prog := P) X hl hk, lo⟩
noncomputable def rTab (a : Addr) (f : Str → Option Value) : R2 := fun x y H Q => ∃ s v z, x = .ref a ∧ y = .str s ∧ f s = some v ∧ RelV z v ∧ Q z H
section
variable {X : Cx}
theorem ix_tab {x : Str} {a : Addr} {f : Str → Option Value} (T : Tab X.w X.K X.mg x a f) : IxR X (rTab a f) := by
  intro value slice pins s σ H x y v u Q I rx ry h hs
  obtain ⟨z, w', r, rfl, rfl, hf, rv, q⟩ := h
  cases rx
  obtain ⟨t, rfl⟩ := ry
  have hm := T.map X.prog _ I.kIn
  exact tail_any hm.typeIs slot_dict_getitem.lookup (wpAny_getItem_of (strKind_is X.prog X.w z t) hm hf ⟨r, H, I.tok _, rv, q⟩) hs
end
end L2
namespace L2
open PySem PySem.Spec PySem.W PyProof.Rows
open PySem.SeqAt
section
variable {A : Around} {s : Shared}
end
section
variable {X : Cx}
open Classical in
open Classical in
end
end L2
namespace L2
open PySem PySem.Spec PySem.W PyProof.Rows
open PySem.SeqAt
section
variable {X : Cx}
open Classical in
end
end L2
namespace HT
open PySem PySem.Spec PyProof.Rows
section
variable {prog : Program} {w : World} {A : Around} {E : Value → Shared → Prop} {s : Shared}
end
end HT
namespace L2
open PySem PySem.Spec PySem.W PyProof.Rows
open PySem.SeqAt
section
variable {X : Cx}
end
end L2
namespace L2
open PySem
section
variable {X : Cx}
end
end L2
namespace L2
open PySem PySem.Spec PyProof.Rows
section
variable {X : Cx}
theorem lenS {α : Type} {l : List α} {n : Nat} (h : l.length = n + 1) : ∃ a t, l = a :: t ∧ t.length = n := by
  cases l with
  | nil => exact absurd h (Nat.succ_ne_zero n).symm
  | cons a t => exact ⟨a, t, rfl, Nat.succ.inj h⟩
theorem len1 {α : Type} {l : List α} (h : l.length = 1) : ∃ a, l = [a] := by
  obtain ⟨a, t, rfl, h'⟩ := lenS h
  exact ⟨a, congrArg _ (List.length_eq_zero_iff.mp h')⟩
theorem len2 {α : Type} {l : List α} (h : l.length = 2) : ∃ a b, l = [a, b] := by
  obtain ⟨a, t, rfl, h'⟩ := lenS h
  obtain ⟨b, rfl⟩ := len1 h'
  exact ⟨a, b, rfl⟩
theorem len3 {α : Type} {l : List α} (h : l.length = 3) : ∃ a b c, l = [a, b, c] := by
  obtain ⟨a, t, rfl, h'⟩ := lenS h
  obtain ⟨b, c, rfl⟩ := len2 h'
  exact ⟨a, b, c, rfl⟩
theorem bind1 {F : List Value → Prop} (h : ∀ a, F [a]) : ∀ us : List Value, us.length = 1 → F us := fun us hl => by
  obtain ⟨a, rfl⟩ := len1 hl
  exact h a
theorem bind2 {F : List Value → Prop} (h : ∀ a b, F [a, b]) : ∀ us : List Value, us.length = 2 → F us := fun us hl => by
  obtain ⟨a, b, rfl⟩ := len2 hl
  exact h a b
theorem bind3 {F : List Value → Prop} (h : ∀ a b c, F [a, b, c]) : ∀ us : List Value, us.length = 3 → F us := fun us hl => by
  obtain ⟨a, b, c, rfl⟩ := len3 hl
  exact h a b c
theorem seq_let3 {s1 s2 s3 : TS} {D : Ends} {σ : St} {H : Hp} (h : let r3 : TS := s3; let r2 : TS := tSeq s2 r3; tSeq s1 r2 D σ H) : (tSeq s1 (tSeq s2 (s3))) D σ H := h
theorem seq_let4 {s1 s2 s3 s4 : TS} {D : Ends} {σ : St} {H : Hp} (h : let r4 : TS := s4; let r3 : TS := tSeq s3 r4; let r2 : TS := tSeq s2 r3; tSeq s1 r2 D σ H) : (tSeq s1 (tSeq s2 (tSeq s3 (s4)))) D σ H := h
theorem seq_let5 {s1 s2 s3 s4 s5 : TS} {D : Ends} {σ : St} {H : Hp} (h : let r5 : TS := s5; let r4 : TS := tSeq s4 r5; let r3 : TS := tSeq s3 r4; let r2 : TS := tSeq s2 r3; tSeq s1 r2 D σ H) : (tSeq s1 (tSeq s2 (tSeq s3 (tSeq s4 (s5))))) D σ H := h
theorem seq_let6 {s1 s2 s3 s4 s5 s6 : TS} {D : Ends} {σ : St} {H : Hp} (h : let r6 : TS := s6; let r5 : TS := tSeq s5 r6; let r4 : TS := tSeq s4 r5; let r3 : TS := tSeq s3 r4; let r2 : TS := tSeq s2 r3; tSeq s1 r2 D σ H) : (tSeq s1 (tSeq s2 (tSeq s3 (tSeq s4 (tSeq s5 (s6)))))) D σ H := h
theorem seq_let7 {s1 s2 s3 s4 s5 s6 s7 : TS} {D : Ends} {σ : St} {H : Hp} (h : let r7 : TS := s7; let r6 : TS := tSeq s6 r7; let r5 : TS := tSeq s5 r6; let r4 : TS := tSeq s4 r5; let r3 : TS := tSeq s3 r4; let r2 : TS := tSeq s2 r3; tSeq s1 r2 D σ H) : (tSeq s1 (tSeq s2 (tSeq s3 (tSeq s4 (tSeq s5 (tSeq s6 (s7))))))) D σ H := h
end
end L2
namespace L2
open PySem PySem.Spec PyProof.Rows PySem.W
section
variable {prog : Program} {w : World} {A : Around} {R : Result → Shared → Prop} {I : Addr} {fp wr : List Addr} {n : Nat} {P : Nat → Value → Prop} {St : Nat → Heap → Prop}
end
section
variable {prog : Program} {w : World} {A : Around} {E : Value → Shared → Prop} {s : Shared} {l : Addr} {xs : Array (Int × Tok)}
end
section
variable {X : Cx}
end
section
variable {X : Cx}
end
end L2
namespace Nb
open PySem L2
noncomputable def top (i : Nat) : Stmt := PySem.Challenge.pw_nonebetter_k60_costs_of_plans.main.body.getD i (.Pass ⟨0, 0, 0, 0⟩)
noncomputable abbrev sBlock : Stmt := top 12
noncomputable abbrev sMixed : Stmt := top 13
noncomputable abbrev sWhole : Stmt := top 11
inductive BR where
  | days (n : Int)
  | bench (b : Str) (r : Int)
  | shut (b : Str) (f t : Int)
  | store (s : Str) (m f : Int)
  | work (w : Str)
  | way (w v : Str) (l c : Int)
  | use (k : Fin 3) (w v t : Str) (m : Int)
  | after (w x : Str) (g : Int)
  | late (w : Str) (d c : Int)
noncomputable def useW : Fin 3 → Str
  | 0 => "uses"
  | 1 => "takes"
  | 2 => "gives"
noncomputable def BR.word : BR → Str
  | .days _ => "days"
  | .bench _ _ => "bench"
  | .shut _ _ _ => "shut"
  | .store _ _ _ => "store"
  | .work _ => "work"
  | .way _ _ _ _ => "way"
  | .use k _ _ _ _ => useW k
  | .after _ _ _ => "after"
  | .late _ _ _ => "late"
noncomputable def BR.names : BR → List Str
  | .days _ => []
  | .bench b _ => [b]
  | .shut b _ _ => [b]
  | .store s _ _ => [s]
  | .work w => [w]
  | .way w v _ _ => [w, v]
  | .use _ w v t _ => [w, v, t]
  | .after w x _ => [w, x]
  | .late w _ _ => [w]
noncomputable def BR.nums : BR → List Int
  | .days n => [n]
  | .bench _ r => [r]
  | .shut _ f t => [f, t]
  | .store _ m f => [m, f]
  | .work _ => []
  | .way _ _ l c => [l, c]
  | .use _ _ _ _ m => [m]
  | .after _ _ g => [g]
  | .late _ d c => [d, c]
noncomputable def BR.key (r : BR) : List Key := Sum.inr r.word :: r.names.map Sum.inr
noncomputable def BR.cells (r : BR) : List Key := r.key ++ r.nums.map Sum.inl
noncomputable def BR.own : BR → List Str
  | .work w => [w]
  | .way w _ _ _ => [w]
  | .use _ w _ _ _ => [w]
  | .after w x _ => [w, x]
  | .late w _ _ => [w]
  | _ => []
noncomputable def BR.ok (n : Int) : BR → Prop
  | .days m => m = n
  | .bench _ r => 0 ≤ r ∧ r ≤ 99
  | .shut _ f t => 0 ≤ f ∧ f < t ∧ t ≤ n
  | .store _ m f => 0 ≤ f ∧ f ≤ m ∧ m ≤ 999
  | .work _ => True
  | .way _ _ l c => 1 ≤ l ∧ l ≤ n ∧ 0 ≤ c ∧ c ≤ 999999
  | .use _ _ _ _ m => 1 ≤ m ∧ m ≤ 99
  | .after w x g => w ≠ x ∧ 0 ≤ g ∧ g ≤ n
  | .late _ d c => 0 ≤ d ∧ d ≤ n ∧ 1 ≤ c ∧ c ≤ 999
noncomputable def Apart (r q : BR) : Prop := r.word = "shut" ∨ q.word = "shut" ∨ r.key ≠ q.key
theorem Apart.symm {r q : BR} (h : Apart r q) : Apart q r := by
  rcases h with h | h | h
  · exact .inr (.inl h)
  · exact .inl h
  · exact .inr (.inr h.symm)
theorem apart_word {r q : BR} (h : r.word ≠ q.word) : Apart r q := .inr (.inr fun z => h (by injection z with z1; injection z1))
structure WB (n : Int) (B : List BR) : Prop where
  ok : ∀ r ∈ B, r.ok n
  nd : B.Pairwise Apart
  ref : ∀ r ∈ B, ∀ w ∈ r.own, BR.work w ∈ B
  len : B.length ≤ 400
theorem WB.perm {n : Int} {B C : List BR} (h : WB n B) (p : B.Perm C) : WB n C :=
  ⟨fun r hr => h.ok r (p.mem_iff.mpr hr), (p.pairwise_iff Apart.symm).mp h.nd, fun r hr w hw => p.mem_iff.mp (h.ref r (p.mem_iff.mpr hr) w hw), by rw [← p.length_eq]; exact h.len⟩
noncomputable def BR.kind : BR → Nat
  | .days _ => 0
  | .bench _ _ => 1
  | .shut _ _ _ => 2
  | .store _ _ _ => 3
  | .work _ => 4
  | .way _ _ _ _ => 5
  | .use k _ _ _ _ => 6 + k.val
  | .after _ _ _ => 9
  | .late _ _ _ => 10
noncomputable def wordOf : Nat → Str
  | 0 => "days"
  | 1 => "bench"
  | 2 => "shut"
  | 3 => "store"
  | 4 => "work"
  | 5 => "way"
  | 6 => "uses"
  | 7 => "takes"
  | 8 => "gives"
  | 9 => "after"
  | _ => "late"
theorem word_of (r : BR) : r.word = wordOf r.kind := by
  cases r with
  | use k _ _ _ _ => match k with | 0 => rfl | 1 => rfl | 2 => rfl
  | _ => rfl
theorem kind_lt (r : BR) : r.kind < 11 := by
  cases r with
  | use k _ _ _ _ => show 6 + k.val < 11; omega
  | days n => show (0 : Nat) < 11; decide
  | bench b r => show (1 : Nat) < 11; decide
  | shut b f t => show (2 : Nat) < 11; decide
  | store b m f => show (3 : Nat) < 11; decide
  | work w => show (4 : Nat) < 11; decide
  | way w v l c => show (5 : Nat) < 11; decide
  | after w x g => show (9 : Nat) < 11; decide
  | late w d c => show (10 : Nat) < 11; decide
theorem wordOf_inj : ∀ i, i < 11 → ∀ j, j < 11 → wordOf i = wordOf j → i = j := by decide +kernel
theorem word_iff (r : BR) {k : Nat} (hk : k < 11) : r.word = wordOf k ↔ r.kind = k := ⟨fun h => wordOf_inj _ (kind_lt r) _ hk (by rw [← word_of]; exact h), fun h => by rw [word_of, h]⟩
theorem apart_kind {r q : BR} (h : r.kind ≠ q.kind) : Apart r q := apart_word fun z => h (wordOf_inj _ (kind_lt r) _ (kind_lt q) (by rw [← word_of, ← word_of]; exact z))
theorem kind_way {r : BR} (h : r.kind = 5) : ∃ w v l c, r = .way w v l c := by
  cases r with
  | way w v l c => exact ⟨w, v, l, c, rfl⟩
  | use k _ _ _ _ => exact absurd (show 6 + k.val = 5 from h) (by omega)
  | _ => exact nomatch h
theorem kind_work {r : BR} (h : r.kind = 4) : ∃ w, r = .work w := by
  cases r with
  | work w => exact ⟨w, rfl⟩
  | use k _ _ _ _ => exact absurd (show 6 + k.val = 4 from h) (by omega)
  | _ => exact nomatch h
theorem kind_late {r : BR} (h : r.kind = 10) : ∃ w d c, r = .late w d c := by
  cases r with
  | late w d c => exact ⟨w, d, c, rfl⟩
  | use k _ _ _ _ => exact absurd (show 6 + k.val = 10 from h) (by omega)
  | _ => exact nomatch h
theorem word_way {r : BR} (h : r.word = "way") : ∃ w v l c, r = .way w v l c := kind_way ((word_iff r (k := 5) (by decide)).mp h)
theorem word_work {r : BR} (h : r.word = "work") : ∃ w, r = .work w := kind_work ((word_iff r (k := 4) (by decide)).mp h)
theorem word_late {r : BR} (h : r.word = "late") : ∃ w d c, r = .late w d c := kind_late ((word_iff r (k := 10) (by decide)).mp h)
noncomputable def fl (x : Str) : Nat := x.cps.getD 0 0
noncomputable def RowsB (H : Hp) (vs : List V) (B : List BR) : Prop := RowsL H vs (B.map BR.cells)
theorem at_word (r : BR) : atI (r.cells.map kV) 0 = some (.str r.word) := by cases r <;> rfl
theorem RowsB.get {H : Hp} {vs : List V} {B : List BR} (h : RowsB H vs B) {i : Nat} {v : V} (e : vs[i]? = some v) : ∃ r l, B[i]? = some r ∧ v = .ref l ∧ H l = some (.lst (r.cells.map kV)) := by
  obtain ⟨ks, e1, l, e2, h1⟩ := paired_get h e
  rw [List.getElem?_map] at e1
  obtain ⟨r, e3, e4⟩ := Option.map_eq_some_iff.mp e1
  exact ⟨r, l, e3, e2, by rw [e4]; exact h1⟩
theorem RowsB.imp {H H' : Hp} {vs : List V} {B : List BR} (h : RowsB H vs B) (f : ∀ l (r : BR), V.ref l ∈ vs → H l = some (.lst (r.cells.map kV)) → H' l = some (.lst (r.cells.map kV))) : RowsB H' vs B := by
  unfold RowsB at h ⊢
  induction B generalizing vs with
  | nil => cases h; exact .nil
  | cons r B ih =>
    cases h with
    | cons z t =>
      obtain ⟨l, e, h1⟩ := z
      exact .cons ⟨l, e, f l r (by rw [e]; exact List.mem_cons_self) h1⟩ (ih t fun l r hm => f l r (List.mem_cons_of_mem _ hm))
theorem RowsB.same {H H' : Hp} {vs : List V} {B : List BR} (h : RowsB H vs B) (s : Same H H') : RowsB H' vs B := h.imp fun _ _ _ z => s _ _ z
theorem RowsB.length {H : Hp} {vs : List V} {B : List BR} (h : RowsB H vs B) : vs.length = B.length := by
  have := Paired.length h
  rwa [List.length_map] at this
theorem RowsB.snoc {H : Hp} {vs : List V} {B : List BR} {r : BR} {l : Addr} (h : RowsB H vs B) (z : H l = some (.lst (r.cells.map kV))) : RowsB H (vs ++ [.ref l]) (B ++ [r]) := by
  unfold RowsB at h ⊢
  rw [List.map_append]
  exact Paired.snoc h ⟨l, rfl, z⟩
theorem paired_app {α β : Type} {R : α → β → Prop} {xs xs' : List α} {ys ys' : List β} (h1 : Paired R xs ys) (h2 : Paired R xs' ys') : Paired R (xs ++ xs') (ys ++ ys') := by
  induction h1 with
  | nil => exact h2
  | cons z _ ih => exact .cons z ih
theorem RowsB.app {H : Hp} {vs vs' : List V} {B B' : List BR} (h : RowsB H vs B) (h' : RowsB H vs' B') : RowsB H (vs ++ vs') (B ++ B') := by
  unfold RowsB at h h' ⊢
  rw [List.map_append]
  exact paired_app h h'
theorem paired_take {α β : Type} {R : α → β → Prop} : ∀ {xs : List α} {ys : List β} (n : Nat), Paired R xs ys → Paired R (xs.take n) (ys.take n)
  | _, _, 0, _ => .nil
  | _, _, _ + 1, .nil => .nil
  | _, _, n + 1, .cons z t => .cons z (paired_take n t)
theorem paired_drop {α β : Type} {R : α → β → Prop} : ∀ {xs : List α} {ys : List β} (n : Nat), Paired R xs ys → Paired R (xs.drop n) (ys.drop n)
  | _, _, 0, h => h
  | _, _, _ + 1, .nil => .nil
  | _, _, n + 1, .cons _ t => paired_drop n t
theorem RowsB.take {H : Hp} {vs : List V} {B : List BR} (n : Nat) (h : RowsB H vs B) : RowsB H (vs.take n) (B.take n) := by
  unfold RowsB at h ⊢
  rw [List.map_take]
  exact paired_take n h
theorem RowsB.drop {H : Hp} {vs : List V} {B : List BR} (n : Nat) (h : RowsB H vs B) : RowsB H (vs.drop n) (B.drop n) := by
  unfold RowsB at h ⊢
  rw [List.map_drop]
  exact paired_drop n h
noncomputable def NoRow (ys : List V) : Prop := ∀ s r, ys ≠ V.str s :: r
theorem RowsB.noRow {H : Hp} {vs : List V} {B : List BR} (h : RowsB H vs B) : NoRow vs := fun s r e => by
  subst e
  obtain ⟨_, _, _, e, _⟩ := h.get (i := 0) (v := .str s) rfl
  cases e
theorem cells_ne {ys : List V} (h : NoRow ys) (r : BR) : r.cells.map kV ≠ ys := fun e => h r.word (r.cells.map kV).tail (by rw [← e]; cases r <;> rfl)
theorem RowsB.updL {H : Hp} {vs : List V} {B : List BR} {g : Addr} {ys zs : List V} (h : RowsB H vs B) (hg : H g = some (.lst ys)) (n : NoRow ys) : RowsB (upd H g (.lst zs)) vs B := h.imp fun l r _ z => by
  rw [upd_ne (ne_of z hg fun e => cells_ne n r (HO.lst.inj e))]
  exact z
section
variable {P : Program} {w : World} {K : PySem.W.Frag} {mg : Str → Option Value} {base : Heap}
theorem scBlock : FnScope ["_law_script", "_law_k", "_law_cell", "_law_j"] ["_law_script", "_law_k"] (defScope sBlock) := ⟨rfl, rfl, rfl, by decide +kernel, rfl, by decide +kernel, by decide +kernel⟩
theorem okBlock (F : Fn K mg "_law_block" sBlock) (M : Mg mg) : Cal P w K mg base 1 "_law_block" ["_law_script", "_law_k"] (spBlock K) := by
  refine cal_of F scBlock (fun _ _ _ _ _ _ => bind2 (fun _ _ => rfl)) (fun vs H Q E h => ?_) (fun f cdv A outer s H vs Q E hr h => ?_)
  · obtain ⟨a, ns, k, rfl, _⟩ := h
    rfl
  obtain ⟨a, ns, k, rfl, hS, h0, q⟩ := h
  refine ⟨_, (pss_cons (ps_set (i := 2) scBlock.nd rfl (Or.inl rfl) pe_int)
    (pss_cons (ps_if (pt_cmpR op_lt (pe_op op_add pe_int (pe_op op_mod (pe_op op_fdiv (pv 1) pe_int) pe_int)) (pe_callB call_len_seq rfl M.len bt_len (pa_cons (pv 0) pa_nil)) (nomark _)) (pss_one (ps_set (i := 2) scBlock.nd rfl (Or.inl rfl) (pe_op op_fdivB (pe_ix ix_list (pv 0) (pe_op op_add pe_int (pe_op op_mod (pe_op op_fdiv (pv 1) pe_int) pe_int)) (fun _ _ => rfl)) (pe_op op_pow pe_int pe_int)))) pss_nil)
    (pss_cons (ps_for PassesOwn.never rfl (pi_range1 rfl M.range_ (pa_cons (pe_op op_mod (pv 1) pe_int) pa_nil)) (pg_name (i := 3) scBlock.nd rfl (Or.inl rfl) (Or.inl rfl)) (pss_one (ps_set (i := 2) scBlock.nd rfl (Or.inl rfl) (pe_op op_fdivB (pv 2) pe_int))))
    (pss_one (ps_ret (pv 2)))))), ?_⟩
  refine seq_let4 ?_
  intro rT4 rT3 rT2
  refine ⟨_, rfl, _, _, rfl, rfl, ⟨by decide, by decide⟩, _, _, rfl, rfl, (by show (0 : Int) < _; decide +kernel), _, _, rfl, rfl, _, rfl, _, _, rfl, .inl hS, _, _, rfl, rfl, _, rfl, ?_⟩
  refine ite2 (fun c => ?_) (fun c => ?_)
  · obtain ⟨v, hv⟩ := atNs (k := 1 + k / 8 % 62) (by omega) (of_decide_eq_true c)
    refine ⟨_, rfl, _, rfl, _, _, rfl, rfl, ⟨by decide, by decide⟩, _, _, rfl, rfl, (by show (0 : Int) < _; decide +kernel), _, _, rfl, rfl, _, _, _, _, rfl, rfl, hS, hv, _, _, rfl, rfl, ⟨by decide, by decide, by decide⟩, _, _, rfl, rfl, ⟨by decide +kernel, by decide +kernel⟩, ?_⟩
    refine ⟨_, rfl, _, _, rfl, rfl, (by show (0 : Int) < _; decide +kernel), k % 8, rfl, by omega, by omega, for_range (lo := 0) (n := (k % 8).toNat) (fun i σ H' => H' = H ∧ ∃ (z : Int) (v : Option V), σ = [some (.ref a), some (.int k), some (.int z), v]) ⟨rfl, _, _, rfl⟩ ?_ ?_⟩
    · rintro i σ H' hi ⟨rfl, z, v, rfl⟩
      exact ⟨_, rfl, _, _, rfl, rfl, ⟨by decide +kernel, by decide +kernel⟩, rfl, _, _, rfl⟩
    · rintro σ H' ⟨rfl, z, v, rfl⟩
      exact ⟨_, rfl, q z⟩
  · refine ⟨_, rfl, _, _, rfl, rfl, (by show (0 : Int) < _; decide +kernel), k % 8, rfl, by omega, by omega, for_range (lo := 0) (n := (k % 8).toNat) (fun i σ H' => H' = H ∧ ∃ (z : Int) (v : Option V), σ = [some (.ref a), some (.int k), some (.int z), v]) ⟨rfl, _, _, rfl⟩ ?_ ?_⟩
    · rintro i σ H' hi ⟨rfl, z, v, rfl⟩
      exact ⟨_, rfl, _, _, rfl, rfl, ⟨by decide +kernel, by decide +kernel⟩, rfl, _, _, rfl⟩
    · rintro σ H' ⟨rfl, z, v, rfl⟩
      exact ⟨_, rfl, q z⟩
theorem scMixed : FnScope ["_law_script", "_law_k", "_law_cell", "_law_number"] ["_law_script", "_law_k"] (defScope sMixed) := ⟨rfl, rfl, rfl, by decide +kernel, rfl, by decide +kernel, by decide +kernel⟩
theorem okMixed (F : Fn K mg "_law_mixed" sMixed) (M : Mg mg) (cl_block : Cal P w K mg base 1 "_law_block" ["_law_script", "_law_k"] (spBlock K)) : Cal P w K mg base 2 "_law_mixed" ["_law_script", "_law_k"] (spMixed K) := by
  refine cal_of F scMixed (fun _ _ _ _ _ _ => bind2 (fun _ _ => rfl)) (fun vs H Q E h => ?_) (fun f cdv A outer s H vs Q E hr h => ?_)
  · obtain ⟨a, ns, k, rfl, _⟩ := h
    rfl
  obtain ⟨a, ns, k, rfl, hS, h0, h1, q⟩ := h
  refine ⟨_, (pss_cons (ps_set (i := 2) scMixed.nd rfl (Or.inl rfl) pe_int)
    (pss_cons (ps_if (pt_cmpR op_gt (pe_callB call_len_seq rfl M.len bt_len (pa_cons (pv 0) pa_nil)) pe_int (nomark _)) (pss_one (ps_set (i := 2) scMixed.nd rfl (Or.inl rfl) (pe_ix ix_list (pv 0) pe_int (fun _ _ => rfl)))) pss_nil)
    (pss_cons (ps_if (PW.pt (pw_and (pt_cmpR op_eq (pe_op op_mod (pe_op op_fdiv (pv 2) (pe_op op_pow pe_int pe_int)) pe_int) pe_int (nomark _)) (pw_and1 (pt_cmpR op_ne (pe_fn cl_block (hr.mono (by decide)) (pa_cons (pv 0) (pa_cons (pv 1) pa_nil))) pe_int (nomark _))))) (pss_one (ps_ret (pe_op op_mod (pe_fn cl_block (hr.mono (by decide)) (pa_cons (pv 0) (pa_cons (pv 1) pa_nil))) pe_int))) pss_nil)
    (pss_cons (ps_if (pt_cmpR op_gt (pe_callB call_len_seq rfl M.len bt_len (pa_cons (pv 0) pa_nil)) pe_int (nomark _)) (pss_one (ps_set (i := 2) scMixed.nd rfl (Or.inl rfl) (pe_ix ix_list (pv 0) (pe_op op_mod (pv 1) (pe_callB (call_min2 rfl) rfl M.min bt_min (pa_cons pe_int (pa_cons (pe_callB call_len_seq rfl M.len bt_len (pa_cons (pv 0) pa_nil)) pa_nil)))) (fun _ _ => rfl)))) pss_nil)
    (pss_cons (ps_set (i := 3) scMixed.nd rfl (Or.inl rfl) (pe_op op_add (pe_op op_mod (pv 2) (pe_op op_pow pe_int pe_int)) (pe_op op_mul pe_int (pe_op op_add (pv 1) pe_int))))
    (pss_cons (ps_set (i := 3) scMixed.nd rfl (Or.inl rfl) (pe_op op_add (pe_op op_mod (pe_op op_mul (pv 3) (pv 3)) pe_int) (pe_op op_mul pe_int (pv 1))))
    (pss_one (ps_ret (pe_op op_mod (pe_op op_mul (pv 3) (pv 3)) pe_int))))))))), ?_⟩
  refine seq_let7 ?_
  intro rT7 rT6 rT5 rT4 rT3 rT2
  refine ⟨_, rfl, _, _, rfl, .inl hS, _, _, rfl, rfl, _, rfl, ?_⟩
  have fin : ∀ x : Int, Q (.int (x % 2147483587)) H := fun x => q _ (Int.emod_nonneg _ (by decide)) (Int.lt_trans (Int.emod_lt_of_pos _ (by decide)) (by decide))
  refine ite2 (fun c => ?_) (fun c => ?_)
  · obtain ⟨v, hv⟩ := atNs (k := 0) (Int.le_refl 0) (of_decide_eq_true c)
    refine ⟨_, rfl, _, _, _, _, rfl, rfl, hS, hv, ?_⟩
    refine ⟨_, rfl, _, _, rfl, rfl, ⟨by decide, by decide, by decide⟩, _, _, rfl, rfl, ⟨by decide +kernel, by decide +kernel⟩, _, _, rfl, rfl, (by show (0 : Int) < _; decide +kernel), rfl, _, rfl, ?_⟩
    refine ite2 (fun c2 => ⟨_, rfl, _, rfl, a, ns, k, rfl, hS, h0, fun z => ⟨rfl, _, rfl, ite2 (fun c4 => ⟨_, rfl, _, rfl, a, ns, k, rfl, hS, h0, fun z => ⟨_, _, rfl, rfl, (by show (0 : Int) < _; decide +kernel), fin _⟩⟩) (fun c4 => ?_)⟩⟩) (fun c2 => iteF ?_)
    all_goals
      refine ⟨_, rfl, _, _, rfl, .inl hS, _, _, rfl, rfl, _, rfl, ?_⟩
      refine ite2 (fun c3 => ?_) (fun c3 => absurd c c3)
      have c' : (0 : Int) < (((ns.map V.int).length : Nat) : Int) := of_decide_eq_true c
      have pm : (0 : Int) < (if (((ns.map V.int).length : Nat) : Int) < 63 then (((ns.map V.int).length : Nat) : Int) else 63) := by split <;> omega
      have pl : (if (((ns.map V.int).length : Nat) : Int) < 63 then (((ns.map V.int).length : Nat) : Int) else 63) ≤ (((ns.map V.int).length : Nat) : Int) := by split <;> omega
      obtain ⟨v3, hv3⟩ := atNs (ns := ns) (k := k % (if (((ns.map V.int).length : Nat) : Int) < 63 then (((ns.map V.int).length : Nat) : Int) else 63)) (Int.emod_nonneg _ (Int.ne_of_gt pm)) (Int.lt_of_lt_of_le (Int.emod_lt_of_pos _ pm) pl)
      refine ⟨_, rfl, _, rfl, _, rfl, _, _, rfl, .inl hS, _, _, rfl, _, _, rfl, rfl, pm, _, _, _, _, rfl, rfl, hS, hv3, ?_⟩
      refine ⟨_, rfl, _, _, rfl, rfl, ⟨by decide, by decide, by decide⟩, _, _, rfl, rfl, (by show (0 : Int) < _; decide +kernel), _, rfl, _, _, rfl, rfl, _, _, rfl, rfl, mulC _ _ (by decide) (by decide), _, _, rfl, rfl, ?_⟩
      refine ⟨_, rfl, _, rfl, _, _, rfl, rfl, mulA _ k h0 h1 _, _, _, rfl, rfl, (by show (0 : Int) < _; decide +kernel), _, rfl, _, _, rfl, rfl, mulC _ _ (by decide) (by decide), _, _, rfl, rfl, ?_⟩
      exact ⟨_, rfl, _, rfl, _, _, rfl, rfl, mulB _ k h0 h1 _, _, _, rfl, rfl, (by show (0 : Int) < _; decide +kernel), fin _⟩
  · refine ⟨_, rfl, _, _, rfl, rfl, ⟨by decide, by decide, by decide⟩, _, _, rfl, rfl, ⟨by decide +kernel, by decide +kernel⟩, _, _, rfl, rfl, (by show (0 : Int) < _; decide +kernel), rfl, _, rfl, ?_⟩
    refine iteF (iteF ?_)
    refine ⟨_, rfl, _, _, rfl, .inl hS, _, _, rfl, rfl, _, rfl, ?_⟩
    refine ite2 (fun c3 => absurd c3 c) (fun c3 => ?_)
    refine ⟨_, rfl, _, _, rfl, rfl, ⟨by decide, by decide, by decide⟩, _, _, rfl, rfl, (by show (0 : Int) < _; decide +kernel), _, rfl, _, _, rfl, rfl, _, _, rfl, rfl, mulC _ _ (by decide) (by decide), _, _, rfl, rfl, ?_⟩
    refine ⟨_, rfl, _, rfl, _, _, rfl, rfl, mulA _ k h0 h1 _, _, _, rfl, rfl, (by show (0 : Int) < _; decide +kernel), _, rfl, _, _, rfl, rfl, mulC _ _ (by decide) (by decide), _, _, rfl, rfl, ?_⟩
    exact ⟨_, rfl, _, rfl, _, _, rfl, rfl, mulB _ k h0 h1 _, _, _, rfl, rfl, (by show (0 : Int) < _; decide +kernel), fin _⟩
theorem scWhole : FnScope ["_law_found"] ["_law_found"] (defScope sWhole) := ⟨rfl, rfl, rfl, by decide +kernel, rfl, by decide +kernel, by decide +kernel⟩
theorem okWhole (F : Fn K mg "_law_whole" sWhole) (M : Mg mg) : Cal P w K mg base 1 "_law_whole" ["_law_found"] (spWhole) := by
  refine cal_of F scWhole (fun _ _ _ _ _ _ => bind1 (fun _ => rfl)) (fun vs H Q E h => ?_) (fun f cdv A outer s H vs Q E hr h => ?_)
  · obtain ⟨z, rfl, _⟩ := h
    rfl
  obtain ⟨z, rfl, q⟩ := h
  refine ⟨_, (pss_one (ps_ret (pe_and (pe_callB call_isi rfl M.isinstance bt_isinstance (pa_cons (pv 0) (pa_cons (pe_ty M.int_ bt_int) pa_nil))) (pe_one (pe_not (pe_callB call_isi rfl M.isinstance bt_isinstance (pa_cons (pv 0) (pa_cons (pe_ty M.bool_ bt_bool) pa_nil)))))))), ?_⟩
  refine ⟨_, rfl, _, "int", true, rfl, .inl ⟨rfl, rfl⟩, true, rfl, ?_⟩
  refine iteT ⟨_, rfl, _, "bool", false, rfl, .inr (.inl ⟨rfl, rfl⟩), false, rfl, q⟩
end
end Nb
namespace Nb
open PySem L2
noncomputable abbrev sName : Stmt := top 14
theorem fl_app {x y : Str} (h : 1 ≤ x.length) : fl (x ++ y) = fl x := by
  show (x.cps ++ y.cps).getD 0 0 = x.cps.getD 0 0
  have h' : 0 < x.cps.size := h
  rw [Array.getD_eq_getD_getElem?, Array.getD_eq_getD_getElem?, Array.getElem?_append_left h']
theorem len_app (x y : Str) : (x ++ y).length = x.length + y.length := by
  show (x.cps ++ y.cps).size = _
  rw [Array.size_append]
  rfl
theorem atS {x : Str} {z : Int} (h0 : 0 ≤ z) (h1 : z < (x.length : Nat)) : ∃ c, atI x.cps.toList z = some c := by
  have e : z = ((z.toNat : Nat) : Int) := by omega
  have h2 : z.toNat < x.cps.toList.length := by
    have h3 : x.length = x.cps.toList.length := by show x.cps.size = _; exact Array.length_toList.symm
    omega
  exact ⟨_, by rw [e]; exact atI_nat (List.getElem?_eq_getElem h2)⟩
theorem letter8 {f : Int} (h0 : 0 ≤ f) (h1 : f < 8) : atI ("abcdefgh" : Str).cps.toList f = some (97 + f.toNat) := by
  rcases (show f = 0 ∨ f = 1 ∨ f = 2 ∨ f = 3 ∨ f = 4 ∨ f = 5 ∨ f = 6 ∨ f = 7 by omega) with h | h | h | h | h | h | h | h <;> (subst h; decide +kernel)
theorem len26 : ("abcdefghijklmnopqrstuvwxyz" : Str).length = 26 := by decide +kernel
theorem len8 : ("abcdefgh" : Str).length = 8 := by decide +kernel
theorem pick5 {a b c d e z : Int} : ∃ m : Int, atI [V.int a, V.int b, V.int c, V.int d, V.int e] (z % 5) = some (.int m) ∧ (m = a ∨ m = b ∨ m = c ∨ m = d ∨ m = e) := by
  rcases (show z % 5 = 0 ∨ z % 5 = 1 ∨ z % 5 = 2 ∨ z % 5 = 3 ∨ z % 5 = 4 by omega) with h | h | h | h | h <;> rw [h]
  · exact ⟨a, rfl, .inl rfl⟩
  · exact ⟨b, rfl, .inr (.inl rfl)⟩
  · exact ⟨c, rfl, .inr (.inr (.inl rfl))⟩
  · exact ⟨d, rfl, .inr (.inr (.inr (.inl rfl)))⟩
  · exact ⟨e, rfl, .inr (.inr (.inr (.inr rfl)))⟩
noncomputable def spName (K : PySem.W.Frag) : Sp := fun vs H Q _ => ∃ (a : Addr) (ns : List Int) (k f : Int), vs = [.ref a, .int k, .int f] ∧ SqL K H a (ns.map V.int) ∧ 0 ≤ k ∧ k ≤ 1000 ∧ 0 ≤ f ∧ f < 8 ∧ ∀ (x : Str) (H' : Hp), fl x = 97 + f.toNat → x.length ≤ 12 → Same H H' → Q (.str x) H'
section
variable {P : Program} {w : World} {K : PySem.W.Frag} {mg : Str → Option Value} {base : Heap}
theorem scName : FnScope ["_law_script", "_law_k", "_law_first", "_law_number", "_law_found", "_law_j"] ["_law_script", "_law_k", "_law_first"] (defScope sName) := ⟨rfl, rfl, rfl, by decide +kernel, rfl, by decide +kernel, by decide +kernel⟩
theorem okName (F : Fn K mg "_law_name" sName) (M : Mg mg) (cl_mixed : Cal P w K mg base 2 "_law_mixed" ["_law_script", "_law_k"] (spMixed K)) : Cal P w K mg base 3 "_law_name" ["_law_script", "_law_k", "_law_first"] (spName K) := by
  refine cal_of F scName (fun _ _ _ _ _ _ => bind3 (fun _ _ _ => rfl)) (fun vs H Q E h => ?_) (fun f cdv A outer s H vs Q E hr h => ?_)
  · obtain ⟨a, ns, k, f, rfl, _⟩ := h
    rfl
  obtain ⟨a, ns, k, f, rfl, hS, h0, h1, f0, f1, q⟩ := h
  refine ⟨_, (pss_cons (ps_set (i := 3) scName.nd rfl (Or.inl rfl) (pe_fn cl_mixed (hr.mono (by decide)) (pa_cons (pv 0) (pa_cons (pv 1) pa_nil))))
    (pss_cons (ps_set (i := 4) scName.nd rfl (Or.inl rfl) (pe_ix ix_str pe_str (pv 2) (fun _ _ => rfl)))
    (pss_cons (ps_for PassesOwn.never rfl (pi_range1 rfl M.range_ (pa_cons (pe_ix ix_list (pe_lst (pa_cons pe_int (pa_cons pe_int (pa_cons pe_int (pa_cons pe_int (pa_cons pe_int pa_nil)))))) (pe_op op_mod (pv 3) pe_int) (fun _ _ => rfl)) pa_nil)) (pg_name (i := 5) scName.nd rfl (Or.inl rfl) (Or.inl rfl)) (pss_cons (ps_set (i := 3) scName.nd rfl (Or.inl rfl) (pe_op op_add (pe_op op_add (pe_op op_fdiv (pv 3) pe_int) (pe_op op_mul pe_int (pe_fn cl_mixed (hr.mono (by decide)) (pa_cons (pv 0) (pa_cons (pe_op op_add (pv 1) pe_int) pa_nil))))) (pv 5)))
    (pss_one (ps_set (i := 4) scName.nd rfl (Or.inl rfl) (pe_op op_add_str (pv 4) (pe_ix ix_str pe_str (pe_op op_mod (pv 3) pe_int) (fun _ _ => rfl)))))))
    (pss_one (ps_ret (pv 4)))))), ?_⟩
  refine seq_let4 ?_
  intro rT4 rT3 rT2
  have hz : (20000 : Nat) < sizeLine := by decide
  refine ⟨_, rfl, _, rfl, a, ns, k, rfl, hS, h0, by omega, fun z z0 z1 => ?_⟩
  refine ⟨_, rfl, _, _, _, rfl, rfl, by rw [len8]; decide, letter8 f0 f1, ?_⟩
  refine ⟨by show 5 ≤ sizeLine; decide, fun p hp => ?_⟩
  have s0 := same_new' hp (.lst [.int 0, .int 0, .int 1, .int 2, .int 11])
  obtain ⟨m, em, hm⟩ := pick5 (a := 0) (b := 0) (c := 1) (d := 2) (e := 11) (z := z)
  have m0 : 0 ≤ m ∧ m ≤ 11 := by omega
  refine ⟨_, rfl, _, _, rfl, rfl, (by show (0 : Int) < _; decide +kernel), p, _, _, _, rfl, rfl, sqL_new upd_same, em, m, rfl, by omega, by omega, for_range (lo := 0) (n := m.toNat) (fun i σ H1 => ∃ (zz : Int) (x : Str) (v : Option V), σ = [some (.ref a), some (.int k), some (.int f), some (.int zz), some (.str x), v] ∧ fl x = 97 + f.toNat ∧ x.length = 1 + i ∧ Same H H1) ⟨z, _, none, rfl, rfl, rfl, s0⟩ ?_ ?_⟩
  · rintro i σ H1 hi ⟨zz, x, v, rfl, hf, hx, s1⟩
    refine ⟨_, rfl, _, _, rfl, rfl, ⟨by decide, by decide⟩, _, rfl, _, rfl, _, _, rfl, rfl, a, ns, _, rfl, s1.seq hS, by omega, by omega, fun y y0 y1 => ?_⟩
    refine ⟨_, _, rfl, rfl, mulC _ _ (by decide) (by decide), _, _, rfl, rfl, _, rfl, _, _, rfl, rfl, ?_⟩
    obtain ⟨c, ec⟩ := atS (x := "abcdefghijklmnopqrstuvwxyz") (z := (zz / 5 + 7 * y + (0 + (i : Int))) % 26) (by omega) (by rw [len26]; omega)
    refine ⟨_, rfl, _, rfl, _, _, rfl, rfl, (by show (0 : Int) < _; decide +kernel), _, _, _, rfl, rfl, by rw [len26]; decide, ec, _, _, rfl, rfl, ?_, _, _, _, rfl, ?_, ?_, s1⟩
    · show x.length + 1 ≤ sizeLine
      omega
    · rw [fl_app (by omega)]; exact hf
    · rw [len_app, hx]
      show 1 + i + 1 = 1 + (i + 1)
      omega
  · rintro σ H1 ⟨zz, x, v, rfl, hf, hx, s1⟩
    exact ⟨_, rfl, q x H1 hf (by omega) s1⟩
end
end Nb
namespace Nb
open PySem L2
noncomputable abbrev sThings : Stmt := top 15
theorem pick4 {a b c d z : Int} : ∃ m : Int, atI [V.int a, V.int b, V.int c, V.int d] (z % 4) = some (.int m) ∧ (m = a ∨ m = b ∨ m = c ∨ m = d) := by
  rcases (show z % 4 = 0 ∨ z % 4 = 1 ∨ z % 4 = 2 ∨ z % 4 = 3 by omega) with h | h | h | h <;> rw [h]
  · exact ⟨a, rfl, .inl rfl⟩
  · exact ⟨b, rfl, .inr (.inl rfl)⟩
  · exact ⟨c, rfl, .inr (.inr (.inl rfl))⟩
  · exact ⟨d, rfl, .inr (.inr (.inr rfl))⟩
inductive Thing : BR → Prop
  | bench (b r) : Thing (.bench b r)
  | shut (b f t) : Thing (.shut b f t)
  | store (s m f) : Thing (.store s m f)
structure ThOk (n : Int) (T : List BR) : Prop where
  ok : ∀ r ∈ T, r.ok n
  th : ∀ r ∈ T, Thing r
  nd : T.Pairwise Apart
theorem ThOk.snoc {n : Int} {T : List BR} {r : BR} (h : ThOk n T) (h1 : r.ok n) (h2 : Thing r) (h3 : ∀ q ∈ T, Apart q r) : ThOk n (T ++ [r]) := by
  refine ⟨fun q hq => ?_, fun q hq => ?_, ?_⟩
  · rcases List.mem_append.mp hq with z | z
    · exact h.ok q z
    · rw [List.mem_singleton.mp z]; exact h1
  · rcases List.mem_append.mp hq with z | z
    · exact h.th q z
    · rw [List.mem_singleton.mp z]; exact h2
  · refine List.pairwise_append.mpr ⟨h.nd, List.pairwise_singleton _ _, fun a ha b hb => ?_⟩
    rw [List.mem_singleton.mp hb]
    exact h3 a ha
noncomputable def flB : BR → Nat
  | .bench b _ => fl b
  | _ => 0
noncomputable def flS : BR → Nat
  | .store s _ _ => fl s
  | _ => 0
theorem apart_bench {q : BR} {b : Str} {r : Int} (hq : Thing q) (h : flB q < fl b) : Apart q (.bench b r) := by
  cases hq with
  | bench b' r' =>
    refine .inr (.inr fun z => ?_)
    have h' : fl b' < fl b := h
    have z' : [(Sum.inr ("bench" : Str) : Key), Sum.inr b'] = [Sum.inr ("bench" : Str), Sum.inr b] := z
    injection z' with _ z2
    injection z2 with z3
    injection z3 with z4
    rw [z4] at h'
    exact absurd h' (Nat.lt_irrefl _)
  | shut b' f t => exact .inl rfl
  | store s m f => exact apart_kind (by show (3 : Nat) ≠ 1; decide)
theorem apart_store {q : BR} {s : Str} {m f : Int} (hq : Thing q) (h : flS q < fl s) : Apart q (.store s m f) := by
  cases hq with
  | bench b' r' => exact apart_kind (by show (1 : Nat) ≠ 3; decide)
  | shut b' f t => exact .inl rfl
  | store s' m' f' =>
    refine .inr (.inr fun z => ?_)
    have h' : fl s' < fl s := h
    have z' : [(Sum.inr ("store" : Str) : Key), Sum.inr s'] = [Sum.inr ("store" : Str), Sum.inr s] := z
    injection z' with _ z2
    injection z2 with z3
    injection z3 with z4
    rw [z4] at h'
    exact absurd h' (Nat.lt_irrefl _)
noncomputable def spThings (K : PySem.W.Frag) : Sp := fun vs H Q _ => ∃ (a : Addr) (ns : List Int) (n : Int), vs = [.ref a, .int n] ∧ SqL K H a (ns.map V.int) ∧ 1 ≤ n ∧ n ≤ 12 ∧
  ∀ (g : Addr) (vs : List V) (B : List BR) (H' : Hp), Same H H' → H g = none → H' g = some (.lst vs) → RowsB H' vs B → ThOk n B → B.length ≤ 11 → Q (.ref g) H'
section
variable {P : Program} {w : World} {K : PySem.W.Frag} {mg : Str → Option Value} {base : Heap}
theorem scThings : FnScope ["_law_script", "_law_days", "_law_found", "_law_number", "_law_k", "_law_bench", "_law_more", "_law_j", "_law_end", "_law_most"] ["_law_script", "_law_days"] (defScope sThings) := ⟨rfl, rfl, rfl, by decide +kernel, rfl, by decide +kernel, by decide +kernel⟩
theorem okThings (F : Fn K mg "_law_things" sThings) (M : Mg mg) (cl_mixed : Cal P w K mg base 2 "_law_mixed" ["_law_script", "_law_k"] (spMixed K)) (cl_name : Cal P w K mg base 3 "_law_name" ["_law_script", "_law_k", "_law_first"] (spName K)) : Cal P w K mg base 4 "_law_things" ["_law_script", "_law_days"] (spThings K) := by
  refine cal_of F scThings (fun _ _ _ _ _ _ => bind2 (fun _ _ => rfl)) (fun vs H Q E h => ?_) (fun f cdv A outer s H vs Q E hr h => ?_)
  · obtain ⟨a, ns, n, rfl, _⟩ := h
    rfl
  obtain ⟨a, ns, n, rfl, hS, n1, n12, q⟩ := h
  refine ⟨_, (pss_cons (ps_set (i := 2) scThings.nd rfl (Or.inl rfl) (pe_lst pa_nil))
    (pss_cons (ps_set (i := 3) scThings.nd rfl (Or.inl rfl) (pe_fn cl_mixed (hr.mono (by decide)) (pa_cons (pv 0) (pa_cons pe_int pa_nil))))
    (pss_cons (ps_for PassesOwn.never rfl (pi_range1 rfl M.range_ (pa_cons (pe_op op_mod (pv 3) pe_int) pa_nil)) (pg_name (i := 4) scThings.nd rfl (Or.inl rfl) (Or.inl rfl)) (pss_cons (ps_set (i := 5) scThings.nd rfl (Or.inl rfl) (pe_fn cl_name (hr.mono (by decide)) (pa_cons (pv 0) (pa_cons (pe_op op_add pe_int (pe_op op_mul pe_int (pv 4))) (pa_cons (pv 4) pa_nil)))))
    (pss_cons (ps_expr (pe_bm PySem.F.plainAttrs_list PySem.F.slot_list_append PySem.F.type_list_append mt_append (pv 2) (pa_cons (pe_lst (pa_cons pe_str (pa_cons (pv 5) (pa_cons (pe_ix ix_list (pe_lst (pa_cons pe_int (pa_cons pe_int (pa_cons pe_int (pa_cons pe_int (pa_cons pe_int pa_nil)))))) (pe_op op_mod (pe_fn cl_mixed (hr.mono (by decide)) (pa_cons (pv 0) (pa_cons (pe_op op_add pe_int (pv 4)) pa_nil))) pe_int) (fun _ _ => rfl)) pa_nil)))) pa_nil)))
    (pss_cons (ps_set (i := 6) scThings.nd rfl (Or.inl rfl) (pe_fn cl_mixed (hr.mono (by decide)) (pa_cons (pv 0) (pa_cons (pe_op op_add pe_int (pv 4)) pa_nil))))
    (pss_one (ps_for PassesOwn.never rfl (pi_range1 rfl M.range_ (pa_cons (pe_op op_mod (pv 6) pe_int) pa_nil)) (pg_name (i := 7) scThings.nd rfl (Or.inl rfl) (Or.inl rfl)) (pss_cons (ps_set (i := 8) scThings.nd rfl (Or.inl rfl) (pe_op op_add pe_int (pe_op op_mod (pe_op op_fdiv (pv 6) pe_int) (pv 1))))
    (pss_cons (ps_expr (pe_bm PySem.F.plainAttrs_list PySem.F.slot_list_append PySem.F.type_list_append mt_append (pv 2) (pa_cons (pe_lst (pa_cons pe_str (pa_cons (pv 5) (pa_cons (pe_op op_mod (pe_op op_fdiv (pv 6) pe_int) (pv 8)) (pa_cons (pv 8) pa_nil))))) pa_nil)))
    (pss_one (ps_set (i := 6) scThings.nd rfl (Or.inl rfl) (pe_op op_fdiv (pv 6) pe_int)))))))))))
    (pss_cons (ps_for PassesOwn.never rfl (pi_range1 rfl M.range_ (pa_cons (pe_op op_mod (pe_op op_fdiv (pv 3) pe_int) pe_int) pa_nil)) (pg_name (i := 4) scThings.nd rfl (Or.inl rfl) (Or.inl rfl)) (pss_cons (ps_set (i := 9) scThings.nd rfl (Or.inl rfl) (pe_ix ix_list (pe_lst (pa_cons pe_int (pa_cons pe_int (pa_cons pe_int (pa_cons pe_int pa_nil))))) (pe_op op_mod (pe_fn cl_mixed (hr.mono (by decide)) (pa_cons (pv 0) (pa_cons (pe_op op_add pe_int (pv 4)) pa_nil))) pe_int) (fun _ _ => rfl)))
    (pss_one (ps_expr (pe_bm PySem.F.plainAttrs_list PySem.F.slot_list_append PySem.F.type_list_append mt_append (pv 2) (pa_cons (pe_lst (pa_cons pe_str (pa_cons (pe_fn cl_name (hr.mono (by decide)) (pa_cons (pv 0) (pa_cons (pe_op op_add pe_int (pe_op op_mul pe_int (pv 4))) (pa_cons (pv 4) pa_nil)))) (pa_cons (pv 9) (pa_cons (pe_op op_mod (pe_fn cl_mixed (hr.mono (by decide)) (pa_cons (pv 0) (pa_cons (pe_op op_add pe_int (pv 4)) pa_nil))) (pe_op op_add (pv 9) pe_int)) pa_nil))))) pa_nil))))))
    (pss_one (ps_ret (pv 2))))))), ?_⟩
  refine seq_let5 ?_
  intro rT5 rT4 rT3 rT2
  have hz : (20000 : Nat) < sizeLine := by decide
  refine ⟨by show 0 ≤ sizeLine; decide, fun g hg => ?_⟩
  have s0 := same_new' hg (.lst [])
  have hg0 : upd H g (.lst []) g = some (.lst []) := upd_same
  generalize upd H g (.lst []) = H0 at s0 hg0 ⊢
  refine ⟨_, rfl, a, ns, 1, rfl, s0.seq hS, by decide, by decide, fun z z0 z1 => ?_⟩
  refine ⟨_, rfl, _, _, rfl, rfl, (by show (0 : Int) < _; decide +kernel), z % 4, rfl, by omega, by omega, for_range (lo := 0) (n := (z % 4).toNat) (fun i σ H1 => ∃ (v4 v5 v6 v7 v8 v9 : Option V) (vs : List V) (B : List BR), σ = [some (.ref a), some (.int n), some (.ref g), some (.int z), v4, v5, v6, v7, v8, v9] ∧ H1 g = some (.lst vs) ∧ RowsB H1 vs B ∧ ThOk n B ∧ (∀ r ∈ B, flB r < 97 + i ∧ flS r = 0) ∧ B.length ≤ 3 * i ∧ Same H H1) ⟨none, none, none, none, none, none, [], [], rfl, hg0, .nil, ⟨fun _ h => (nomatch h), fun _ h => (nomatch h), .nil⟩, fun _ h => (nomatch h), Nat.zero_le _, s0⟩ ?_ ?_⟩
  · rintro i σ H1 hi ⟨v4, v5, v6, v7, v8, v9, vs, B, rfl, hg1, hB, hT, hfl, hl, s1⟩
    have hi' : i < 4 := by omega
    have lv := hB.length
    refine ⟨_, rfl, _, rfl, _, _, rfl, rfl, mulC _ _ (by decide) (by decide), _, _, rfl, rfl, _, rfl, a, ns, _, _, rfl, s1.seq hS, by omega, by omega, by omega, by omega, fun b H2 hb hbl s2 => ?_⟩
    have hb' : fl b = 97 + i := by rw [hb]; omega
    refine ⟨_, rfl, .inl ⟨rfl, _, sqL_new (s2 _ _ hg1)⟩, _, rfl, by show 5 ≤ sizeLine; decide, fun p hp => ?_⟩
    have s3 := s2.trans (same_new' hp (.lst [.int 1, .int 2, .int 5, .int 99, .int 0]))
    refine ⟨_, rfl, _, rfl, _, _, rfl, rfl, a, ns, _, rfl, (s1.trans s3).seq hS, by omega, by omega, fun y y0 y1 => ?_⟩
    obtain ⟨m, em, hm⟩ := pick5 (a := 1) (b := 2) (c := 5) (d := 99) (e := 0) (z := y)
    refine ⟨_, _, rfl, rfl, (by show (0 : Int) < _; decide +kernel), p, _, _, _, rfl, rfl, sqL_new upd_same, em, by show 3 ≤ sizeLine; decide, fun l hl' => ?_⟩
    have s4 := s3.trans (same_new' hl' (.lst [.str "bench", .str b, .int m]))
    have hl4 : upd (upd H2 p (.lst [.int 1, .int 2, .int 5, .int 99, .int 0])) l (.lst [.str "bench", .str b, .int m]) l = some (.lst ((BR.bench b m).cells.map kV)) := upd_same
    generalize upd (upd H2 p (.lst [.int 1, .int 2, .int 5, .int 99, .int 0])) l (.lst [.str "bench", .str b, .int m]) = H4 at s4 hl4 ⊢
    have hg4 := s4 _ _ hg1
    refine ⟨g, _, _, rfl, rfl, hg4, by omega, ?_⟩
    have hB5 : RowsB (upd H4 g (.lst (vs ++ [.ref l]))) (vs ++ [.ref l]) (B ++ [.bench b m]) := ((hB.same s4).snoc hl4).updL hg4 hB.noRow
    have hg5 : upd H4 g (.lst (vs ++ [.ref l])) g = some (.lst (vs ++ [.ref l])) := upd_same
    have s5 : Same H (upd H4 g (.lst (vs ++ [.ref l]))) := fun c o e => by rw [upd_ne (ne_of_none e hg)]; exact (s1.trans s4) _ _ e
    generalize upd H4 g (.lst (vs ++ [.ref l])) = H5 at hB5 hg5 s5 ⊢
    refine ⟨_, rfl, _, rfl, _, _, rfl, rfl, a, ns, _, rfl, s5.seq hS, by omega, by omega, fun mo mo0 mo1 => ?_⟩
    have hT5 : ThOk n (B ++ [.bench b m]) := hT.snoc ⟨by omega, by omega⟩ (.bench _ _) fun r hr => apart_bench (hT.th r hr) (by rw [hb']; exact (hfl r hr).1)
    refine ⟨_, rfl, _, _, rfl, rfl, (by show (0 : Int) < _; decide +kernel), mo % 3, rfl, by omega, by omega, for_range (lo := 0) (n := (mo % 3).toNat) (fun j σ H6 => ∃ (mo' : Int) (v7 v8 v9 : Option V) (vs : List V) (B : List BR), σ = [some (.ref a), some (.int n), some (.ref g), some (.int z), some (.int (0 + (i : Int))), some (.str b), some (.int mo'), v7, v8, v9] ∧ H6 g = some (.lst vs) ∧ RowsB H6 vs B ∧ ThOk n B ∧ (∀ r ∈ B, flB r < 97 + (i + 1) ∧ flS r = 0) ∧ B.length ≤ 3 * i + 1 + j ∧ Same H H6) ⟨mo, _, _, _, _, _, rfl, hg5, hB5, hT5, fun r hr => ?_, by rw [List.length_append]; show B.length + 1 ≤ _; omega, s5⟩ ?_ ?_⟩
    · rcases List.mem_append.mp hr with h | h
      · have := hfl r h; exact ⟨by omega, this.2⟩
      · rw [List.mem_singleton.mp h]; exact ⟨by show fl b < _; omega, rfl⟩
    · rintro j σ H6 hj ⟨mo', v7, v8, v9, vs6, B6, rfl, hg6, hB6, hT6, hfl6, hl6, s6⟩
      have lv6 := hB6.length
      have e0 := Int.emod_nonneg (mo' / 3) (show n ≠ 0 by omega)
      have e1 := Int.emod_lt_of_pos (mo' / 3) (show 0 < n by omega)
      generalize hE : mo' / 3 % n = E at e0 e1
      have f0 := Int.emod_nonneg (mo' / 40) (show (1 + E) ≠ 0 by omega)
      have f1 := Int.emod_lt_of_pos (mo' / 40) (show 0 < 1 + E by omega)
      refine ⟨_, rfl, _, _, rfl, rfl, ⟨by decide, by decide⟩, _, rfl, _, _, rfl, rfl, (by show 0 < n; omega), _, _, rfl, rfl, ?_⟩
      rw [hE]
      refine ⟨_, rfl, .inl ⟨rfl, _, sqL_new hg6⟩, _, rfl, _, rfl, _, _, rfl, rfl, ⟨by decide, by decide⟩, _, rfl, _, _, rfl, rfl, (by show 0 < 1 + E; omega), _, rfl, by show 4 ≤ sizeLine; decide, fun l hl' => ?_⟩
      have s7 := same_new' hl' (.lst [.str "shut", .str b, .int (mo' / 40 % (1 + E)), .int (1 + E)])
      have hl7 : upd H6 l (.lst [.str "shut", .str b, .int (mo' / 40 % (1 + E)), .int (1 + E)]) l = some (.lst ((BR.shut b (mo' / 40 % (1 + E)) (1 + E)).cells.map kV)) := upd_same
      generalize upd H6 l (.lst [.str "shut", .str b, .int (mo' / 40 % (1 + E)), .int (1 + E)]) = H7 at s7 hl7 ⊢
      have hg7 := s7 _ _ hg6
      refine ⟨g, _, _, rfl, rfl, hg7, by omega, ?_⟩
      refine ⟨_, rfl, _, _, rfl, rfl, ⟨by decide, by decide⟩, _, _, _, _, _, _, rfl, upd_same, ((hB6.same s7).snoc hl7).updL hg7 hB6.noRow, hT6.snoc ⟨f0, f1, by omega⟩ (.shut _ _ _) fun r _ => .inr (.inl rfl), fun r hr => ?_, by rw [List.length_append]; show B6.length + 1 ≤ _; omega, fun c o e => by rw [upd_ne (ne_of_none e hg)]; exact (s6.trans s7) _ _ e⟩
      rcases List.mem_append.mp hr with h | h
      · exact hfl6 r h
      · rw [List.mem_singleton.mp h]; exact ⟨by show 0 < _; omega, rfl⟩
    · rintro σ H6 ⟨mo', v7, v8, v9, vs6, B6, rfl, hg6, hB6, hT6, hfl6, hl6, s6⟩
      exact ⟨_, _, _, _, _, _, vs6, B6, rfl, hg6, hB6, hT6, hfl6, by omega, s6⟩
  · rintro σ H1 ⟨v4, v5, v6, v7, v8, v9, vs, B, rfl, hg1, hB, hT, hfl, hl, s1⟩
    refine ⟨_, rfl, _, _, rfl, rfl, ⟨by decide, by decide⟩, _, _, rfl, rfl, (by show (0 : Int) < _; decide +kernel), z / 4 % 3, rfl, by omega, by omega, for_range (lo := 0) (n := (z / 4 % 3).toNat) (fun i σ H1 => ∃ (v4 v5 v6 v7 v8 v9 : Option V) (vs : List V) (B : List BR), σ = [some (.ref a), some (.int n), some (.ref g), some (.int z), v4, v5, v6, v7, v8, v9] ∧ H1 g = some (.lst vs) ∧ RowsB H1 vs B ∧ ThOk n B ∧ (∀ r ∈ B, flS r < 97 + i) ∧ B.length ≤ 9 + i ∧ Same H H1) ⟨_, _, _, _, _, _, vs, B, rfl, hg1, hB, hT, fun r hr => by rw [(hfl r hr).2]; omega, by omega, s1⟩ ?_ ?_⟩
    · rintro i σ H2 hi ⟨v4, v5, v6, v7, v8, v9, vs2, B2, rfl, hg2, hB2, hT2, hfl2, hl2, s2⟩
      have hi' : i < 3 := by omega
      have lv := hB2.length
      refine ⟨by show 4 ≤ sizeLine; decide, fun p hp => ?_⟩
      have s3 := same_new' hp (.lst [.int 0, .int 3, .int 9, .int 999])
      have hp3 : upd H2 p (.lst [.int 0, .int 3, .int 9, .int 999]) p = some (.lst [.int 0, .int 3, .int 9, .int 999]) := upd_same
      generalize upd H2 p (.lst [.int 0, .int 3, .int 9, .int 999]) = H3 at s3 hp3 ⊢
      refine ⟨_, rfl, _, rfl, _, _, rfl, rfl, a, ns, _, rfl, (s2.trans s3).seq hS, by omega, by omega, fun y y0 y1 => ?_⟩
      obtain ⟨m, em, hm⟩ := pick4 (a := 0) (b := 3) (c := 9) (d := 999) (z := y)
      have hm' : 0 ≤ m ∧ m ≤ 999 := by omega
      refine ⟨_, _, rfl, rfl, (by show (0 : Int) < _; decide +kernel), p, _, _, _, rfl, rfl, sqL_new hp3, em, ?_⟩
      refine ⟨_, rfl, .inl ⟨rfl, _, sqL_new (s3 _ _ hg2)⟩, _, rfl, _, rfl, _, _, rfl, rfl, mulC _ _ (by decide) (by decide), _, _, rfl, rfl, _, rfl, a, ns, _, _, rfl, (s2.trans s3).seq hS, by omega, by omega, by omega, by omega, fun x H4 hx hxl s4 => ?_⟩
      have hx' : fl x = 97 + i := by rw [hx]; omega
      have s34 := s3.trans s4
      refine ⟨_, rfl, _, rfl, _, rfl, _, _, rfl, rfl, a, ns, _, rfl, (s2.trans s34).seq hS, by omega, by omega, fun y' y0' y1' => ?_⟩
      have f0 := Int.emod_nonneg y' (show (m + 1) ≠ 0 by omega)
      have f1 := Int.emod_lt_of_pos y' (show 0 < m + 1 by omega)
      refine ⟨_, rfl, _, _, rfl, rfl, _, _, rfl, rfl, (by show 0 < m + 1; omega), by show 4 ≤ sizeLine; decide, fun l hl' => ?_⟩
      have s5 := s34.trans (same_new' hl' (.lst [.str "store", .str x, .int m, .int (y' % (m + 1))]))
      have hl5 : upd H4 l (.lst [.str "store", .str x, .int m, .int (y' % (m + 1))]) l = some (.lst ((BR.store x m (y' % (m + 1))).cells.map kV)) := upd_same
      generalize upd H4 l (.lst [.str "store", .str x, .int m, .int (y' % (m + 1))]) = H5 at s5 hl5 ⊢
      have hg5 := s5 _ _ hg2
      refine ⟨g, _, _, rfl, rfl, hg5, by omega, ?_⟩
      refine ⟨_, _, _, _, _, _, _, _, rfl, upd_same, ((hB2.same s5).snoc hl5).updL hg5 hB2.noRow, hT2.snoc ⟨f0, by omega, hm'.2⟩ (.store _ _ _) fun r hr => apart_store (hT2.th r hr) (by rw [hx']; exact hfl2 r hr), fun r hr => ?_, by rw [List.length_append]; show B2.length + 1 ≤ _; omega, fun c o e => by rw [upd_ne (ne_of_none e hg)]; exact (s2.trans s5) _ _ e⟩
      rcases List.mem_append.mp hr with h | h
      · have := hfl2 r h; omega
      · rw [List.mem_singleton.mp h]; show fl x < _; omega
    · rintro σ H2 ⟨v4, v5, v6, v7, v8, v9, vs2, B2, rfl, hg2, hB2, hT2, hfl2, hl2, s2⟩
      exact ⟨_, rfl, q g vs2 B2 H2 s2 hg hg2 hB2 hT2 (by omega)⟩
end
end Nb
namespace Nb
open PySem L2
noncomputable abbrev sWay : Stmt := top 16
theorem at_b1 (b : Str) (r : Int) : atI ((BR.bench b r).cells.map kV) 1 = some (.str b) := rfl
theorem at_s1 (b : Str) (m f : Int) : atI ((BR.store b m f).cells.map kV) 1 = some (.str b) := rfl
theorem at_w0 {r : BR} {x : Str} (h : r.word = x) : atI (r.cells.map kV) 0 = some (.str x) := by rw [← h]; exact at_word r
theorem bind6 {F : List Value → Prop} (h : ∀ a b c d e f, F [a, b, c, d, e, f]) : ∀ us : List Value, us.length = 6 → F us := fun us hl => by
  match us, hl with
  | [a, b, c, d, e, f], _ => exact h a b c d e f
theorem neS {a b : Str} (h : a ≠ b) : ¬ (decide (V.str a = V.str b) = true) := fun z => by
  have := of_decide_eq_true z
  injection this with z1
  exact h z1
theorem eqS {a b : Str} (h : decide (V.str a = V.str b) = true) : a = b := by
  have := of_decide_eq_true h
  injection this
theorem yesS (a : Str) : decide (V.str a = V.str a) = true := decide_eq_true rfl
theorem w_bs : ("bench" : Str) ≠ "store" := by decide +kernel
theorem w_sb : ("store" : Str) ≠ "bench" := by decide +kernel
theorem w_hb : ("shut" : Str) ≠ "bench" := by decide +kernel
theorem w_hs : ("shut" : Str) ≠ "store" := by decide +kernel
theorem pick2 {a b z : Int} : ∃ m : Int, atI [V.int a, V.int b] (z % 2) = some (.int m) ∧ (m = a ∨ m = b) := by
  rcases (show z % 2 = 0 ∨ z % 2 = 1 by omega) with h | h <;> rw [h]
  · exact ⟨a, rfl, .inl rfl⟩
  · exact ⟨b, rfl, .inr rfl⟩
theorem pick3 {a b c z : Int} : ∃ m : Int, atI [V.int a, V.int b, V.int c] (z % 3) = some (.int m) ∧ (m = a ∨ m = b ∨ m = c) := by
  rcases (show z % 3 = 0 ∨ z % 3 = 1 ∨ z % 3 = 2 by omega) with h | h | h <;> rw [h]
  · exact ⟨a, rfl, .inl rfl⟩
  · exact ⟨b, rfl, .inr (.inl rfl)⟩
  · exact ⟨c, rfl, .inr (.inr rfl)⟩
theorem pickTG (N : Int) : ∃ kk : Fin 3, atI [V.str "takes", V.str "gives"] (N % 2) = some (.str (useW kk)) ∧ kk ≠ 0 ∧ (N % 2 = 1 → kk = 2) := by
  rcases (show N % 2 = 0 ∨ N % 2 = 1 by omega) with h | h <;> rw [h]
  · exact ⟨1, rfl, by decide, fun z => absurd z (by decide)⟩
  · exact ⟨2, rfl, by decide, fun _ => rfl⟩
noncomputable def UseOf (T : List BR) (w v : Str) (i : Nat) (r : BR) : Prop := ∃ k t m, r = .use k w v t m ∧ 1 ≤ m ∧ m ≤ 99 ∧ ((k = 0 ∧ ∃ j b, j < i ∧ T[j]? = some (.bench t b)) ∨ (k ≠ 0 ∧ ∃ j b c, j < i ∧ T[j]? = some (.store t b c)))
theorem UseOf.mono {T : List BR} {w v : Str} {i j : Nat} {r : BR} (h : UseOf T w v i r) (hij : i ≤ j) : UseOf T w v j r := by
  obtain ⟨k, t, m, e, m1, m2, h⟩ := h
  refine ⟨k, t, m, e, m1, m2, ?_⟩
  rcases h with ⟨e, j', b, h1, h2⟩ | ⟨e, j', b, c, h1, h2⟩
  · exact .inl ⟨e, j', b, by omega, h2⟩
  · exact .inr ⟨e, j', b, c, by omega, h2⟩
theorem pw_at {α : Type} {R : α → α → Prop} : ∀ {l : List α} {i j : Nat} {x y : α}, l.Pairwise R → i < j → l[i]? = some x → l[j]? = some y → R x y
  | a :: l, 0, j + 1, x, y, h, _, e1, e2 => by
    cases e1
    exact (List.pairwise_cons.mp h).1 y (List.mem_of_getElem? (show l[j]? = some y from e2))
  | a :: l, i + 1, j + 1, x, y, h, hij, e1, e2 => pw_at (List.pairwise_cons.mp h).2 (by omega) (show l[i]? = some x from e1) (show l[j]? = some y from e2)
  | [], _, _, _, _, _, _, e1, _ => nomatch e1
  | _ :: _, _, 0, _, _, _, h, _, _ => absurd h (Nat.not_lt_zero _)
theorem use_apart {T : List BR} {w v t : Str} {i : Nat} {k : Fin 3} {m : Int} {r : BR} (hT : T.Pairwise Apart) (h : UseOf T w v i r) (hi : (k = 0 ∧ ∃ b, T[i]? = some (.bench t b)) ∨ (k ≠ 0 ∧ ∃ b c, T[i]? = some (.store t b c))) : Apart r (.use k w v t m) := by
  obtain ⟨k', t', m', rfl, _, _, h⟩ := h
  refine .inr (.inr fun z => ?_)
  have z' : [(Sum.inr (useW k') : Key), Sum.inr w, Sum.inr v, Sum.inr t'] = [Sum.inr (useW k), Sum.inr w, Sum.inr v, Sum.inr t] := z
  injection z' with z1 z2
  injection z2 with _ z3
  injection z3 with _ z4
  injection z4 with z5
  injection z5 with z6
  injection z1 with z7
  have ek : k' = k := by
    match k', k, z7 with
    | 0, 0, _ => rfl
    | 1, 1, _ => rfl
    | 2, 2, _ => rfl
    | 0, 1, z => exact absurd z (by decide +kernel)
    | 0, 2, z => exact absurd z (by decide +kernel)
    | 1, 0, z => exact absurd z (by decide +kernel)
    | 1, 2, z => exact absurd z (by decide +kernel)
    | 2, 0, z => exact absurd z (by decide +kernel)
    | 2, 1, z => exact absurd z (by decide +kernel)
  subst ek z6
  rcases h with ⟨e, j, b, h1, h2⟩ | ⟨e, j, b, c, h1, h2⟩
  · rcases hi with ⟨_, b', h3⟩ | ⟨e', _⟩
    · rcases pw_at hT h1 h2 h3 with q | q | q
      · exact absurd q (by show ¬ (("bench" : Str) = "shut"); decide +kernel)
      · exact absurd q (by show ¬ (("bench" : Str) = "shut"); decide +kernel)
      · exact q rfl
    · exact e' e
  · rcases hi with ⟨e', _⟩ | ⟨_, b', c', h3⟩
    · exact e e'
    · rcases pw_at hT h1 h2 h3 with q | q | q
      · exact absurd q (by show ¬ (("store" : Str) = "shut"); decide +kernel)
      · exact absurd q (by show ¬ (("store" : Str) = "shut"); decide +kernel)
      · exact q rfl
theorem way_apart {w v w' v' t : Str} {l c m : Int} {k : Fin 3} : Apart (.way w v l c) (.use k w' v' t m) := apart_kind (by show (5 : Nat) ≠ 6 + k.val; omega)
structure WayBlk (n : Int) (T : List BR) (w v : Str) (R : List BR) : Prop where
  hd : ∃ l c U, R = .way w v l c :: U ∧ 1 ≤ l ∧ l ≤ n ∧ 0 ≤ c ∧ c ≤ 999999 ∧ ∀ r ∈ U, UseOf T w v T.length r
  nd : R.Pairwise Apart
  len : R.length ≤ 1 + 2 * T.length
noncomputable def spWay (K : PySem.W.Frag) : Sp := fun vs H Q _ => ∃ (a d : Addr) (ns : List Int) (st n : Int) (w v : Str) (us : List V) (T : List BR), vs = [.ref a, .int st, .int n, .str w, .str v, .ref d] ∧ SqL K H a (ns.map V.int) ∧ 0 ≤ st ∧ st ≤ 1000 ∧ 1 ≤ n ∧ n ≤ 12 ∧ SqL K H d us ∧ RowsB H us T ∧ ThOk n T ∧ T.length ≤ 11 ∧
  ∀ (g : Addr) (vs : List V) (R : List BR) (H' : Hp), Same H H' → H g = none → H' g = some (.lst vs) → RowsB H' vs R → WayBlk n T w v R → Q (.ref g) H'
section
variable {P : Program} {w : World} {K : PySem.W.Frag} {mg : Str → Option Value} {base : Heap}
theorem scWay : FnScope ["_law_script", "_law_start", "_law_days", "_law_work", "_law_way_here", "_law_things_here", "_law_number", "_law_length_here", "_law_found", "_law_thing", "_law_many_here"] ["_law_script", "_law_start", "_law_days", "_law_work", "_law_way_here", "_law_things_here"] (defScope sWay) := ⟨rfl, rfl, rfl, by decide +kernel, rfl, by decide +kernel, by decide +kernel⟩
theorem okWay (F : Fn K mg "_law_way" sWay) (M : Mg mg) (cl_mixed : Cal P w K mg base 2 "_law_mixed" ["_law_script", "_law_k"] (spMixed K)) : Cal P w K mg base 3 "_law_way" ["_law_script", "_law_start", "_law_days", "_law_work", "_law_way_here", "_law_things_here"] (spWay K) := by
  refine cal_of F scWay (fun _ _ _ _ _ _ => bind6 (fun _ _ _ _ _ _ => rfl)) (fun vs H Q E h => ?_) (fun f cdv A outer s H vs Q E hr h => ?_)
  · obtain ⟨a, d, ns, st, n, w, v, us, T, rfl, _⟩ := h
    rfl
  obtain ⟨a, d, ns, st, n, w, v, us, T, rfl, hS, st0, st1, n1, n12, hd, hT, tT, tl, q⟩ := h
  refine ⟨_, (pss_cons (ps_set (i := 6) scWay.nd rfl (Or.inl rfl) (pe_fn cl_mixed (hr.mono (by decide)) (pa_cons (pv 0) (pa_cons (pv 1) pa_nil))))
    (pss_cons (ps_set (i := 7) scWay.nd rfl (Or.inl rfl) (pe_op op_add pe_int (pe_op op_mod (pv 6) (pe_callB (call_min2 rfl) rfl M.min bt_min (pa_cons (pv 2) (pa_cons (pe_ix ix_list (pe_lst (pa_cons pe_int (pa_cons pe_int pa_nil))) (pe_op op_mod (pe_op op_fdiv (pv 6) pe_int) pe_int) (fun _ _ => rfl)) pa_nil))))))
    (pss_cons (ps_set (i := 8) scWay.nd rfl (Or.inl rfl) (pe_lst (pa_cons (pe_lst (pa_cons pe_str (pa_cons (pv 3) (pa_cons (pv 4) (pa_cons (pv 7) (pa_cons (pe_ix ix_list (pe_lst (pa_cons (pe_op op_mod (pe_op op_fdiv (pv 6) pe_int) pe_int) (pa_cons (pe_op op_mod (pe_op op_fdiv (pv 6) pe_int) pe_int) pa_nil))) (pe_op op_mod (pv 6) pe_int) (fun _ _ => rfl)) pa_nil)))))) pa_nil)))
    (pss_cons (ps_for PassesOwn.never rfl (pi_list (pv 5)) (pg_name (i := 9) scWay.nd rfl (Or.inl rfl) (Or.inl rfl)) (pss_cons (ps_set (i := 6) scWay.nd rfl (Or.inl rfl) (pe_op op_add (pe_op op_fdivG (pe_fn cl_mixed (hr.mono (by decide)) (pa_cons (pv 0) (pa_cons (pe_op op_add (pv 1) pe_int) pa_nil))) (pe_op op_add pe_int (pe_op op_mul pe_int (pe_callB call_len_seq rfl M.len bt_len (pa_cons (pv 8) pa_nil))))) (pe_callB call_len_seq rfl M.len bt_len (pa_cons (pv 8) pa_nil))))
    (pss_cons (ps_set (i := 10) scWay.nd rfl (Or.inl rfl) (pe_ix ix_list (pe_lst (pa_cons pe_int (pa_cons pe_int (pa_cons pe_int pa_nil)))) (pe_op op_mod (pe_op op_fdiv (pv 6) pe_int) pe_int) (fun _ _ => rfl)))
    (pss_cons (ps_if (PW.pt (pw_and (pt_cmpR op_eq (pe_ix ix_list (pv 9) pe_int (fun _ _ => rfl)) pe_str (nomark _)) (pw_and1 (pt_cmpR op_gt (pe_op op_mod (pv 6) pe_int) pe_int (nomark _))))) (pss_one (ps_expr (pe_bm PySem.F.plainAttrs_list PySem.F.slot_list_append PySem.F.type_list_append mt_append (pv 8) (pa_cons (pe_lst (pa_cons pe_str (pa_cons (pv 3) (pa_cons (pv 4) (pa_cons (pe_ix ix_list (pv 9) pe_int (fun _ _ => rfl)) (pa_cons (pv 10) pa_nil)))))) pa_nil)))) pss_nil)
    (pss_cons (ps_if (PW.pt (pw_and (pt_cmpR op_eq (pe_ix ix_list (pv 9) pe_int (fun _ _ => rfl)) pe_str (nomark _)) (pw_and1 (pt_cmpR op_ne (pe_op op_mod (pv 6) pe_int) pe_int (nomark _))))) (pss_one (ps_expr (pe_bm PySem.F.plainAttrs_list PySem.F.slot_list_append PySem.F.type_list_append mt_append (pv 8) (pa_cons (pe_lst (pa_cons (pe_ix ix_list (pe_lst (pa_cons pe_str (pa_cons pe_str pa_nil))) (pe_op op_mod (pv 6) pe_int) (fun _ _ => rfl)) (pa_cons (pv 3) (pa_cons (pv 4) (pa_cons (pe_ix ix_list (pv 9) pe_int (fun _ _ => rfl)) (pa_cons (pv 10) pa_nil)))))) pa_nil)))) pss_nil)
    (pss_one (ps_if (PW.pt (pw_and (pt_cmpR op_eq (pe_ix ix_list (pv 9) pe_int (fun _ _ => rfl)) pe_str (nomark _)) (pw_and1 (pt_cmpR op_eq (pe_op op_mod (pv 6) pe_int) pe_int (nomark _))))) (pss_one (ps_expr (pe_bm PySem.F.plainAttrs_list PySem.F.slot_list_append PySem.F.type_list_append mt_append (pv 8) (pa_cons (pe_lst (pa_cons pe_str (pa_cons (pv 3) (pa_cons (pv 4) (pa_cons (pe_ix ix_list (pv 9) pe_int (fun _ _ => rfl)) (pa_cons (pe_op op_add pe_int (pe_op op_mod (pe_op op_fdiv (pv 6) pe_int) pe_int)) pa_nil)))))) pa_nil)))) pss_nil)))))))
    (pss_one (ps_ret (pv 8))))))), ?_⟩
  refine seq_let5 ?_
  intro rT5 rT4 rT3 rT2
  have hz : (20000 : Nat) < sizeLine := by decide
  have lu := hT.length
  refine ⟨_, rfl, _, rfl, a, ns, st, rfl, hS, st0, by omega, fun z z0 z1 => ?_⟩
  refine ⟨_, rfl, _, rfl, by show 2 ≤ sizeLine; decide, fun p hp => ?_⟩
  have s1 := same_new' hp (.lst [.int 3, .int 12])
  have hp1 : upd H p (.lst [.int 3, .int 12]) p = some (.lst [.int 3, .int 12]) := upd_same
  generalize upd H p (.lst [.int 3, .int 12]) = H1 at s1 hp1 ⊢
  obtain ⟨m, em, hm⟩ := pick2 (a := 3) (b := 12) (z := z / 12)
  refine ⟨_, rfl, _, _, rfl, rfl, ⟨by decide, by decide⟩, _, _, rfl, rfl, (by show (0 : Int) < _; decide +kernel), p, _, _, _, rfl, rfl, sqL_new hp1, em, _, _, rfl, ?_⟩
  obtain ⟨mm, emm⟩ : ∃ mm : Int, (if m < n then m else n) = mm := ⟨_, rfl⟩
  have hmm : 1 ≤ mm ∧ mm ≤ n := by rw [← emm]; split <;> omega
  rw [emm]
  have l0 := Int.emod_nonneg z (show mm ≠ 0 by omega)
  have l1 := Int.emod_lt_of_pos z (show 0 < mm by omega)
  refine ⟨_, _, rfl, rfl, (by show 0 < mm; omega), _, _, rfl, rfl, ?_⟩
  dsimp only
  generalize hL : 1 + z % mm = L
  have hL1 : 1 ≤ L ∧ L ≤ n := by omega
  refine ⟨_, rfl, _, rfl, _, rfl, _, rfl, _, _, rfl, rfl, ⟨by decide, by decide⟩, _, _, rfl, rfl, (by show (0 : Int) < _; decide +kernel), _, rfl, _, _, rfl, rfl, ⟨by decide, by decide⟩, _, _, rfl, rfl, (by show (0 : Int) < _; decide +kernel), by show 2 ≤ sizeLine; decide, fun p2 hp2 => ?_⟩
  have s2 := s1.trans (same_new' hp2 (.lst [.int (z / 24 % 10), .int (z / 24 % 1000000)]))
  have hp22 : upd H1 p2 (.lst [.int (z / 24 % 10), .int (z / 24 % 1000000)]) p2 = some (.lst [.int (z / 24 % 10), .int (z / 24 % 1000000)]) := upd_same
  generalize upd H1 p2 (.lst [.int (z / 24 % 10), .int (z / 24 % 1000000)]) = H2 at s2 hp22 ⊢
  obtain ⟨c, ec, hc⟩ := pick2 (a := z / 24 % 10) (b := z / 24 % 1000000) (z := z)
  have hc' : 0 ≤ c ∧ c ≤ 999999 := by omega
  refine ⟨_, rfl, _, _, rfl, rfl, (by show (0 : Int) < _; decide +kernel), p2, _, _, _, rfl, rfl, sqL_new hp22, ec, by show 5 ≤ sizeLine; decide, fun l hl => ?_⟩
  have s3 := s2.trans (same_new' hl (.lst [.str "way", .str w, .str v, .int L, .int c]))
  have hl3 : upd H2 l (.lst [.str "way", .str w, .str v, .int L, .int c]) l = some (.lst ((BR.way w v L c).cells.map kV)) := upd_same
  generalize upd H2 l (.lst [.str "way", .str w, .str v, .int L, .int c]) = H3 at s3 hl3 ⊢
  refine ⟨by show 1 ≤ sizeLine; decide, fun g hg => ?_⟩
  have gH : H g = none := by
    cases e5 : H g with
    | none => rfl
    | some o => rw [s3 _ _ e5] at hg; cases hg
  have s4 := s3.trans (same_new' hg (.lst [.ref l]))
  have hg4 : upd H3 g (.lst [.ref l]) g = some (.lst [.ref l]) := upd_same
  have hB4 : RowsB (upd H3 g (.lst [.ref l])) [.ref l] [.way w v L c] := RowsB.snoc (vs := []) (B := []) .nil (same_new' hg _ _ _ hl3)
  generalize upd H3 g (.lst [.ref l]) = H4 at s4 hg4 hB4 ⊢
  refine ⟨_, rfl, d, rfl, ⟨_, s4.seq hd⟩, for_list (K := K) (a := d) (xs := us) (fun i σ H5 => ∃ (zz : Int) (v9 v10 : Option V) (vs : List V) (U : List BR), σ = [some (.ref a), some (.int st), some (.int n), some (.str w), some (.str v), some (.ref d), some (.int zz), some (.int L), some (.ref g), v9, v10] ∧ H5 g = some (.lst vs) ∧ RowsB H5 vs (.way w v L c :: U) ∧ (∀ r ∈ U, UseOf T w v i r) ∧ U.Pairwise Apart ∧ U.length ≤ 2 * i ∧ Same H H5) ⟨z, none, none, _, [], rfl, hg4, hB4, fun _ h => (nomatch h), .nil, Nat.zero_le _, s4⟩ (fun i σ H5 _ h => ?_) ?_ ?_⟩
  · obtain ⟨zz, v9, v10, vs, U, rfl, hg5, hB5, hU, hnd, hlen, s5⟩ := h
    exact s5.seq hd
  · rintro i x σ H5 e1 ⟨zz, v9, v10, vs, U, rfl, hg5, hB5, hU, hnd, hlen, s5⟩
    obtain ⟨r, lr, er, rfl, hr5⟩ := (hT.same s5).get e1
    have hi : i < T.length := (List.getElem?_eq_some_iff.mp er).1
    have lv := hB5.length
    rw [List.length_cons] at lv
    refine ⟨_, rfl, _, rfl, _, _, rfl, rfl, a, ns, _, rfl, s5.seq hS, by omega, by omega, fun y y0 y1 => ?_⟩
    refine ⟨_, rfl, g, _, rfl, .inl (sqL_new hg5), _, _, rfl, rfl, mulC _ _ (by decide) (by decide), _, _, rfl, rfl, _, _, rfl, rfl, ?_, _, rfl, g, _, rfl, .inl (sqL_new hg5), _, _, rfl, rfl, ?_⟩
    · exact ⟨by omega, Nat.lt_of_le_of_lt (show (1 + 5 * ((vs.length : Nat) : Int)).natAbs ≤ 1000000 by omega) (by decide +kernel)⟩
    dsimp only
    generalize y.fdiv (1 + 5 * ((vs.length : Nat) : Int)) + ((vs.length : Nat) : Int) = N
    refine ⟨by show 3 ≤ sizeLine; decide, fun p6 hp6 => ?_⟩
    have s6 := same_new' hp6 (.lst [.int 1, .int 2, .int 99])
    have hp66 : upd H5 p6 (.lst [.int 1, .int 2, .int 99]) p6 = some (.lst [.int 1, .int 2, .int 99]) := upd_same
    generalize upd H5 p6 (.lst [.int 1, .int 2, .int 99]) = H6 at s6 hp66 ⊢
    obtain ⟨mu, emu, hmu⟩ := pick3 (a := 1) (b := 2) (c := 99) (z := N / 4)
    have hmu' : 1 ≤ mu ∧ mu ≤ 99 := by omega
    refine ⟨_, rfl, _, _, rfl, rfl, ⟨by decide, by decide⟩, _, _, rfl, rfl, (by show (0 : Int) < _; decide +kernel), p6, _, _, _, rfl, rfl, sqL_new hp66, emu, ?_⟩
    have hr6 := s6 _ _ hr5
    have hg6 := s6 _ _ hg5
    have hB6 := hB5.same s6
    have s56 := s5.trans s6
    cases tT.th r (List.mem_of_getElem? er) with
    | shut b f t =>
      refine ⟨_, rfl, lr, _, _, _, rfl, rfl, sqL_new hr6, at_w0 (x := "shut") rfl, rfl, _, rfl, ite2 (fun y' => absurd y' (neS w_hb)) (fun _ => ?_)⟩
      refine ⟨_, rfl, lr, _, _, _, rfl, rfl, sqL_new hr6, at_w0 (x := "shut") rfl, rfl, _, rfl, ite2 (fun y' => absurd y' (neS w_hs)) (fun _ => ?_)⟩
      refine ⟨_, rfl, lr, _, _, _, rfl, rfl, sqL_new hr6, at_w0 (x := "shut") rfl, rfl, _, rfl, ite2 (fun y' => absurd y' (neS w_hs)) (fun _ => ?_)⟩
      exact ⟨_, _, _, vs, U, rfl, hg6, hB6, fun r hr => (hU r hr).mono (by omega), hnd, by omega, s56⟩
    | bench b rm =>
      refine ⟨_, rfl, lr, _, _, _, rfl, rfl, sqL_new hr6, at_w0 (x := "bench") rfl, rfl, _, rfl, ite2 (fun _ => ?_) (fun y' => absurd (yesS _) y')⟩
      have key : ∀ (H7 : Hp) (vs7 : List V) (U7 : List BR), H7 lr = some (.lst ((BR.bench b rm).cells.map kV)) → H7 g = some (.lst vs7) → RowsB H7 vs7 (.way w v L c :: U7) → (∀ r ∈ U7, UseOf T w v (i + 1) r) → U7.Pairwise Apart → U7.length ≤ 2 * (i + 1) → Same H H7 → ∃ (zz : Int) (v9 v10 : Option V) (vs : List V) (U : List BR), [some (.ref a), some (.int st), some (.int n), some (.str w), some (.str v), some (.ref d), some (.int N), some (.int L), some (.ref g), some (.ref lr), some (.int mu)] = [some (.ref a), some (.int st), some (.int n), some (.str w), some (.str v), some (.ref d), some (.int zz), some (.int L), some (.ref g), v9, v10] ∧ H7 g = some (.lst vs) ∧ RowsB H7 vs (.way w v L c :: U) ∧ (∀ r ∈ U, UseOf T w v (i + 1) r) ∧ U.Pairwise Apart ∧ U.length ≤ 2 * (i + 1) ∧ Same H H7 :=
        fun H7 vs7 U7 _ h2 h3 h4 h5 h6 h7 => ⟨_, _, _, vs7, U7, rfl, h2, h3, h4, h5, h6, h7⟩
      refine ⟨_, rfl, _, _, rfl, rfl, (by show (0 : Int) < _; decide +kernel), _, _, rfl, rfl, _, rfl, ite2 (fun _ => ?_) (fun _ => ?_)⟩
      · refine ⟨_, rfl, .inl ⟨rfl, _, sqL_new hg6⟩, _, rfl, _, rfl, _, rfl, lr, _, _, _, rfl, rfl, sqL_new hr6, at_b1 _ _, _, rfl, by show 5 ≤ sizeLine; decide, fun l7 hl7 => ?_⟩
        have s7 := same_new' hl7 (.lst [.str "uses", .str w, .str v, .str b, .int mu])
        have hl77 : upd H6 l7 (.lst [.str "uses", .str w, .str v, .str b, .int mu]) l7 = some (.lst ((BR.use 0 w v b mu).cells.map kV)) := upd_same
        generalize upd H6 l7 (.lst [.str "uses", .str w, .str v, .str b, .int mu]) = H7 at s7 hl77 ⊢
        have hg7 := s7 _ _ hg6
        refine ⟨g, _, _, rfl, rfl, hg7, by omega, ?_⟩
        have hB8 := ((hB6.same s7).snoc hl77).updL (zs := vs ++ [.ref l7]) hg7 hB6.noRow
        have hr8 : upd H7 g (.lst (vs ++ [.ref l7])) lr = some (.lst ((BR.bench b rm).cells.map kV)) := by rw [upd_ne (ne_of (s7 _ _ hr6) hg7 fun e => cells_ne hB6.noRow (.bench b rm) (HO.lst.inj e))]; exact s7 _ _ hr6
        have hg8 : upd H7 g (.lst (vs ++ [.ref l7])) g = some (.lst (vs ++ [.ref l7])) := upd_same
        have s8 : Same H (upd H7 g (.lst (vs ++ [.ref l7]))) := fun c' o e => by rw [upd_ne (ne_of_none e gH)]; exact (s56.trans s7) _ _ e
        generalize upd H7 g (.lst (vs ++ [.ref l7])) = H8 at hB8 hr8 hg8 s8 ⊢
        refine ⟨_, rfl, lr, _, _, _, rfl, rfl, sqL_new hr8, at_w0 (x := "bench") rfl, rfl, _, rfl, ite2 (fun y' => absurd y' (neS w_bs)) (fun _ => ?_)⟩
        refine ⟨_, rfl, lr, _, _, _, rfl, rfl, sqL_new hr8, at_w0 (x := "bench") rfl, rfl, _, rfl, ite2 (fun y' => absurd y' (neS w_bs)) (fun _ => ?_)⟩
        refine key H8 _ (U ++ [BR.use 0 w v b mu]) hr8 hg8 hB8 (fun r hr => ?_) (List.pairwise_append.mpr ⟨hnd, List.pairwise_singleton _ _, fun r hr q hq => ?_⟩) (by rw [List.length_append]; show U.length + 1 ≤ _; omega) s8
        · rcases List.mem_append.mp hr with h | h
          · exact (hU r h).mono (by omega)
          · rw [List.mem_singleton.mp h]; exact ⟨0, b, mu, rfl, hmu'.1, hmu'.2, .inl ⟨rfl, i, rm, by omega, er⟩⟩
        · rw [List.mem_singleton.mp hq]; exact use_apart tT.nd (hU r hr) (.inl ⟨rfl, rm, er⟩)
      · refine ⟨_, rfl, lr, _, _, _, rfl, rfl, sqL_new hr6, at_w0 (x := "bench") rfl, rfl, _, rfl, ite2 (fun y' => absurd y' (neS w_bs)) (fun _ => ?_)⟩
        refine ⟨_, rfl, lr, _, _, _, rfl, rfl, sqL_new hr6, at_w0 (x := "bench") rfl, rfl, _, rfl, ite2 (fun y' => absurd y' (neS w_bs)) (fun _ => ?_)⟩
        exact key H6 vs U hr6 hg6 hB6 (fun r hr => (hU r hr).mono (by omega)) hnd (by omega) s56
    | store b rm ff =>
      refine ⟨_, rfl, lr, _, _, _, rfl, rfl, sqL_new hr6, at_w0 (x := "store") rfl, rfl, _, rfl, ite2 (fun y' => absurd y' (neS w_sb)) (fun _ => ?_)⟩
      have fin : ∀ (H7 : Hp) (vs7 : List V) (U7 : List BR), H7 g = some (.lst vs7) → RowsB H7 vs7 (.way w v L c :: U7) → (∀ r ∈ U7, UseOf T w v (i + 1) r) → U7.Pairwise Apart → U7.length ≤ 2 * (i + 1) → Same H H7 → ∃ (zz : Int) (v9 v10 : Option V) (vs : List V) (U : List BR), [some (.ref a), some (.int st), some (.int n), some (.str w), some (.str v), some (.ref d), some (.int N), some (.int L), some (.ref g), some (.ref lr), some (.int mu)] = [some (.ref a), some (.int st), some (.int n), some (.str w), some (.str v), some (.ref d), some (.int zz), some (.int L), some (.ref g), v9, v10] ∧ H7 g = some (.lst vs) ∧ RowsB H7 vs (.way w v L c :: U) ∧ (∀ r ∈ U, UseOf T w v (i + 1) r) ∧ U.Pairwise Apart ∧ U.length ≤ 2 * (i + 1) ∧ Same H H7 :=
        fun H7 vs7 U7 h2 h3 h4 h5 h6 h7 => ⟨_, _, _, vs7, U7, rfl, h2, h3, h4, h5, h6, h7⟩
      refine ⟨_, rfl, lr, _, _, _, rfl, rfl, sqL_new hr6, at_w0 (x := "store") rfl, rfl, _, rfl, ite2 (fun _ => ?_) (fun y' => absurd (yesS _) y')⟩
      refine ⟨_, rfl, _, _, rfl, rfl, (by show (0 : Int) < _; decide +kernel), rfl, _, rfl, ite2 (fun ne => ?_) (fun eq => ?_)⟩
      · obtain ⟨kk, ekk, k0, k2⟩ := pickTG N
        refine ⟨_, rfl, .inl ⟨rfl, _, sqL_new hg6⟩, by show 2 ≤ sizeLine; decide, fun p7 hp7 => ?_⟩
        have s7a := same_new' hp7 (.lst [.str "takes", .str "gives"])
        have hp77 : upd H6 p7 (.lst [.str "takes", .str "gives"]) p7 = some (.lst [.str "takes", .str "gives"]) := upd_same
        generalize upd H6 p7 (.lst [.str "takes", .str "gives"]) = H7a at s7a hp77 ⊢
        refine ⟨_, rfl, _, _, rfl, rfl, (by show (0 : Int) < _; decide +kernel), p7, _, _, _, rfl, rfl, sqL_new hp77, ekk, _, rfl, _, rfl, _, rfl, lr, _, _, _, rfl, rfl, sqL_new (s7a _ _ hr6), at_s1 _ _ _, _, rfl, by show 5 ≤ sizeLine; decide, fun l7 hl7 => ?_⟩
        have s7 := s7a.trans (same_new' hl7 (.lst [.str (useW kk), .str w, .str v, .str b, .int mu]))
        have hl77 : upd H7a l7 (.lst [.str (useW kk), .str w, .str v, .str b, .int mu]) l7 = some (.lst ((BR.use kk w v b mu).cells.map kV)) := upd_same
        generalize upd H7a l7 (.lst [.str (useW kk), .str w, .str v, .str b, .int mu]) = H7 at s7 hl77 ⊢
        have hg7 := s7 _ _ hg6
        refine ⟨g, _, _, rfl, rfl, hg7, by omega, ?_⟩
        have hB8 := ((hB6.same s7).snoc hl77).updL (zs := vs ++ [.ref l7]) hg7 hB6.noRow
        have hr8 : upd H7 g (.lst (vs ++ [.ref l7])) lr = some (.lst ((BR.store b rm ff).cells.map kV)) := by rw [upd_ne (ne_of (s7 _ _ hr6) hg7 fun e => cells_ne hB6.noRow (.store b rm ff) (HO.lst.inj e))]; exact s7 _ _ hr6
        have hg8 : upd H7 g (.lst (vs ++ [.ref l7])) g = some (.lst (vs ++ [.ref l7])) := upd_same
        have s8 : Same H (upd H7 g (.lst (vs ++ [.ref l7]))) := fun c' o e => by rw [upd_ne (ne_of_none e gH)]; exact (s56.trans s7) _ _ e
        generalize upd H7 g (.lst (vs ++ [.ref l7])) = H8 at hB8 hr8 hg8 s8 ⊢
        have hU8 : ∀ r ∈ U ++ [BR.use kk w v b mu], UseOf T w v (i + 1) r := fun r hr => by
          rcases List.mem_append.mp hr with h | h
          · exact (hU r h).mono (by omega)
          · rw [List.mem_singleton.mp h]; exact ⟨kk, b, mu, rfl, hmu'.1, hmu'.2, .inr ⟨k0, i, rm, ff, by omega, er⟩⟩
        have hn8 : (U ++ [BR.use kk w v b mu]).Pairwise Apart := List.pairwise_append.mpr ⟨hnd, List.pairwise_singleton _ _, fun r hr q hq => by
          rw [List.mem_singleton.mp hq]; exact use_apart tT.nd (hU r hr) (.inr ⟨k0, rm, ff, er⟩)⟩
        have hl8 : (U ++ [BR.use kk w v b mu]).length = U.length + 1 := by rw [List.length_append]; rfl
        refine ⟨_, rfl, lr, _, _, _, rfl, rfl, sqL_new hr8, at_w0 (x := "store") rfl, rfl, _, rfl, ite2 (fun _ => ?_) (fun y' => absurd (yesS _) y')⟩
        refine ⟨_, rfl, _, _, rfl, rfl, (by show (0 : Int) < _; decide +kernel), rfl, _, rfl, ite2 (fun y3 => ?_) (fun _ => ?_)⟩
        · have e3 : N % 4 = 3 := by
            have := of_decide_eq_true y3
            injection this
          have ek2 : kk = 2 := k2 (by omega)
          subst ek2
          have c0 := Int.emod_nonneg (N / 12) (show (99 : Int) ≠ 0 by decide)
          have c1 := Int.emod_lt_of_pos (N / 12) (show (0 : Int) < 99 by decide)
          refine ⟨_, rfl, .inl ⟨rfl, _, sqL_new hg8⟩, _, rfl, _, rfl, _, rfl, lr, _, _, _, rfl, rfl, sqL_new hr8, at_s1 _ _ _, _, rfl, _, _, rfl, rfl, ⟨by decide, by decide⟩, _, _, rfl, rfl, (by show (0 : Int) < _; decide +kernel), _, _, rfl, rfl, by show 5 ≤ sizeLine; decide, fun l9 hl9 => ?_⟩
          have s9 := same_new' hl9 (.lst [.str "takes", .str w, .str v, .str b, .int (1 + N / 12 % 99)])
          have hl99 : upd H8 l9 (.lst [.str "takes", .str w, .str v, .str b, .int (1 + N / 12 % 99)]) l9 = some (.lst ((BR.use 1 w v b (1 + N / 12 % 99)).cells.map kV)) := upd_same
          generalize upd H8 l9 (.lst [.str "takes", .str w, .str v, .str b, .int (1 + N / 12 % 99)]) = H9 at s9 hl99 ⊢
          have hg9 := s9 _ _ hg8
          refine ⟨g, _, _, rfl, rfl, hg9, by rw [List.length_append]; show vs.length + 1 < _; omega, ?_⟩
          have hB10 := ((hB8.same s9).snoc hl99).updL (zs := vs ++ [.ref l7] ++ [.ref l9]) hg9 hB8.noRow
          refine fin _ _ (U ++ [BR.use 2 w v b mu] ++ [BR.use 1 w v b (1 + N / 12 % 99)]) upd_same hB10 (fun r hr => ?_) (List.pairwise_append.mpr ⟨hn8, List.pairwise_singleton _ _, fun r hr q hq => ?_⟩) (by rw [List.length_append, hl8]; show U.length + 1 + 1 ≤ _; omega) (fun c' o e => by rw [upd_ne (ne_of_none e gH)]; exact (s8.trans s9) _ _ e)
          · rcases List.mem_append.mp hr with h | h
            · exact hU8 r h
            · rw [List.mem_singleton.mp h]; exact ⟨1, b, _, rfl, by omega, by omega, .inr ⟨by decide, i, rm, ff, by omega, er⟩⟩
          · rw [List.mem_singleton.mp hq]
            rcases List.mem_append.mp hr with h | h
            · exact use_apart tT.nd (hU r h) (.inr ⟨by decide, rm, ff, er⟩)
            · rw [List.mem_singleton.mp h]; exact apart_word (by show ¬ (("gives" : Str) = "takes"); decide +kernel)
        · exact fin H8 _ (U ++ [BR.use kk w v b mu]) hg8 hB8 hU8 hn8 (by rw [hl8]; omega) s8
      · have e0 : N % 4 = 0 := by
          by_cases e0 : N % 4 = 0
          · exact e0
          · exact absurd (show (!decide (V.int (N % 4) = V.int 0)) = true by rw [Bool.not_eq_true', decide_eq_false_iff_not]; intro z'; injection z' with z'; exact e0 z') eq
        refine ⟨_, rfl, lr, _, _, _, rfl, rfl, sqL_new hr6, at_w0 (x := "store") rfl, rfl, _, rfl, ite2 (fun _ => ?_) (fun y' => absurd (yesS _) y')⟩
        refine ⟨_, rfl, _, _, rfl, rfl, (by show (0 : Int) < _; decide +kernel), rfl, _, rfl, ite2 (fun y3 => ?_) (fun _ => ?_)⟩
        · have := of_decide_eq_true y3
          injection this with e3
          omega
        · exact fin H6 vs U hg6 hB6 (fun r hr => (hU r hr).mono (by omega)) hnd (by omega) s56
  · rintro σ H5 ⟨zz, v9, v10, vs, U, rfl, hg5, hB5, hU, hnd, hlen, s5⟩
    rw [lu] at hU
    refine ⟨_, rfl, q g vs _ H5 s5 gH hg5 hB5 ⟨⟨L, c, U, rfl, hL1.1, hL1.2, hc'.1, hc'.2, hU⟩, List.pairwise_cons.mpr ⟨fun r hr => ?_, hnd⟩, by rw [List.length_cons]; omega⟩⟩
    obtain ⟨k, t, m', rfl, _⟩ := hU r hr
    exact way_apart
end
end Nb
namespace Nb
open PySem L2
noncomputable abbrev sPut : Stmt := top 18
noncomputable def ownN (k : Nat) (ns : List Str) : List Str := if k = 9 then ns else if k ≤ 3 then [] else ns.take 1
theorem own_eq (r : BR) : r.own = ownN r.kind r.names := by
  cases r with
  | use k w v t m =>
    have hk := k.isLt
    show [w] = ownN (6 + k.val) [w, v, t]
    unfold ownN
    rw [if_neg (by omega), if_neg (by omega)]
    rfl
  | _ => rfl
theorem own_key {r q : BR} (h : r.key = q.key) {w : Str} (hw : w ∈ q.own) : w ∈ r.own := by
  have h' : ((Sum.inr r.word : Key) :: r.names.map Sum.inr) = Sum.inr q.word :: q.names.map Sum.inr := h
  injection h' with h1 h2
  have e1 : r.word = q.word := Sum.inr.inj h1
  have e2 : r.names = q.names := (List.map_inj_right fun x y e => Sum.inr.inj e).mp h2
  have e3 : r.kind = q.kind := wordOf_inj _ (kind_lt r) _ (kind_lt q) (by rw [← word_of, ← word_of]; exact e1)
  rw [own_eq, e2, e3, ← own_eq]
  exact hw
structure WkOk (n : Int) (nm : List Str) (W : List BR) : Prop where
  ok : ∀ r ∈ W, r.ok n
  nd : W.Pairwise Apart
  own : ∀ r ∈ W, r.own ≠ [] ∧ ∀ w ∈ r.own, w ∈ nm
  wk : ∀ w ∈ nm, BR.work w ∈ W
noncomputable def OfWay (w : Str) (j : Nat) (r : BR) : Prop := ∃ v, fl v < 97 + j ∧ ((∃ l c, r = .way w v l c) ∨ ∃ k t m, r = .use k w v t m)
theorem OfWay.own {w : Str} {j : Nat} {r : BR} (h : OfWay w j r) : r.own = [w] := by
  obtain ⟨v, _, ⟨l, c, rfl⟩ | ⟨k, t, m, rfl⟩⟩ := h
  · rfl
  · rfl
theorem OfWay.mono {w : Str} {i j : Nat} {r : BR} (h : OfWay w i r) (hij : i ≤ j) : OfWay w j r := by
  obtain ⟨v, h1, h2⟩ := h
  exact ⟨v, by omega, h2⟩
theorem blk_apart {n : Int} {T : List BR} {w v : Str} {j : Nat} {R : List BR} {r q : BR} (hr : OfWay w j r) (hv : fl v = 97 + j) (hR : WayBlk n T w v R) (hq : q ∈ R) : Apart r q := by
  obtain ⟨l, c, U, rfl, _, _, _, _, hU⟩ := hR.hd
  obtain ⟨v', h1, h2⟩ := hr
  have ne : v' ≠ v := fun z => by rw [z] at h1; omega
  have hq' : (∃ l c, q = .way w v l c) ∨ ∃ k t m, q = .use k w v t m := by
    rcases List.mem_cons.mp hq with e | e
    · exact .inl ⟨l, c, e⟩
    · obtain ⟨k, t, m, e1, _⟩ := hU q e
      exact .inr ⟨k, t, m, e1⟩
  have kv : ∀ {a b : Str} {x y : List Key}, (Sum.inr a :: (Sum.inr w : Key) :: Sum.inr v' :: x) = (Sum.inr b :: Sum.inr w :: Sum.inr v :: y) → False := fun z => by
    injection z with _ z2
    injection z2 with _ z3
    injection z3 with z4
    injection z4 with z5
    exact ne z5
  rcases h2 with ⟨l', c', rfl⟩ | ⟨k', t', m', rfl⟩
  · rcases hq' with ⟨l2, c2, rfl⟩ | ⟨k2, t2, m2, rfl⟩
    · exact .inr (.inr fun z => kv z)
    · exact way_apart
  · rcases hq' with ⟨l2, c2, rfl⟩ | ⟨k2, t2, m2, rfl⟩
    · exact way_apart.symm
    · exact .inr (.inr fun z => kv z)
theorem blk_of {n : Int} {T : List BR} {w v : Str} {j : Nat} {R : List BR} (hv : fl v = 97 + j) (hR : WayBlk n T w v R) : (∀ q ∈ R, OfWay w (j + 1) q) ∧ ∀ q ∈ R, q.ok n := by
  obtain ⟨l, c, U, rfl, h1, h2, h3, h4, hU⟩ := hR.hd
  refine ⟨fun q hq => ?_, fun q hq => ?_⟩
  · rcases List.mem_cons.mp hq with e | e
    · exact ⟨v, by omega, .inl ⟨l, c, e⟩⟩
    · obtain ⟨k, t, m, e1, _⟩ := hU q e
      exact ⟨v, by omega, .inr ⟨k, t, m, e1⟩⟩
  · rcases List.mem_cons.mp hq with e | e
    · rw [e]; exact ⟨h1, h2, h3, h4⟩
    · obtain ⟨k, t, m, e1, m1, m2, _⟩ := hU q e
      rw [e1]; exact ⟨m1, m2⟩
structure BlkOk (n : Int) (nm : List Str) (w : Str) (W Y : List BR) : Prop where
  ok : ∀ r ∈ Y, r.ok n
  nd : Y.Pairwise Apart
  own : ∀ r ∈ Y, w ∈ r.own ∧ ∀ x ∈ r.own, x ∈ nm ++ [w]
theorem BlkOk.snoc {n : Int} {nm : List Str} {w : Str} {W Y : List BR} {r : BR} (h : BlkOk n nm w W Y) (h1 : r.ok n) (h2 : w ∈ r.own) (h3 : ∀ x ∈ r.own, x ∈ nm ++ [w]) (h4 : ∀ q ∈ Y, Apart q r) : BlkOk n nm w W (Y ++ [r]) := by
  refine ⟨fun q hq => ?_, List.pairwise_append.mpr ⟨h.nd, List.pairwise_singleton _ _, fun a ha b hb => ?_⟩, fun q hq => ?_⟩
  · rcases List.mem_append.mp hq with z | z
    · exact h.ok q z
    · rw [List.mem_singleton.mp z]; exact h1
  · rw [List.mem_singleton.mp hb]; exact h4 a ha
  · rcases List.mem_append.mp hq with z | z
    · exact h.own q z
    · rw [List.mem_singleton.mp z]; exact ⟨h2, h3⟩
theorem WkOk.join {n : Int} {nm : List Str} {w : Str} {W Y : List BR} (h : WkOk n nm W) (hw : w ∉ nm) (b : BlkOk n nm w W Y) (hk : BR.work w ∈ Y) : WkOk n (nm ++ [w]) (W ++ Y) := by
  refine ⟨fun r hr => ?_, List.pairwise_append.mpr ⟨h.nd, b.nd, fun r hr q hq => ?_⟩, fun r hr => ?_, fun x hx => ?_⟩
  · rcases List.mem_append.mp hr with z | z
    · exact h.ok r z
    · exact b.ok r z
  · refine .inr (.inr fun z => hw ?_)
    exact (h.own r hr).2 w (own_key z (b.own q hq).1)
  · rcases List.mem_append.mp hr with z | z
    · exact ⟨(h.own r z).1, fun x hx => List.mem_append_left _ ((h.own r z).2 x hx)⟩
    · exact ⟨fun e => (by have := (b.own r z).1; rw [e] at this; exact nomatch this), (b.own r z).2⟩
  · rcases List.mem_append.mp hx with z | z
    · exact List.mem_append_left _ (h.wk x z)
    · rw [List.mem_singleton.mp z]; exact List.mem_append_right _ hk
theorem cut_keys (ks : List Key) (lo hi : Option Int) : ∃ ls : List Key, cutV (ks.map kV) lo hi = ls.map kV := by
  unfold cutV
  rw [List.length_map]
  exact ⟨(ks.drop (HT.sIx ks.length 0 lo)).take (HT.sIx ks.length ks.length hi - HT.sIx ks.length 0 lo), by rw [List.map_take, List.map_drop]⟩
theorem flat_keys (ks : List Key) : (ks.map kV).all flatV = true := by
  rw [List.all_eq_true]
  intro v hv
  obtain ⟨k, _, rfl⟩ := List.mem_map.mp hv
  exact kV_flat1 k
theorem in3 {a b c : Str} {r : BR} (h : inV (.str r.word) [.str a, .str b, .str c] = true) : a = r.word ∨ b = r.word ∨ c = r.word := by
  have h' : (a == r.word || (b == r.word || (c == r.word || false))) = true := h
  simp only [Bool.or_eq_true, beq_iff_eq, Bool.false_eq_true, or_false] at h'
  exact h'
theorem cell1 {r : BR} (h : ("bench" : Str) = r.word ∨ ("store" : Str) = r.word ∨ ("work" : Str) = r.word) : ∃ x : Str, atI (r.cells.map kV) 1 = some (.str x) := by
  cases r with
  | days n =>
    rcases h with h | h | h
    · exact absurd h (by show ¬ (("bench" : Str) = "days"); decide +kernel)
    · exact absurd h (by show ¬ (("store" : Str) = "days"); decide +kernel)
    · exact absurd h (by show ¬ (("work" : Str) = "days"); decide +kernel)
  | bench b r => exact ⟨b, rfl⟩
  | shut b f t => exact ⟨b, rfl⟩
  | store s m f => exact ⟨s, rfl⟩
  | work w => exact ⟨w, rfl⟩
  | way w v l c => exact ⟨w, rfl⟩
  | use k w v t m => exact ⟨w, rfl⟩
  | after w x g => exact ⟨w, rfl⟩
  | late w d c => exact ⟨w, rfl⟩
theorem seq_cut {t1 t2 : TS} {D : Ends} {σ : St} {H : Hp} (Pv : St → Hp → Prop) (h2 : ∀ σ' H', Pv σ' H' → t2 D σ' H') (h1 : (∀ σ' H', Pv σ' H' → t2 D σ' H') → t1 { D with nx := t2 D } σ H) : tSeq t1 t2 D σ H := h1 h2
noncomputable def spPut (K : PySem.W.Frag) : Sp := fun vs H Q _ => ∃ (d l : Addr) (z : Int) (us : List V) (B : List BR) (r : BR), vs = [.ref d, .ref l, .int z] ∧ H d = some (.lst us) ∧ RowsB H us B ∧ 1 ≤ B.length ∧ B.length ≤ 1000 ∧ H l = some (.lst (r.cells.map kV)) ∧
  ∀ (g : Addr) (k : Nat) (H' : Hp), 1 ≤ k → k ≤ B.length → Same H H' → H g = none → H' g = some (.lst (us.take k ++ [.ref l] ++ us.drop k)) → Q (.ref g) H'
section
variable {P : Program} {w : World} {K : PySem.W.Frag} {mg : Str → Option Value} {base : Heap}
theorem scPut : FnScope ["_law_rows", "_law_row", "_law_number", "_law_least", "_law_k", "_law_at"] ["_law_rows", "_law_row", "_law_number"] (defScope sPut) := ⟨rfl, rfl, rfl, by decide +kernel, rfl, by decide +kernel, by decide +kernel⟩
theorem okPut (F : Fn K mg "_law_put" sPut) (M : Mg mg) : Cal P w K mg base 1 "_law_put" ["_law_rows", "_law_row", "_law_number"] (spPut K) := by
  refine cal_of F scPut (fun _ _ _ _ _ _ => bind3 (fun _ _ _ => rfl)) (fun vs H Q E h => ?_) (fun f cdv A outer s H vs Q E hr h => ?_)
  · obtain ⟨d, l, z, us, B, r, rfl, _⟩ := h
    rfl
  obtain ⟨d, l, z, us, B, r, rfl, hd, hB, b1, b2, hl, q⟩ := h
  have hu6 : (A.deeper (PyProof.Rows.envOfC "_law_put" (defScope sPut) s.heap.objs.size f cdv)).units + 6 < cLine := Nat.lt_of_le_of_lt (Nat.add_le_add_left (by decide) _) hr.un
  refine ⟨_, (pss_cons (ps_set (i := 3) scPut.nd rfl (Or.inl rfl) pe_int)
    (pss_cons (ps_for PassesOwn.never rfl (pi_range1 rfl M.range_ (pa_cons (pe_callB call_len_seq rfl M.len bt_len (pa_cons (pv 0) pa_nil)) pa_nil)) (pg_name (i := 4) scPut.nd rfl (Or.inl rfl) (Or.inl rfl)) (pss_cons (ps_if (PW.pt (pw_and (pt_cmpR op_in_seq (pe_ix ix_list (pe_ix ix_list (pv 0) (pv 4) (fun _ _ => rfl)) pe_int (fun _ _ => rfl)) (pe_lst (pa_cons pe_str (pa_cons pe_str (pa_cons pe_str pa_nil)))) rfl) (pw_and1 (pt_cmpR op_in_seq (pe_ix ix_list (pe_ix ix_list (pv 0) (pv 4) (fun _ _ => rfl)) pe_int (fun _ _ => rfl)) (pe_slice sl_list (pv 1) (po_some pe_int) po_none) rfl)))) (pss_one (ps_set (i := 3) scPut.nd rfl (Or.inl rfl) (pe_op op_add (pv 4) pe_int))) pss_nil)
    (pss_one (ps_if (PW.pt (pw_and (pt_cmpR op_eq (pe_ix ix_list (pe_ix ix_list (pv 0) (pv 4) (fun _ _ => rfl)) pe_int (fun _ _ => rfl)) pe_str (nomark _)) (pw_and1 (pt_cmpR (op_eqK (K := K) (n := 6) rfl hu6) (pe_slice sl_list (pe_ix ix_list (pv 0) (pv 4) (fun _ _ => rfl)) (po_some pe_int) (po_some pe_int)) (pe_slice sl_list (pv 1) (po_some pe_int) (po_some pe_int)) (nomark _))))) (pss_one (ps_set (i := 3) scPut.nd rfl (Or.inl rfl) (pe_op op_add (pv 4) pe_int))) pss_nil))))
    (pss_cons (ps_set (i := 5) scPut.nd rfl (Or.inl rfl) (pe_op op_add (pv 3) (pe_op op_mod (pv 2) (pe_op op_add (pe_op op_sub (pe_callB call_len_seq rfl M.len bt_len (pa_cons (pv 0) pa_nil)) (pv 3)) pe_int))))
    (pss_one (ps_ret (pe_op op_cat (pe_op op_cat (pe_slice sl_list (pv 0) po_none (po_some (pv 5))) (pe_lst (pa_cons (pv 1) pa_nil))) (pe_slice sl_list (pv 0) (po_some (pv 5)) po_none))))))), ?_⟩
  refine seq_let4 ?_
  intro rT4 rT3 rT2
  have hz : (20000 : Nat) < sizeLine := by decide
  have lu := hB.length
  refine ⟨_, rfl, d, _, rfl, .inl (sqL_new hd), _, rfl, by omega, by omega, for_range (lo := 0) (n := Int.toNat ((us.length : Nat) : Int)) (fun i σ H1 => ∃ (le : Nat) (v5 v6 : Option V), σ = [some (.ref d), some (.ref l), some (.int z), some (.int ((le : Nat) : Int)), v5, v6] ∧ 1 ≤ le ∧ le ≤ B.length ∧ Same H H1) ⟨1, none, none, rfl, Nat.le_refl _, b1, Same.refl _⟩ ?_ ?_⟩
  · rintro i σ H1 hi ⟨le, v5, v6, rfl, e1, e2, s1⟩
    have hi' : i < us.length := by omega
    obtain ⟨q0, lr, er, ev, hr⟩ := (hB.same s1).get (List.getElem?_eq_getElem hi')
    have ai : atI us (0 + (i : Int)) = some (.ref lr) := by
      rw [show (0 : Int) + (i : Int) = ((i : Nat) : Int) by omega]
      exact atNat (by rw [List.getElem?_eq_getElem hi', ev])
    have si : (0 : Int) + (i : Int) + 1 = ((i + 1 : Nat) : Int) := by omega
    refine seq_cut (fun σ' H' => ∃ (le' : Nat) (v6 : Option V), σ' = [some (.ref d), some (.ref l), some (.int z), some (.int ((le' : Nat) : Int)), some (.int (0 + (i : Int))), v6] ∧ 1 ≤ le' ∧ le' ≤ B.length ∧ Same H1 H') ?_ fun REST => ?_
    · rintro σ' H2 ⟨le', v6', rfl, e1', e2', s2⟩
      have hr2 := s2 _ _ hr
      have hd2 := (s1.trans s2) _ _ hd
      have hl2 := (s1.trans s2) _ _ hl
      refine ⟨_, rfl, _, rfl, d, _, _, _, rfl, rfl, sqL_new hd2, ai, lr, _, _, _, rfl, rfl, sqL_new hr2, at_word _, rfl, _, rfl, ite2 (fun _ => ?_) (fun _ => ?_)⟩
      · refine ⟨_, rfl, _, rfl, d, _, _, _, rfl, rfl, sqL_new hd2, ai, _, rfl, _, rfl, lr, _, rfl, sqL_new hr2, fun p hp => ?_⟩
        obtain ⟨ks, ek⟩ := cut_keys q0.cells (some 1) (some 3)
        rw [ek]
        have s3 := same_new' hp (.lst (ks.map kV))
        refine ⟨_, rfl, _, rfl, _, rfl, l, _, rfl, sqL_new (s3 _ _ hl2), fun p' hp' => ?_⟩
        obtain ⟨ls, el⟩ := cut_keys r.cells (some 1) (some 3)
        rw [el]
        have s4 := same_new' hp' (.lst (ls.map kV))
        refine ⟨p, p', ks, ls, rfl, rfl, sqL_new (s4 _ _ upd_same), sqL_new upd_same, fun c hc => ⟨_, rfl, ite2 (fun _ => ?_) (fun _ => ?_)⟩⟩
        · refine ⟨_, rfl, _, _, rfl, rfl, ?_⟩
          dsimp only
          rw [si]
          exact ⟨i + 1, _, _, rfl, by omega, by omega, ((s1.trans s2).trans s3).trans s4⟩
        · exact ⟨le', _, _, rfl, e1', e2', ((s1.trans s2).trans s3).trans s4⟩
      · exact ⟨le', _, _, rfl, e1', e2', s1.trans s2⟩
    · refine ⟨_, rfl, _, rfl, d, _, _, _, rfl, rfl, sqL_new (s1 _ _ hd), ai, lr, _, _, _, rfl, rfl, sqL_new hr, at_word _, by show 3 ≤ sizeLine; decide, fun p hp => ?_⟩
      have s3 := same_new' hp (.lst [.str "bench", .str "store", .str "work"])
      have hr3 := s3 _ _ hr
      have hd3 := (s1.trans s3) _ _ hd
      have hl3 := (s1.trans s3) _ _ hl
      refine ⟨p, _, rfl, .inl (sqL_new upd_same), rfl, rfl, _, rfl, ite2 (fun y => ?_) (fun _ => ?_)⟩
      · obtain ⟨x, ex⟩ := cell1 (in3 y)
        refine ⟨_, rfl, _, rfl, d, _, _, _, rfl, rfl, sqL_new hd3, ai, lr, _, _, _, rfl, rfl, sqL_new hr3, ex, _, rfl, _, rfl, l, _, rfl, sqL_new hl3, fun p' hp' => ?_⟩
        obtain ⟨ls, el⟩ := cut_keys r.cells (some 1) none
        rw [el]
        have s4 := s3.trans (same_new' hp' (.lst (ls.map kV)))
        refine ⟨p', _, rfl, .inl (sqL_new upd_same), rfl, flat_keys ls, _, rfl, ite2 (fun _ => ?_) (fun _ => ?_)⟩
        · refine ⟨_, rfl, _, _, rfl, rfl, ?_⟩
          dsimp only
          rw [si]
          exact REST _ _ ⟨i + 1, _, rfl, by omega, by omega, s4⟩
        · exact REST _ _ ⟨le, _, rfl, e1, e2, s4⟩
      · exact REST _ _ ⟨le, _, rfl, e1, e2, s3⟩
  · rintro σ H1 ⟨le, v5, v6, rfl, e1, e2, s1⟩
    have hd1 := s1 _ _ hd
    have p0 : (0 : Int) < ((us.length : Nat) : Int) - ((le : Nat) : Int) + 1 := by omega
    have m0 := Int.emod_nonneg z (Int.ne_of_gt p0)
    have m1 := Int.emod_lt_of_pos z p0
    refine ⟨_, rfl, _, rfl, _, rfl, d, _, rfl, .inl (sqL_new hd1), _, rfl, _, _, rfl, rfl, _, _, rfl, rfl, _, _, rfl, rfl, p0, _, _, rfl, rfl, ?_⟩
    obtain ⟨k, ek⟩ : ∃ k : Nat, ((le : Nat) : Int) + z % (((us.length : Nat) : Int) - ((le : Nat) : Int) + 1) = ((k : Nat) : Int) := ⟨(((le : Nat) : Int) + z % (((us.length : Nat) : Int) - ((le : Nat) : Int) + 1)).toNat, by omega⟩
    have k1 : 1 ≤ k ∧ k ≤ us.length := by omega
    dsimp only
    rw [ek]
    have c1 : cutV us none (some ((k : Nat) : Int)) = us.take k := by
      unfold cutV
      rw [HT.sIx_none, HT.sIx_nat, Nat.min_eq_left k1.2, List.drop_zero, Nat.sub_zero]
    have c2 : cutV us (some ((k : Nat) : Int)) none = us.drop k := by
      unfold cutV
      rw [HT.sIx_none, HT.sIx_nat, Nat.min_eq_left k1.2, ← List.length_drop, List.take_length]
    refine ⟨_, rfl, _, rfl, _, rfl, d, _, rfl, sqL_new hd1, fun p hp => ?_⟩
    rw [c1]
    have s2 := same_new' hp (.lst (us.take k))
    refine ⟨_, rfl, by show 1 ≤ sizeLine; decide, fun p2 hp2 => ?_⟩
    have s3 := same_new' hp2 (.lst [.ref l])
    refine ⟨p, p2, _, _, rfl, rfl, s3 _ _ upd_same, upd_same, by rw [List.length_take]; show min k us.length + 1 ≤ _; omega, fun p3 hp3 => ?_⟩
    have s4 := same_new' hp3 (.lst (us.take k ++ [.ref l]))
    have s24 := (s2.trans s3).trans s4
    refine ⟨_, rfl, _, rfl, _, rfl, d, _, rfl, sqL_new (s24 _ _ hd1), fun p4 hp4 => ?_⟩
    rw [c2]
    have s5 := same_new' hp4 (.lst (us.drop k))
    refine ⟨p3, p4, _, _, rfl, rfl, s5 _ _ upd_same, upd_same, by rw [List.length_append, List.length_take, List.length_drop]; show min k us.length + 1 + _ ≤ _; omega, fun g hg => ?_⟩
    have s6 := same_new' hg (.lst (us.take k ++ [.ref l] ++ us.drop k))
    have s16 := s1.trans ((s24.trans s5).trans s6)
    have gH : H g = none := by
      cases e5 : H g with
      | none => rfl
      | some o => rw [(s1.trans (s24.trans s5)) _ _ e5] at hg; cases hg
    exact q g k _ k1.1 (by omega) s16 gH upd_same
end
end Nb
namespace Nb
open PySem L2
noncomputable abbrev sWorks : Stmt := top 17
theorem pick8 {a b c d e f g h z : Int} : ∃ m : Int, atI [V.int a, V.int b, V.int c, V.int d, V.int e, V.int f, V.int g, V.int h] (z % 8) = some (.int m) ∧ (m = a ∨ m = b ∨ m = c ∨ m = d ∨ m = e ∨ m = f ∨ m = g ∨ m = h) := by
  rcases (show z % 8 = 0 ∨ z % 8 = 1 ∨ z % 8 = 2 ∨ z % 8 = 3 ∨ z % 8 = 4 ∨ z % 8 = 5 ∨ z % 8 = 6 ∨ z % 8 = 7 by omega) with q | q | q | q | q | q | q | q <;> rw [q]
  · exact ⟨a, rfl, by omega⟩
  · exact ⟨b, rfl, by omega⟩
  · exact ⟨c, rfl, by omega⟩
  · exact ⟨d, rfl, by omega⟩
  · exact ⟨e, rfl, by omega⟩
  · exact ⟨f, rfl, by omega⟩
  · exact ⟨g, rfl, by omega⟩
  · exact ⟨h, rfl, by omega⟩
theorem row_noStrs {r : BR} {nm : List Str} (h : r.nums ≠ []) : r.cells.map kV ≠ nm.map V.str := fun e => by
  obtain ⟨z, zs, ez⟩ : ∃ z zs, r.nums = z :: zs := by
    cases hn : r.nums with
    | nil => exact absurd hn h
    | cons z zs => exact ⟨z, zs, rfl⟩
  have h1 : V.int z ∈ r.cells.map kV := by
    unfold BR.cells
    rw [ez, List.map_append]
    exact List.mem_append_right _ List.mem_cons_self
  rw [e] at h1
  obtain ⟨x, _, e2⟩ := List.mem_map.mp h1
  cases e2
theorem blk_nums {n : Int} {T : List BR} {w v : Str} {R : List BR} (hR : WayBlk n T w v R) : ∀ q ∈ R, q.nums ≠ [] := fun q hq => by
  obtain ⟨l, c, U, rfl, _, _, _, _, hU⟩ := hR.hd
  rcases List.mem_cons.mp hq with e | e
  · rw [e]; exact fun z => nomatch z
  · obtain ⟨k, t, m, e1, _⟩ := hU q e
    rw [e1]; exact fun z => nomatch z
theorem RowsB.mem {H : Hp} {vs : List V} {B : List BR} (h : RowsB H vs B) {l : Addr} (hm : V.ref l ∈ vs) : ∃ r ∈ B, H l = some (.lst (r.cells.map kV)) := by
  obtain ⟨i, e⟩ := List.mem_iff_getElem?.mp hm
  obtain ⟨r, l', e1, e2, h1⟩ := h.get e
  cases e2
  exact ⟨r, List.mem_of_getElem? e1, h1⟩
theorem name_cut {t1 t2 : TS} {D : Ends} {i : Nat} {x : V} {σ : St} {H : Hp} (Pv : St → Hp → Prop) (h2 : ∀ σ' H', Pv σ' H' → t2 D σ' H') (h1 : (∀ σ' H', Pv σ' H' → t2 D σ' H') → t1 { D with nx := t2 D } (σ.set i (some x)) H) : gName i x σ H ({ D with nx := tSeq t1 t2 D } : Ends).nx := h1 h2
noncomputable def spWorks (K : PySem.W.Frag) : Sp := fun vs H Q _ => ∃ (a d : Addr) (ns : List Int) (n : Int) (us : List V) (T : List BR), vs = [.ref a, .int n, .ref d] ∧ SqL K H a (ns.map V.int) ∧ 1 ≤ n ∧ n ≤ 12 ∧ SqL K H d us ∧ RowsB H us T ∧ ThOk n T ∧ T.length ≤ 11 ∧
  ∀ (g : Addr) (vs : List V) (nm : List Str) (W : List BR) (H' : Hp), Same H H' → H g = none → H' g = some (.lst vs) → RowsB H' vs W → WkOk n nm W → W.length ≤ 370 → Q (.ref g) H'
section
variable {P : Program} {w : World} {K : PySem.W.Frag} {mg : Str → Option Value} {base : Heap}
theorem scWorks : FnScope ["_law_script", "_law_days", "_law_things_here", "_law_found", "_law_names", "_law_many_here", "_law_k", "_law_work", "_law_number", "_law_j", "_law_rows", "_law_pair"] ["_law_script", "_law_days", "_law_things_here"] (defScope sWorks) := ⟨rfl, rfl, rfl, by decide +kernel, rfl, by decide +kernel, by decide +kernel⟩
theorem okWorks (F : Fn K mg "_law_works" sWorks) (M : Mg mg) (cl_mixed : Cal P w K mg base 2 "_law_mixed" ["_law_script", "_law_k"] (spMixed K)) (cl_name : Cal P w K mg base 3 "_law_name" ["_law_script", "_law_k", "_law_first"] (spName K)) (cl_way : Cal P w K mg base 3 "_law_way" ["_law_script", "_law_start", "_law_days", "_law_work", "_law_way_here", "_law_things_here"] (spWay K)) : Cal P w K mg base 4 "_law_works" ["_law_script", "_law_days", "_law_things_here"] (spWorks K) := by
  refine cal_of F scWorks (fun _ _ _ _ _ _ => bind3 (fun _ _ _ => rfl)) (fun vs H Q E h => ?_) (fun f cdv A outer s H vs Q E hr h => ?_)
  · obtain ⟨a, d, ns, n, us, T, rfl, _⟩ := h
    rfl
  obtain ⟨a, d, ns, n, us, T, rfl, hS, n1, n12, hd, hT, tT, tl, q⟩ := h
  refine ⟨_, (pss_cons (ps_set (i := 3) scWorks.nd rfl (Or.inl rfl) (pe_lst pa_nil))
    (pss_cons (ps_set (i := 4) scWorks.nd rfl (Or.inl rfl) (pe_lst pa_nil))
    (pss_cons (ps_set (i := 5) scWorks.nd rfl (Or.inl rfl) pe_int)
    (pss_cons (ps_for PassesOwn.never rfl (pi_range1 rfl M.range_ (pa_cons (pe_ix ix_list (pe_lst (pa_cons pe_int (pa_cons pe_int (pa_cons pe_int (pa_cons pe_int (pa_cons pe_int (pa_cons pe_int (pa_cons pe_int (pa_cons pe_int pa_nil))))))))) (pe_op op_mod (pe_fn cl_mixed (hr.mono (by decide)) (pa_cons (pv 0) (pa_cons pe_int pa_nil))) pe_int) (fun _ _ => rfl)) pa_nil)) (pg_name (i := 6) scWorks.nd rfl (Or.inl rfl) (Or.inl rfl)) (pss_cons (ps_set (i := 7) scWorks.nd rfl (Or.inl rfl) (pe_fn cl_name (hr.mono (by decide)) (pa_cons (pv 0) (pa_cons (pe_op op_add pe_int (pe_op op_mul pe_int (pv 6))) (pa_cons (pv 6) pa_nil)))))
    (pss_cons (ps_expr (pe_bm PySem.F.plainAttrs_list PySem.F.slot_list_append PySem.F.type_list_append mt_append (pv 4) (pa_cons (pv 7) pa_nil)))
    (pss_cons (ps_expr (pe_bm PySem.F.plainAttrs_list PySem.F.slot_list_append PySem.F.type_list_append mt_append (pv 3) (pa_cons (pe_lst (pa_cons pe_str (pa_cons (pv 7) pa_nil))) pa_nil)))
    (pss_cons (ps_set (i := 8) scWorks.nd rfl (Or.inl rfl) (pe_fn cl_mixed (hr.mono (by decide)) (pa_cons (pv 0) (pa_cons (pe_op op_add pe_int (pv 6)) pa_nil))))
    (pss_cons (ps_for PassesOwn.never rfl (pi_range1 rfl M.range_ (pa_cons (pe_ix ix_list (pe_lst (pa_cons pe_int (pa_cons pe_int (pa_cons pe_int (pa_cons pe_int (pa_cons pe_int (pa_cons pe_int (pa_cons pe_int (pa_cons pe_int pa_nil))))))))) (pe_op op_mod (pv 8) pe_int) (fun _ _ => rfl)) pa_nil)) (pg_name (i := 9) scWorks.nd rfl (Or.inl rfl) (Or.inl rfl)) (pss_cons (ps_set (i := 10) scWorks.nd rfl (Or.inl rfl) (pe_fn cl_way (hr.mono (by decide)) (pa_cons (pv 0) (pa_cons (pe_op op_add (pe_op op_add pe_int (pe_op op_mul pe_int (pv 6))) (pe_op op_mul pe_int (pv 9))) (pa_cons (pv 1) (pa_cons (pv 7) (pa_cons (pe_fn cl_name (hr.mono (by decide)) (pa_cons (pv 0) (pa_cons (pe_op op_add (pe_op op_add pe_int (pe_op op_mul pe_int (pv 6))) (pe_op op_mul pe_int (pv 9))) (pa_cons (pv 9) pa_nil)))) (pa_cons (pv 2) pa_nil))))))))
    (pss_one (ps_if (pt_cmpR op_le (pe_op op_add (pe_op op_sub (pe_op op_add (pv 5) (pv 1)) (pe_ix ix_list (pe_ix ix_list (pv 10) pe_int (fun _ _ => rfl)) pe_int (fun _ _ => rfl))) pe_int) pe_int (nomark _)) (pss_cons (ps_set (i := 5) scWorks.nd rfl (Or.inl rfl) (pe_op op_add (pe_op op_sub (pe_op op_add (pv 5) (pv 1)) (pe_ix ix_list (pe_ix ix_list (pv 10) pe_int (fun _ _ => rfl)) pe_int (fun _ _ => rfl))) pe_int))
    (pss_one (ps_set (i := 3) scWorks.nd rfl (Or.inl rfl) (pe_op op_cat (pv 3) (pv 10))))) pss_nil))))
    (pss_cons (ps_if (pt_cmpR op_eq (pe_op op_mod (pe_op op_fdiv (pv 8) pe_int) pe_int) pe_int (nomark _)) (pss_one (ps_expr (pe_bm PySem.F.plainAttrs_list PySem.F.slot_list_append PySem.F.type_list_append mt_append (pv 3) (pa_cons (pe_lst (pa_cons pe_str (pa_cons (pv 7) (pa_cons (pe_op op_mod (pe_op op_fdiv (pv 8) pe_int) (pe_op op_add (pv 1) pe_int)) (pa_cons (pe_op op_add pe_int (pe_op op_mod (pe_op op_fdiv (pv 8) pe_int) pe_int)) pa_nil))))) pa_nil)))) pss_nil)
    (pss_one (ps_if (PW.pt (pw_and (pt_cmpR op_gt (pv 6) pe_int (nomark _)) (pw_and1 (pt_cmpR op_gt (pe_op op_mod (pe_op op_fdiv (pv 8) pe_int) pe_int) pe_int (nomark _))))) (pss_cons (ps_set (i := 11) scWorks.nd rfl (Or.inl rfl) (pe_lst (pa_cons (pe_ix ix_list (pv 4) (pe_op op_mod (pe_op op_fdiv (pv 8) pe_int) (pv 6)) (fun _ _ => rfl)) (pa_cons (pv 7) pa_nil))))
    (pss_cons (ps_if (pt_cmpR op_eq (pe_op op_mod (pe_op op_fdiv (pv 8) pe_int) pe_int) pe_int (nomark _)) (pss_one (ps_expr (pe_bm0 PySem.F.plainAttrs_list PySem.F.slot_list_reverse PySem.F.type_list_reverse mt_reverse (pv 11)))) pss_nil)
    (pss_one (ps_expr (pe_bm PySem.F.plainAttrs_list PySem.F.slot_list_append PySem.F.type_list_append mt_append (pv 3) (pa_cons (pe_lst (pa_cons pe_str (pa_cons (pe_ix ix_list (pv 11) pe_int (fun _ _ => rfl)) (pa_cons (pe_ix ix_list (pv 11) pe_int (fun _ _ => rfl)) (pa_cons (pe_op op_mod (pe_op op_fdiv (pv 8) pe_int) (pe_callB (call_min2 rfl) rfl M.min bt_min (pa_cons (pe_op op_add (pv 1) pe_int) (pa_cons pe_int pa_nil)))) pa_nil))))) pa_nil)))))) pss_nil)))))))))
    (pss_one (ps_ret (pv 3))))))), ?_⟩
  refine seq_let5 ?_
  intro rT5 rT4 rT3 rT2
  have hz : (20000 : Nat) < sizeLine := by decide
  have up : ∀ {Hy Hz : Hp} {g : Addr}, Hz g = none → Same Hy Hz → Hy g = none := fun {Hy Hz g} h s => by
    cases e5 : Hy g with
    | none => rfl
    | some o => rw [s _ _ e5] at h; cases h
  refine ⟨by show 0 ≤ sizeLine; decide, fun g0 hg0 => ?_⟩
  have s0a := same_new' hg0 (.lst [])
  have hga : upd H g0 (.lst []) g0 = some (.lst []) := upd_same
  generalize upd H g0 (.lst []) = Ha at s0a hga ⊢
  refine ⟨by show 0 ≤ sizeLine; decide, fun N hN => ?_⟩
  have NH : H N = none := up hN s0a
  have gN0 : g0 ≠ N := ne_of_none hga hN
  have sb := same_new' hN (.lst [])
  have s0 := s0a.trans sb
  have hgb := sb _ _ hga
  have hNb : upd Ha N (.lst []) N = some (.lst []) := upd_same
  generalize upd Ha N (.lst []) = H0 at s0 hgb hNb ⊢
  clear sb
  refine ⟨by show 8 ≤ sizeLine; decide, fun p hp => ?_⟩
  have s1 := same_new' hp (.lst [.int 0, .int 1, .int 2, .int 2, .int 3, .int 3, .int 4, .int 5])
  have hp1 : upd H0 p (.lst [.int 0, .int 1, .int 2, .int 2, .int 3, .int 3, .int 4, .int 5]) p = some (.lst [.int 0, .int 1, .int 2, .int 2, .int 3, .int 3, .int 4, .int 5]) := upd_same
  generalize upd H0 p (.lst [.int 0, .int 1, .int 2, .int 2, .int 3, .int 3, .int 4, .int 5]) = H0p at s1 hp1 ⊢
  refine ⟨_, rfl, a, ns, 2, rfl, (s0.trans s1).seq hS, by decide, by decide, fun z z0 z1 => ?_⟩
  obtain ⟨m, em, hm⟩ := pick8 (a := 0) (b := 1) (c := 2) (d := 2) (e := 3) (f := 3) (g := 4) (h := 5) (z := z)
  have hm' : 0 ≤ m ∧ m ≤ 5 := by omega
  refine ⟨_, _, rfl, rfl, (by show (0 : Int) < _; decide +kernel), p, _, _, _, rfl, rfl, sqL_new hp1, em, m, rfl, by omega, by omega, for_range (lo := 0) (n := m.toNat) (fun i σ H1 => ∃ (v6 v7 v8 v9 v10 v11 : Option V) (g : Addr) (my : Int) (vs : List V) (W : List BR) (nm : List Str), σ = [some (.ref a), some (.int n), some (.ref d), some (.ref g), some (.ref N), some (.int my), v6, v7, v8, v9, v10, v11] ∧ H1 g = some (.lst vs) ∧ H g = none ∧ g ≠ N ∧ RowsB H1 vs W ∧ H1 N = some (.lst (nm.map V.str)) ∧ V.ref N ∉ vs ∧ WkOk n nm W ∧ nm.length = i ∧ (∀ j x, nm[j]? = some x → fl x = 97 + j) ∧ W.length ≤ 73 * i ∧ Same H H1) ⟨none, none, none, none, none, none, g0, 0, [], [], [], rfl, s1 _ _ hgb, hg0, gN0, .nil, s1 _ _ hNb, fun h => (nomatch h), ⟨fun _ h => (nomatch h), .nil, fun _ h => (nomatch h), fun _ h => (nomatch h)⟩, rfl, fun _ _ h => (nomatch h), Nat.zero_le _, s0.trans s1⟩ ?_ ?_⟩
  · rintro i σ H1 hi ⟨v6, v7, v8, v9, v10, v11, g, my, vs, W, nm, rfl, hg1, gH, gN, hB1, hN1, nN1, hW, hnl, hfl, hlen, s1'⟩
    have hi' : i < 5 := by omega
    have lv := hB1.length
    refine ⟨_, rfl, _, rfl, _, _, rfl, rfl, mulC _ _ (by decide) (by decide), _, _, rfl, rfl, _, rfl, a, ns, _, _, rfl, s1'.seq hS, by omega, by omega, by omega, by omega, fun w H2 hw hwl s2 => ?_⟩
    have hw' : fl w = 97 + i := by rw [hw]; omega
    have wn : w ∉ nm := fun hm => by
      obtain ⟨j, ej⟩ := List.mem_iff_getElem?.mp hm
      have h5 := hfl j w ej
      have h6 := (List.getElem?_eq_some_iff.mp ej).1
      omega
    have hN2 := s2 _ _ hN1
    refine ⟨_, rfl, .inl ⟨rfl, _, sqL_new hN2⟩, _, rfl, N, _, _, rfl, rfl, hN2, by rw [List.length_map]; omega, ?_⟩
    have hN3 : upd H2 N (.lst (nm.map V.str ++ [.str w])) N = some (.lst ((nm ++ [w]).map V.str)) := by rw [upd_same, List.map_append]; rfl
    have hg3 : upd H2 N (.lst (nm.map V.str ++ [.str w])) g = some (.lst vs) := by rw [upd_ne gN]; exact s2 _ _ hg1
    have hB3 : RowsB (upd H2 N (.lst (nm.map V.str ++ [.str w]))) vs W := (hB1.same s2).imp fun l r hm z => by
      rw [upd_ne (fun e => nN1 (by rw [← e]; exact hm))]; exact z
    have s3 : Same H (upd H2 N (.lst (nm.map V.str ++ [.str w]))) := fun c o e => by rw [upd_ne (ne_of_none e NH)]; exact (s1'.trans s2) _ _ e
    generalize upd H2 N (.lst (nm.map V.str ++ [.str w])) = H3 at hN3 hg3 hB3 s3 ⊢
    refine ⟨_, rfl, .inl ⟨rfl, _, sqL_new hg3⟩, _, rfl, by show 2 ≤ sizeLine; decide, fun l hl => ?_⟩
    have lN : l ≠ N := fun e => by rw [e, hN3] at hl; cases hl
    have s4 := same_new' hl (.lst [.str "work", .str w])
    have hl4 : upd H3 l (.lst [.str "work", .str w]) l = some (.lst ((BR.work w).cells.map kV)) := upd_same
    generalize upd H3 l (.lst [.str "work", .str w]) = H4 at s4 hl4 ⊢
    have hg4 := s4 _ _ hg3
    refine ⟨g, _, _, rfl, rfl, hg4, by omega, ?_⟩
    have hB5 : RowsB (upd H4 g (.lst (vs ++ [.ref l]))) (vs ++ [.ref l]) (W ++ [BR.work w]) := ((hB3.same s4).snoc hl4).updL hg4 hB3.noRow
    have hg5 : upd H4 g (.lst (vs ++ [.ref l])) g = some (.lst (vs ++ [.ref l])) := upd_same
    have hN5 : upd H4 g (.lst (vs ++ [.ref l])) N = some (.lst ((nm ++ [w]).map V.str)) := by rw [upd_ne gN.symm]; exact s4 _ _ hN3
    have s5 : Same H (upd H4 g (.lst (vs ++ [.ref l]))) := fun c o e => by rw [upd_ne (ne_of_none e gH)]; exact (s3.trans s4) _ _ e
    have nN5 : V.ref N ∉ vs ++ [.ref l] := fun h => by
      rcases List.mem_append.mp h with h | h
      · exact nN1 h
      · have h2 := List.mem_singleton.mp h
        injection h2 with h3
        exact lN h3.symm
    generalize upd H4 g (.lst (vs ++ [.ref l])) = H5 at hB5 hg5 hN5 s5 ⊢
    refine ⟨_, rfl, _, rfl, _, _, rfl, rfl, a, ns, _, rfl, s5.seq hS, by omega, by omega, fun nb nb0 nb1 => ?_⟩
    refine ⟨by show 8 ≤ sizeLine; decide, fun p6 hp6 => ?_⟩
    have s6 := same_new' hp6 (.lst [.int 1, .int 1, .int 2, .int 2, .int 2, .int 3, .int 3, .int 0])
    have hp66 : upd H5 p6 (.lst [.int 1, .int 1, .int 2, .int 2, .int 2, .int 3, .int 3, .int 0]) p6 = some (.lst [.int 1, .int 1, .int 2, .int 2, .int 2, .int 3, .int 3, .int 0]) := upd_same
    generalize upd H5 p6 (.lst [.int 1, .int 1, .int 2, .int 2, .int 2, .int 3, .int 3, .int 0]) = H5p at s6 hp66 ⊢
    obtain ⟨m2, em2, hm2⟩ := pick8 (a := 1) (b := 1) (c := 2) (d := 2) (e := 2) (f := 3) (g := 3) (h := 0) (z := nb)
    have hm2' : 0 ≤ m2 ∧ m2 ≤ 3 := by omega
    refine ⟨_, rfl, _, _, rfl, rfl, (by show (0 : Int) < _; decide +kernel), p6, _, _, _, rfl, rfl, sqL_new hp66, em2, m2, rfl, by omega, by omega, for_range (lo := 0) (n := m2.toNat) (fun j σ H6 => ∃ (v9 v10 v11 : Option V) (g : Addr) (my : Int) (vs : List V) (Y : List BR), σ = [some (.ref a), some (.int n), some (.ref d), some (.ref g), some (.ref N), some (.int my), some (.int (0 + (i : Int))), some (.str w), some (.int nb), v9, v10, v11] ∧ H6 g = some (.lst vs) ∧ H g = none ∧ g ≠ N ∧ RowsB H6 vs (W ++ BR.work w :: Y) ∧ H6 N = some (.lst ((nm ++ [w]).map V.str)) ∧ V.ref N ∉ vs ∧ (∀ r ∈ Y, OfWay w j r) ∧ (∀ r ∈ Y, r.ok n) ∧ Y.Pairwise Apart ∧ Y.length ≤ 23 * j ∧ Same H H6) ⟨_, _, _, g, my, _, [], rfl, s6 _ _ hg5, gH, gN, hB5.same s6, s6 _ _ hN5, nN5, fun _ h => (nomatch h), fun _ h => (nomatch h), .nil, Nat.zero_le _, s5.trans s6⟩ ?_ ?_⟩
    · rintro j σ H6 hj ⟨v9', v10', v11', g6, my6, vs6, Y, rfl, hg6, gH6, gN6, hB6, hN6, nN6, hY, hYo, hYn, hYl, s6'⟩
      have hj' : j < 3 := by omega
      have lv6 := hB6.length
      rw [List.length_append, List.length_cons] at lv6
      refine ⟨_, rfl, _, rfl, _, _, rfl, rfl, mulC _ _ (by decide) (by decide), _, _, rfl, rfl, _, rfl, _, _, rfl, rfl, mulC _ _ (by decide) (by decide), _, _, rfl, rfl, _, rfl, _, rfl, _, rfl, _, rfl, _, _, rfl, rfl, mulC _ _ (by decide) (by decide), _, _, rfl, rfl, _, rfl, _, _, rfl, rfl, mulC _ _ (by decide) (by decide), _, _, rfl, rfl, _, rfl, a, ns, _, _, rfl, s6'.seq hS, by omega, by omega, by omega, by omega, fun v H7 hv hvl s7 => ?_⟩
      have hv' : fl v = 97 + j := by rw [hv]; omega
      refine ⟨_, rfl, a, d, ns, _, n, w, v, us, T, rfl, (s6'.trans s7).seq hS, by omega, by omega, n1, n12, (s6'.trans s7).seq hd, hT.same (s6'.trans s7), tT, tl, fun gr vr R H8 s8 fgr hgr hBr hR => ?_⟩
      have s78 := s7.trans s8
      have s68 := s6'.trans s78
      have hg8 := s78 _ _ hg6
      have hN8 := s78 _ _ hN6
      obtain ⟨L, c, U, eR, _⟩ := hR.hd
      have lvr := hBr.length
      obtain ⟨v0, ev0⟩ : ∃ v0, vr[0]? = some v0 := ⟨_, List.getElem?_eq_getElem (by rw [lvr, eR]; exact Nat.zero_lt_succ _)⟩
      obtain ⟨r0, lr, er0, rfl, hr0⟩ := hBr.get ev0
      rw [eR] at er0
      cases er0
      have a0 : atI vr 0 = some (.ref lr) := atNat (k := 0) ev0
      have a3 : atI ((BR.way w v L c).cells.map kV) 3 = some (.int L) := rfl
      obtain ⟨bo, bk⟩ := blk_of hv' hR
      refine ⟨_, rfl, _, rfl, _, _, rfl, rfl, _, rfl, gr, _, _, _, rfl, rfl, sqL_new hgr, a0, lr, _, _, _, rfl, rfl, sqL_new hr0, a3, _, _, rfl, rfl, _, _, rfl, rfl, _, _, rfl, rfl, _, rfl, ite2 (fun _ => ?_) (fun _ => ?_)⟩
      · refine ⟨_, rfl, _, rfl, _, _, rfl, rfl, _, rfl, gr, _, _, _, rfl, rfl, sqL_new hgr, a0, lr, _, _, _, rfl, rfl, sqL_new hr0, a3, _, _, rfl, rfl, _, _, rfl, rfl, ?_⟩
        have lR := hR.len
        refine ⟨_, rfl, _, rfl, g6, gr, _, _, rfl, rfl, hg8, hgr, by rw [lv6, lvr]; omega, fun p8 hp8 => ?_⟩
        have s9 := same_new' hp8 (.lst (vs6 ++ vr))
        have gH9 : H p8 = none := up hp8 s68
        refine ⟨_, _, _, p8, _, vs6 ++ vr, Y ++ R, rfl, upd_same, gH9, (ne_of_none hN8 hp8).symm, ?_, s9 _ _ hN8, fun h => ?_, fun r hr => ?_, fun r hr => ?_, List.pairwise_append.mpr ⟨hYn, hR.nd, fun r hr q hq => blk_apart (hY r hr) hv' hR hq⟩, by rw [List.length_append]; omega, s68.trans s9⟩
        · have h5 := ((hB6.same s78).same s9).app (hBr.same s9)
          rw [List.append_assoc, List.cons_append] at h5
          exact h5
        · rcases List.mem_append.mp h with h | h
          · exact nN6 h
          · obtain ⟨r, hr, hh⟩ := hBr.mem h
            rw [hN8] at hh
            exact row_noStrs (blk_nums hR r hr) (HO.lst.inj (Option.some.inj hh)).symm
        · rcases List.mem_append.mp hr with h | h
          · exact (hY r h).mono (by omega)
          · exact bo r h
        · rcases List.mem_append.mp hr with h | h
          · exact hYo r h
          · exact bk r h
      · exact ⟨_, _, _, g6, my6, vs6, Y, rfl, hg8, gH6, gN6, hB6.same s78, hN8, nN6, fun r hr => (hY r hr).mono (by omega), hYo, hYn, by omega, s68⟩
    · rintro σ H6 ⟨v9', v10', v11', g6, my6, vs6, Y, rfl, hg6, gH6, gN6, hB6, hN6, nN6, hY, hYo, hYn, hYl, s6'⟩
      have lv6 := hB6.length
      rw [List.length_append, List.length_cons] at lv6
      have wk4 : ∀ r ∈ Y, r.kind ≠ 4 ∧ r.kind ≠ 10 ∧ r.kind ≠ 9 := fun r hr => by
        obtain ⟨v, _, ⟨l', c', rfl⟩ | ⟨k', t', m', rfl⟩⟩ := hY r hr
        · exact ⟨by show (5 : Nat) ≠ 4; decide, by show (5 : Nat) ≠ 10; decide, by show (5 : Nat) ≠ 9; decide⟩
        · have := k'.isLt
          exact ⟨by show 6 + k'.val ≠ 4; omega, by show 6 + k'.val ≠ 10; omega, by show 6 + k'.val ≠ 9; omega⟩
      have hBk : BlkOk n nm w W (BR.work w :: Y) := by
        refine ⟨fun r hr => ?_, List.pairwise_cons.mpr ⟨fun r hr => apart_kind (fun e => (wk4 r hr).1 e.symm), hYn⟩, fun r hr => ?_⟩
        · rcases List.mem_cons.mp hr with e | e
          · rw [e]; exact True.intro
          · exact hYo r e
        · rcases List.mem_cons.mp hr with e | e
          · rw [e]; exact ⟨List.mem_cons_self, fun x hx => by rw [List.mem_singleton.mp hx]; exact List.mem_append_right _ List.mem_cons_self⟩
          · rw [(hY r e).own]; exact ⟨List.mem_cons_self, fun x hx => by rw [List.mem_singleton.mp hx]; exact List.mem_append_right _ List.mem_cons_self⟩
      have no9 : ∀ r ∈ BR.work w :: Y, r.kind ≠ 9 := fun r hr => by
        rcases List.mem_cons.mp hr with e | e
        · rw [e]; show (4 : Nat) ≠ 9; decide
        · exact (wk4 r e).2.2
      have no10 : ∀ r ∈ BR.work w :: Y, r.kind ≠ 10 := fun r hr => by
        rcases List.mem_cons.mp hr with e | e
        · rw [e]; show (4 : Nat) ≠ 10; decide
        · exact (wk4 r e).2.1
      dsimp only
      refine seq_cut (fun σ' H' => ∃ (v9 v10 v11 : Option V) (g : Addr) (my : Int) (vs : List V) (Y : List BR), σ' = [some (.ref a), some (.int n), some (.ref d), some (.ref g), some (.ref N), some (.int my), some (.int (0 + (i : Int))), some (.str w), some (.int nb), v9, v10, v11] ∧ H' g = some (.lst vs) ∧ H g = none ∧ g ≠ N ∧ RowsB H' vs (W ++ Y) ∧ H' N = some (.lst ((nm ++ [w]).map V.str)) ∧ V.ref N ∉ vs ∧ BlkOk n nm w W Y ∧ BR.work w ∈ Y ∧ (∀ r ∈ Y, r.kind ≠ 9) ∧ Y.length ≤ 71 ∧ Same H H') ?_ fun REST => ?_
      · rintro σ' H7 ⟨v9, v10, v11, g7, my7, vs7, Y7, rfl, hg7, gH7, gN7, hB7, hN7, nN7, hY7, hwk7, h97, hl7, s7⟩
        have lv7 := hB7.length
        rw [List.length_append] at lv7
        have fin : ∀ (v9 v10 v11 : Option V) (H8 : Hp) (vs8 : List V) (Y8 : List BR), H8 g7 = some (.lst vs8) → RowsB H8 vs8 (W ++ Y8) → H8 N = some (.lst ((nm ++ [w]).map V.str)) → V.ref N ∉ vs8 → BlkOk n nm w W Y8 → BR.work w ∈ Y8 → Y8.length ≤ 72 → Same H H8 → ∃ (v6 v7 v8 v9' v10' v11' : Option V) (g : Addr) (my : Int) (vs : List V) (W : List BR) (nm : List Str), [some (V.ref a), some (V.int n), some (V.ref d), some (V.ref g7), some (V.ref N), some (V.int my7), some (V.int (0 + (i : Int))), some (V.str w), some (V.int nb), v9, v10, v11] = [some (.ref a), some (.int n), some (.ref d), some (.ref g), some (.ref N), some (.int my), v6, v7, v8, v9', v10', v11'] ∧ H8 g = some (.lst vs) ∧ H g = none ∧ g ≠ N ∧ RowsB H8 vs W ∧ H8 N = some (.lst (nm.map V.str)) ∧ V.ref N ∉ vs ∧ WkOk n nm W ∧ nm.length = i + 1 ∧ (∀ j x, nm[j]? = some x → fl x = 97 + j) ∧ W.length ≤ 73 * (i + 1) ∧ Same H H8 := by
          intro v9 v10 v11 H8 vs8 Y8 f1 f2 f3 f4 f5 f6 f7 f8
          refine ⟨_, _, _, _, _, _, g7, my7, vs8, W ++ Y8, nm ++ [w], rfl, f1, gH7, gN7, f2, f3, f4, hW.join wn f5 f6, by rw [List.length_append]; show nm.length + 1 = _; omega, fun j x e => ?_, by rw [List.length_append]; omega, f8⟩
          by_cases hj : j < nm.length
          · rw [List.getElem?_append_left hj] at e
            exact hfl j x e
          · have hj2 := (List.getElem?_eq_some_iff.mp e).1
            rw [List.length_append] at hj2
            have hj3 : j < nm.length + 1 := hj2
            have ej : j = nm.length := by omega
            subst ej
            rw [List.getElem?_append_right (Nat.le_refl _), Nat.sub_self] at e
            cases e
            rw [hw', hnl]
        refine ⟨_, rfl, _, _, rfl, rfl, _, rfl, ite2 (fun yk => ?_) (fun _ => ?_)⟩
        · have hi0 : 0 < i := by
            have := of_decide_eq_true yk
            omega
          refine ⟨_, rfl, _, _, rfl, rfl, ⟨by decide, by decide⟩, _, _, rfl, rfl, (by show (0 : Int) < _; decide +kernel), _, _, rfl, rfl, _, rfl, ite2 (fun _ => ?_) (fun _ => ?_)⟩
          · have pi : (0 : Int) < 0 + (i : Int) := by omega
            have x0 := Int.emod_nonneg (nb / 48) (Int.ne_of_gt pi)
            have x1 := Int.emod_lt_of_pos (nb / 48) pi
            obtain ⟨kx, ekx⟩ : ∃ kx : Nat, nb / 48 % (0 + (i : Int)) = ((kx : Nat) : Int) := ⟨(nb / 48 % (0 + (i : Int))).toNat, by omega⟩
            have hkx : kx < nm.length := by omega
            obtain ⟨x, ex⟩ : ∃ x, nm[kx]? = some x := ⟨_, List.getElem?_eq_getElem hkx⟩
            have hx := hfl kx x ex
            have xw : x ≠ w := fun e => by rw [e, hw'] at hx; omega
            have xm : x ∈ nm := List.mem_of_getElem? ex
            have ax : atI ((nm ++ [w]).map V.str) (nb / 48 % (0 + (i : Int))) = some (.str x) := by
              rw [ekx]
              exact atNat (by rw [List.getElem?_map, List.getElem?_append_left hkx, ex]; rfl)
            refine ⟨_, rfl, _, rfl, _, _, rfl, rfl, ⟨by decide, by decide⟩, _, rfl, _, _, rfl, rfl, pi, N, _, _, _, rfl, rfl, sqL_new hN7, ax, _, rfl, by show 2 ≤ sizeLine; decide, fun pr hpr => ?_⟩
            have s8 := same_new' hpr (.lst [.str x, .str w])
            have hpr8 : upd H7 pr (.lst [.str x, .str w]) pr = some (.lst [.str x, .str w]) := upd_same
            have prg : pr ≠ g7 := fun e => by rw [e, hg7] at hpr; cases hpr
            have prN : pr ≠ N := fun e => by rw [e, hN7] at hpr; cases hpr
            have prH : H pr = none := up hpr s7
            have prv : V.ref pr ∉ vs7 := fun h => by
              obtain ⟨r, _, hh⟩ := hB7.mem h
              rw [hpr] at hh
              cases hh
            generalize upd H7 pr (.lst [.str x, .str w]) = H8 at s8 hpr8 ⊢
            have mn : ∃ mn : Int, (if (3 : Int) < n + 1 then 3 else n + 1) = mn := ⟨_, rfl⟩
            obtain ⟨mn, emn⟩ := mn
            have hmn : 1 ≤ mn ∧ mn ≤ n + 1 := by rw [← emn]; split <;> omega
            have q0 := Int.emod_nonneg (nb / 500) (show mn ≠ 0 by omega)
            have q1 := Int.emod_lt_of_pos (nb / 500) (show 0 < mn by omega)
            refine name_cut (fun σ' H' => ∃ (x1 x2 : Str), σ' = [some (.ref a), some (.int n), some (.ref d), some (.ref g7), some (.ref N), some (.int my7), some (.int (0 + (i : Int))), some (.str w), some (.int nb), v9, v10, some (.ref pr)] ∧ H' pr = some (.lst [.str x1, .str x2]) ∧ H' g7 = some (.lst vs7) ∧ RowsB H' vs7 (W ++ Y7) ∧ H' N = some (.lst ((nm ++ [w]).map V.str)) ∧ Same H H' ∧ x1 ≠ x2 ∧ (w = x1 ∨ w = x2) ∧ x1 ∈ nm ++ [w] ∧ x2 ∈ nm ++ [w]) ?_ fun REST2 => ?_
            · rintro σ' H9 ⟨x1, x2, rfl, hpr9, hg9, hB9, hN9, s9, x12, hwx, m1, m2⟩
              refine ⟨_, rfl, .inl ⟨rfl, _, sqL_new hg9⟩, _, rfl, pr, _, _, _, rfl, rfl, sqL_new hpr9, at0, _, rfl, pr, _, _, _, rfl, rfl, sqL_new hpr9, at1, _, rfl, _, _, rfl, rfl, ⟨by decide, by decide⟩, _, rfl, _, _, rfl, rfl, _, _, rfl, ?_⟩
              rw [emn]
              refine ⟨_, _, rfl, rfl, (by show 0 < mn; omega), by show 4 ≤ sizeLine; decide, fun l9 hl9 => ?_⟩
              have lN9 : l9 ≠ N := fun e => by rw [e, hN9] at hl9; cases hl9
              have s10 := same_new' hl9 (.lst [.str "after", .str x1, .str x2, .int (nb / 500 % mn)])
              have hl99 : upd H9 l9 (.lst [.str "after", .str x1, .str x2, .int (nb / 500 % mn)]) l9 = some (.lst ((BR.after x1 x2 (nb / 500 % mn)).cells.map kV)) := upd_same
              generalize upd H9 l9 (.lst [.str "after", .str x1, .str x2, .int (nb / 500 % mn)]) = H10 at s10 hl99 ⊢
              have hg10 := s10 _ _ hg9
              refine ⟨g7, _, _, rfl, rfl, hg10, by omega, ?_⟩
              have hB11 := ((hB9.same s10).snoc hl99).updL (zs := vs7 ++ [.ref l9]) hg10 hB9.noRow
              rw [List.append_assoc] at hB11
              refine fin _ _ _ _ _ (Y7 ++ [BR.after x1 x2 (nb / 500 % mn)]) upd_same hB11 (by rw [upd_ne gN7.symm]; exact s10 _ _ hN9) (fun h => ?_) (hY7.snoc ⟨x12, q0, by omega⟩ ?_ (fun y hy => ?_) (fun r hr => apart_kind (h97 r hr))) (List.mem_append_left _ hwk7) (by rw [List.length_append]; show Y7.length + 1 ≤ 72; omega) (fun c o e => by rw [upd_ne (ne_of_none e gH7)]; exact (s9.trans s10) _ _ e)
              · rcases List.mem_append.mp h with h | h
                · exact nN7 h
                · have h2 := List.mem_singleton.mp h
                  injection h2 with h3
                  exact lN9 h3.symm
              · rcases hwx with e | e
                · rw [e]; exact List.mem_cons_self
                · rw [e]; exact List.mem_cons_of_mem _ List.mem_cons_self
              · rcases List.mem_cons.mp hy with e | e
                · rw [e]; exact m1
                · rw [List.mem_singleton.mp e]; exact m2
            · have xi : x ∈ nm ++ [w] := List.mem_append_left _ xm
              have wi : w ∈ nm ++ [w] := List.mem_append_right _ List.mem_cons_self
              refine ⟨_, rfl, _, _, rfl, rfl, ⟨by decide, by decide⟩, _, _, rfl, rfl, (by show (0 : Int) < _; decide +kernel), rfl, _, rfl, ite2 (fun _ => ?_) (fun _ => ?_)⟩
              · refine ⟨_, rfl, .inl ⟨rfl, _, sqL_new hpr8⟩, pr, _, rfl, rfl, hpr8, REST2 _ _ ⟨w, x, rfl, upd_same, ?_, ?_, ?_, fun c o e => ?_, xw.symm, .inl rfl, wi, xi⟩⟩
                · rw [upd_ne prg.symm]; exact s8 _ _ hg7
                · exact (hB7.same s8).imp fun l r hm z => by rw [upd_ne (fun e => prv (by rw [← e]; exact hm))]; exact z
                · rw [upd_ne prN.symm]; exact s8 _ _ hN7
                · rw [upd_ne (ne_of_none e prH)]; exact (s7.trans s8) _ _ e
              · exact REST2 _ _ ⟨x, w, rfl, hpr8, s8 _ _ hg7, hB7.same s8, s8 _ _ hN7, s7.trans s8, xw, .inr rfl, xi, wi⟩
          · exact fin _ _ _ _ _ _ hg7 hB7 hN7 nN7 hY7 hwk7 (by omega) s7
        · exact fin _ _ _ _ _ _ hg7 hB7 hN7 nN7 hY7 hwk7 (by omega) s7
      · have e0 := Int.emod_nonneg (nb / 24) (show (n + 1) ≠ 0 by omega)
        have e1 := Int.emod_lt_of_pos (nb / 24) (show 0 < n + 1 by omega)
        have c0 := Int.emod_nonneg (nb / 400) (show (999 : Int) ≠ 0 by decide)
        have c1 := Int.emod_lt_of_pos (nb / 400) (show (0 : Int) < 999 by decide)
        refine ⟨_, rfl, _, _, rfl, rfl, ⟨by decide, by decide⟩, _, _, rfl, rfl, (by show (0 : Int) < _; decide +kernel), rfl, _, rfl, ite2 (fun _ => ?_) (fun _ => ?_)⟩
        · refine ⟨_, rfl, .inl ⟨rfl, _, sqL_new hg6⟩, _, rfl, _, rfl, _, _, rfl, rfl, ⟨by decide, by decide⟩, _, rfl, _, _, rfl, rfl, _, _, rfl, rfl, (by show 0 < n + 1; omega), _, rfl, _, _, rfl, rfl, ⟨by decide, by decide⟩, _, _, rfl, rfl, (by show (0 : Int) < _; decide +kernel), _, _, rfl, rfl, by show 4 ≤ sizeLine; decide, fun l7 hl7 => ?_⟩
          have lN7 : l7 ≠ N := fun e => by rw [e, hN6] at hl7; cases hl7
          have s7 := same_new' hl7 (.lst [.str "late", .str w, .int (nb / 24 % (n + 1)), .int (1 + nb / 400 % 999)])
          have hl77 : upd H6 l7 (.lst [.str "late", .str w, .int (nb / 24 % (n + 1)), .int (1 + nb / 400 % 999)]) l7 = some (.lst ((BR.late w (nb / 24 % (n + 1)) (1 + nb / 400 % 999)).cells.map kV)) := upd_same
          generalize upd H6 l7 (.lst [.str "late", .str w, .int (nb / 24 % (n + 1)), .int (1 + nb / 400 % 999)]) = H7 at s7 hl77 ⊢
          have hg7 := s7 _ _ hg6
          refine ⟨g6, _, _, rfl, rfl, hg7, by omega, REST _ _ ⟨_, _, _, g6, my6, _, BR.work w :: Y ++ [BR.late w (nb / 24 % (n + 1)) (1 + nb / 400 % 999)], rfl, upd_same, gH6, gN6, ?_, ?_, fun h => ?_, hBk.snoc ⟨e0, by omega, by omega, by omega⟩ List.mem_cons_self (fun x hx => ?_) (fun r hr => apart_kind (no10 r hr)), List.mem_append_left _ List.mem_cons_self, fun r hr => ?_, ?_, fun c o e => ?_⟩⟩
          · have h5 := ((hB6.same s7).snoc hl77).updL (zs := vs6 ++ [.ref l7]) hg7 hB6.noRow
            rw [List.append_assoc] at h5
            exact h5
          · rw [upd_ne gN6.symm]; exact s7 _ _ hN6
          · rcases List.mem_append.mp h with h | h
            · exact nN6 h
            · have h2 := List.mem_singleton.mp h
              injection h2 with h3
              exact lN7 h3.symm
          · rw [List.mem_singleton.mp hx]; exact List.mem_append_right _ List.mem_cons_self
          · rcases List.mem_append.mp hr with h | h
            · exact no9 r h
            · rw [List.mem_singleton.mp h]; show (10 : Nat) ≠ 9; decide
          · rw [List.length_append, List.length_cons]; show Y.length + 1 + 1 ≤ 71; omega
          · rw [upd_ne (ne_of_none e gH6)]; exact (s6'.trans s7) _ _ e
        · exact REST _ _ ⟨_, _, _, g6, my6, vs6, BR.work w :: Y, rfl, hg6, gH6, gN6, hB6, hN6, nN6, hBk, List.mem_cons_self, no9, by rw [List.length_cons]; omega, s6'⟩
  · rintro σ H1 ⟨v6, v7, v8, v9, v10, v11, g, my, vs, W, nm, rfl, hg1, gH, gN, hB1, hN1, nN1, hW, hnl, hfl, hlen, s1'⟩
    exact ⟨_, rfl, q g vs nm W H1 s1' gH hg1 hB1 hW (by omega)⟩
end
end Nb
namespace Nb
open PySem L2
noncomputable abbrev sBook : Stmt := top 19
theorem thing_own {r : BR} (h : Thing r) : r.own = [] := by cases h <;> rfl
theorem thing_kind {r : BR} (h : Thing r) : r.kind ≠ 0 := by
  cases h with
  | bench b r => show (1 : Nat) ≠ 0; decide
  | shut b f t => show (2 : Nat) ≠ 0; decide
  | store b m f => show (3 : Nat) ≠ 0; decide
theorem book_wb {n : Int} {nm : List Str} {T W : List BR} (tT : ThOk n T) (hW : WkOk n nm W) (tl : T.length ≤ 11) (wl : W.length ≤ 370) : WB n (.days n :: (T ++ W)) := by
  refine ⟨fun r hr => ?_, List.pairwise_cons.mpr ⟨fun r hr => ?_, List.pairwise_append.mpr ⟨tT.nd, hW.nd, fun r hr q hq => ?_⟩⟩, fun r hr w hw => ?_, ?_⟩
  · rcases List.mem_cons.mp hr with e | e
    · rw [e]; rfl
    · rcases List.mem_append.mp e with e | e
      · exact tT.ok r e
      · exact hW.ok r e
  · rcases List.mem_append.mp hr with e | e
    · exact apart_kind (fun z => thing_kind (tT.th r e) z.symm)
    · refine .inr (.inr fun z => ?_)
      cases ho : r.own with
      | nil => exact (hW.own r e).1 ho
      | cons w ws =>
        have h5 : w ∈ (BR.days n).own := own_key z (by rw [ho]; exact List.mem_cons_self)
        exact nomatch h5
  · refine .inr (.inr fun z => ?_)
    cases ho : q.own with
    | nil => exact (hW.own q hq).1 ho
    | cons w ws =>
      have h5 : w ∈ r.own := own_key z (by rw [ho]; exact List.mem_cons_self)
      rw [thing_own (tT.th r hr)] at h5
      exact nomatch h5
  · rcases List.mem_cons.mp hr with e | e
    · rw [e] at hw; exact nomatch hw
    · rcases List.mem_append.mp e with e | e
      · rw [thing_own (tT.th r e)] at hw; exact nomatch hw
      · exact List.mem_cons_of_mem _ (List.mem_append_right _ (hW.wk w ((hW.own r e).2 w hw)))
  · rw [List.length_cons, List.length_append]; omega
structure BookOk (n : Int) (B : List BR) : Prop where
  n1 : 1 ≤ n
  n12 : n ≤ 12
  wb : WB n B
  hd : B[0]? = some (.days n)
theorem perm_in {α : Type} (B : List α) (k : Nat) (r : α) : (B.take k ++ [r] ++ B.drop k).Perm (r :: B) := by
  have h := List.perm_middle (a := r) (l₁ := B.take k) (l₂ := B.drop k)
  rw [List.take_append_drop] at h
  rwa [List.append_assoc]
noncomputable def spBook (K : PySem.W.Frag) : Sp := fun vs H Q _ => ∃ (a : Addr) (ns : List Int), vs = [.ref a] ∧ SqL K H a (ns.map V.int) ∧
  ∀ (g : Addr) (vs : List V) (n : Int) (B : List BR) (H' : Hp), Same H H' → H' g = some (.lst vs) → RowsB H' vs B → BookOk n B → Q (.ref g) H'
section
variable {P : Program} {w : World} {K : PySem.W.Frag} {mg : Str → Option Value} {base : Heap}
theorem scBook : FnScope ["_law_script", "_law_days", "_law_things_here", "_law_rows", "_law_mixed_here", "_law_k", "_law_row"] ["_law_script"] (defScope sBook) := ⟨rfl, rfl, rfl, by decide +kernel, rfl, by decide +kernel, by decide +kernel⟩
theorem okBook (F : Fn K mg "_law_book" sBook) (M : Mg mg) (cl_mixed : Cal P w K mg base 2 "_law_mixed" ["_law_script", "_law_k"] (spMixed K)) (cl_things : Cal P w K mg base 4 "_law_things" ["_law_script", "_law_days"] (spThings K)) (cl_works : Cal P w K mg base 4 "_law_works" ["_law_script", "_law_days", "_law_things_here"] (spWorks K)) (cl_put : Cal P w K mg base 1 "_law_put" ["_law_rows", "_law_row", "_law_number"] (spPut K)) : Cal P w K mg base 5 "_law_book" ["_law_script"] (spBook K) := by
  refine cal_of F scBook (fun _ _ _ _ _ _ => bind1 (fun _ => rfl)) (fun vs H Q E h => ?_) (fun f cdv A outer s H vs Q E hr h => ?_)
  · obtain ⟨a, ns, rfl, _⟩ := h
    rfl
  obtain ⟨a, ns, rfl, hS, q⟩ := h
  refine ⟨_, (pss_cons (ps_set (i := 1) scBook.nd rfl (Or.inl rfl) (pe_op op_add pe_int (pe_op op_mod (pe_fn cl_mixed (hr.mono (by decide)) (pa_cons (pv 0) (pa_cons pe_int pa_nil))) pe_int)))
    (pss_cons (ps_set (i := 2) scBook.nd rfl (Or.inl rfl) (pe_fn cl_things (hr.mono (by decide)) (pa_cons (pv 0) (pa_cons (pv 1) pa_nil))))
    (pss_cons (ps_set (i := 3) scBook.nd rfl (Or.inl rfl) (pe_lst (pa_cons (pe_lst (pa_cons pe_str (pa_cons (pv 1) pa_nil))) pa_nil)))
    (pss_cons (ps_set (i := 4) scBook.nd rfl (Or.inl rfl) (pe_cmpR op_eq (pe_op op_mod (pe_fn cl_mixed (hr.mono (by decide)) (pa_cons (pv 0) (pa_cons pe_int pa_nil))) pe_int) pe_int (nomark _)))
    (pss_cons (ps_for PassesOwn.never rfl (pi_enum true rfl M.enumerate_ (pa_cons (pe_op op_cat (pv 2) (pe_fn cl_works (hr.mono (by decide)) (pa_cons (pv 0) (pa_cons (pv 1) (pa_cons (pv 2) pa_nil))))) pa_nil)) (pg_pair (K := K) (i := 5) (j := 6) rfl rfl scBook.nd rfl rfl rfl rfl) (pss_one (ps_if (pt_val (pv 4)) (pss_one (ps_set (i := 3) scBook.nd rfl (Or.inl rfl) (pe_fn cl_put (hr.mono (by decide)) (pa_cons (pv 3) (pa_cons (pv 6) (pa_cons (pe_fn cl_mixed (hr.mono (by decide)) (pa_cons (pv 0) (pa_cons (pe_op op_add pe_int (pv 5)) pa_nil))) pa_nil)))))) (pss_one (ps_set (i := 3) scBook.nd rfl (Or.inl rfl) (pe_op op_cat (pv 3) (pe_lst (pa_cons (pv 6) pa_nil))))))))
    (pss_one (ps_ret (pv 3)))))))), ?_⟩
  refine seq_let6 ?_
  intro rT6 rT5 rT4 rT3 rT2
  have hz : (20000 : Nat) < sizeLine := by decide
  refine ⟨_, rfl, a, ns, 0, rfl, hS, by decide, by decide, fun z z0 z1 => ?_⟩
  refine ⟨_, _, rfl, rfl, (by show (0 : Int) < _; decide +kernel), _, _, rfl, rfl, ?_⟩
  dsimp only
  generalize hn : 1 + z % 12 = n
  have n1 : 1 ≤ n ∧ n ≤ 12 := by omega
  refine ⟨_, rfl, _, rfl, a, ns, n, rfl, hS, n1.1, n1.2, fun gt vt T H1 s1 fgt hgt hBT tT tl => ?_⟩
  refine ⟨_, rfl, by show 2 ≤ sizeLine; decide, fun l hl => ?_⟩
  have s2 := s1.trans (same_new' hl (.lst [.str "days", .int n]))
  have s12 := same_new' hl (.lst [.str "days", .int n])
  have hl2 : upd H1 l (.lst [.str "days", .int n]) l = some (.lst ((BR.days n).cells.map kV)) := upd_same
  generalize upd H1 l (.lst [.str "days", .int n]) = H2 at s2 s12 hl2 ⊢
  refine ⟨by show 1 ≤ sizeLine; decide, fun g0 hg0 => ?_⟩
  have s23 := same_new' hg0 (.lst [.ref l])
  have s3 := s2.trans s23
  have s13 := s12.trans s23
  have hg3 : upd H2 g0 (.lst [.ref l]) g0 = some (.lst [.ref l]) := upd_same
  have hB3 : RowsB (upd H2 g0 (.lst [.ref l])) [.ref l] [.days n] := RowsB.snoc (vs := []) (B := []) .nil (s23 _ _ hl2)
  generalize upd H2 g0 (.lst [.ref l]) = H3 at s23 s3 s13 hg3 hB3 ⊢
  refine ⟨_, rfl, a, ns, 3, rfl, s3.seq hS, by decide, by decide, fun y y0 y1 => ?_⟩
  refine ⟨_, _, rfl, rfl, (by show (0 : Int) < _; decide +kernel), rfl, ?_⟩
  generalize decide (V.int (y % 2) = V.int 1) = bb
  refine ⟨_, rfl, _, rfl, _, rfl, _, rfl, a, gt, ns, n, vt, T, rfl, s3.seq hS, n1.1, n1.2, sqL_new (s13 _ _ hgt), hBT.same s13, tT, tl, fun gw vw nm W H4 s4 fgw hgw hBW hW wl => ?_⟩
  have lvt := hBT.length
  have lvw := hBW.length
  refine ⟨gt, gw, _, _, rfl, rfl, s4 _ _ (s13 _ _ hgt), hgw, by omega, fun p hp => ?_⟩
  have s45 := same_new' hp (.lst (vt ++ vw))
  have hp5 : upd H4 p (.lst (vt ++ vw)) p = some (.lst (vt ++ vw)) := upd_same
  have hX5 : RowsB (upd H4 p (.lst (vt ++ vw))) (vt ++ vw) (T ++ W) := ((hBT.same (s13.trans s4)).same s45).app (hBW.same s45)
  have s5 := (s3.trans s4).trans s45
  have hg5 := (s4.trans s45) _ _ hg3
  have hB5 := hB3.same (s4.trans s45)
  generalize upd H4 p (.lst (vt ++ vw)) = H5 at s45 hp5 hX5 s5 hg5 hB5 ⊢
  have lx := hX5.length
  refine ⟨p, rfl, ⟨_, sqL_new hp5⟩, for_enum (K := K) (m := true) (a := p) (xs := vt ++ vw) (fun i σ H6 => ∃ (v5 v6 : Option V) (g : Addr) (vs : List V) (B : List BR), σ = [some (.ref a), some (.int n), some (.ref gt), some (.ref g), some (.bl bb), v5, v6] ∧ H6 g = some (.lst vs) ∧ RowsB H6 vs B ∧ B.Perm (BR.days n :: (T ++ W).take i) ∧ B[0]? = some (.days n) ∧ Same H5 H6) ⟨none, none, g0, _, [.days n], rfl, hg5, hB5, .refl _, rfl, Same.refl _⟩ (fun i σ H6 _ h => ?_) ?_ ?_⟩
  · obtain ⟨v5, v6, g, vs, B, rfl, hg6, hB6, hpm, hB0, s6⟩ := h
    exact s6.seq (sqL_new hp5)
  · rintro i x σ H6 T' e1 ⟨v5, v6, g, vs, B, rfl, hg6, hB6, hpm, hB0, s6⟩ hT'
    obtain ⟨r, lr, er, rfl, hr5⟩ := hX5.get e1
    have hi := (List.getElem?_eq_some_iff.mp er).1
    rw [List.length_append] at hi
    have lB : B.length = i + 1 := by
      rw [hpm.length_eq, List.length_cons, List.length_take, List.length_append]
      omega
    have lvs := hB6.length
    have s67 := same_new' hT' (.tup [.int ((i : Nat) : Int), .ref lr])
    refine ⟨T', _, rfl, sqT_new upd_same, rfl, _, _, rfl, _, _, rfl, rfl, ?_⟩
    generalize upd H6 T' (.tup [.int ((i : Nat) : Int), .ref lr]) = H7 at s67 ⊢
    have s57 := s6.trans s67
    have hr7 := s57 _ _ hr5
    have hg7 := s67 _ _ hg6
    have hB7 := hB6.same s67
    have tk : (T ++ W).take (i + 1) = (T ++ W).take i ++ [r] := takeS er
    have fin : ∀ {B' : List BR}, B'.Perm (r :: B) → B'.Perm (BR.days n :: (T ++ W).take (i + 1)) := fun h => by
      rw [tk]
      refine h.trans ((List.Perm.cons r hpm).trans ?_)
      refine (List.Perm.swap _ _ _).trans (.cons _ ?_)
      have h5 := List.perm_append_comm (l₁ := [r]) (l₂ := (T ++ W).take i)
      exact h5
    refine ⟨_, rfl, _, rfl, ite2 (fun _ => ?_) (fun _ => ?_)⟩
    · refine ⟨_, rfl, _, rfl, _, rfl, _, rfl, _, _, rfl, rfl, a, ns, _, rfl, (s5.trans s57).seq hS, by omega, by omega, fun y' y0' y1' => ?_⟩
      refine ⟨g, lr, _, vs, B, r, rfl, hg7, hB7, by omega, by omega, hr7, fun g8 k H8 k1 k2 s8 fg8 hg8 => ?_⟩
      refine ⟨_, _, g8, _, B.take k ++ [r] ++ B.drop k, rfl, hg8, (((hB7.same s8).take k).snoc (s8 _ _ hr7)).app ((hB7.same s8).drop k), fin (perm_in B k r), ?_, s57.trans s8⟩
      rw [List.append_assoc, List.getElem?_append_left (by rw [List.length_take]; omega), List.getElem?_take]
      rw [if_pos (by omega)]
      exact hB0
    · refine ⟨_, rfl, _, rfl, by show 1 ≤ sizeLine; decide, fun p9 hp9 => ?_⟩
      have s9 := same_new' hp9 (.lst [.ref lr])
      refine ⟨g, p9, _, _, rfl, rfl, s9 _ _ hg7, upd_same, by show vs.length + 1 ≤ _; omega, fun g8 hg8 => ?_⟩
      have s10 := s9.trans (same_new' hg8 (.lst (vs ++ [.ref lr])))
      refine ⟨_, _, g8, _, B ++ [r], rfl, upd_same, (hB7.same s10).snoc (s10 _ _ hr7), fin (List.perm_append_comm (l₁ := B) (l₂ := [r])), ?_, s57.trans s10⟩
      rw [List.getElem?_append_left (by omega)]
      exact hB0
  · rintro σ H6 ⟨v5, v6, g, vs, B, rfl, hg6, hB6, hpm, hB0, s6⟩
    rw [lx, List.take_length] at hpm
    exact ⟨_, rfl, q g vs n B H6 (s5.trans s6) hg6 hB6 ⟨n1.1, n1.2, (book_wb tT hW tl wl).perm hpm.symm, hB0⟩⟩
end
end Nb
namespace Nb
open PySem L2
noncomputable abbrev sWays : Stmt := top 20
noncomputable abbrev sLength : Stmt := top 22
theorem sl_listK {X : Cx} {K : PySem.W.Frag} (hK : X.K = K) : SlR X (rSlL K) := by subst hK; exact sl_list
noncomputable def isWay (w : Str) : BR → Bool
  | .way w' _ _ _ => decide (w' = w)
  | _ => false
theorem isWay_no {w : Str} {r : BR} (h : r.word ≠ "way") : isWay w r = false := by
  cases r with
  | way w' v l c => exact absurd rfl h
  | _ => rfl
theorem filter_next {α : Type} {B : List α} {i : Nat} {r : α} (p : α → Bool) (h : B[i]? = some r) : (B.take (i + 1)).filter p = (B.take i).filter p ++ (if p r = true then [r] else []) := by
  rw [takeS h, List.filter_append]
  by_cases c : p r = true
  · rw [if_pos c, List.filter_cons_of_pos c, List.filter_nil]
  · rw [if_neg c, List.filter_cons_of_neg c, List.filter_nil]
noncomputable def spWays (_ : PySem.W.Frag) : Sp := fun vs H Q _ => ∃ (d : Addr) (w : Str) (us : List V) (B : List BR), vs = [.ref d, .str w] ∧ H d = some (.lst us) ∧ RowsB H us B ∧ B.length ≤ 1000 ∧
  ∀ (D : Addr) (ys : List V) (H' : Hp), Same H H' → H D = none → H' D = some (.lst ys) → RowsB H' ys (B.filter (isWay w)) → Q (.ref D) H'
noncomputable def lenOf (w v : Str) : BR → Option Int
  | .way w' v' l _ => if w' = w ∧ v' = v then some l else none
  | _ => none
noncomputable def cut3 (ks : List Key) : cutV (ks.map kV) none (some 3) = (ks.take 3).map kV := by
  unfold cutV
  rw [HT.sIx_none, List.drop_zero, Nat.sub_zero, List.length_map, show (3 : Int) = ((3 : Nat) : Int) from rfl, HT.sIx_nat, ← List.map_take]
  by_cases h : 3 ≤ ks.length
  · rw [Nat.min_eq_left h]
  · rw [Nat.min_eq_right (by omega), List.take_length, List.take_of_length_le (by omega)]
theorem way3 {r : BR} {w v : Str} : r.cells.take 3 = [Sum.inr ("way" : Str), Sum.inr w, Sum.inr v] ↔ ∃ l c, r = .way w v l c := by
  constructor
  · intro h
    have hw : r.word = "way" := by
      have h1 : (r.cells.take 3).head? = some (Sum.inr ("way" : Str)) := by rw [h]; rfl
      have h2 : (r.cells.take 3).head? = some (Sum.inr r.word) := by cases r <;> rfl
      rw [h2] at h1
      exact Sum.inr.inj (Option.some.inj h1)
    obtain ⟨w', v', l, c, rfl⟩ := word_way hw
    have h' : [(Sum.inr ("way" : Str) : Key), Sum.inr w', Sum.inr v'] = [Sum.inr ("way" : Str), Sum.inr w, Sum.inr v] := h
    injection h' with _ h2
    injection h2 with h3 h4
    injection h4 with h5
    cases h3
    cases h5
    exact ⟨l, c, rfl⟩
  · rintro ⟨l, c, rfl⟩
    rfl
theorem lenOf_some {w v : Str} {r : BR} {x : Int} : lenOf w v r = some x ↔ ∃ c, r = .way w v x c := by
  constructor
  · intro h
    cases r with
    | way w' v' l c =>
      have h' : (if w' = w ∧ v' = v then some l else none) = some x := h
      by_cases e : w' = w ∧ v' = v
      · rw [if_pos e] at h'
        cases h'
        rw [e.1, e.2]
        exact ⟨c, rfl⟩
      · rw [if_neg e] at h'; cases h'
    | _ => cases h
  · rintro ⟨c, rfl⟩
    exact if_pos ⟨rfl, rfl⟩
theorem fmap_next {α β : Type} {B : List α} {i : Nat} {r : α} (p : α → Option β) (h : B[i]? = some r) : (B.take (i + 1)).filterMap p = (B.take i).filterMap p ++ (p r).toList := by
  rw [takeS h, List.filterMap_append]
  congr 1
theorem WB.uniq {n : Int} {B : List BR} (h : WB n B) {r q : BR} (hr : r ∈ B) (hq : q ∈ B) (hk : r.key = q.key) (hs : r.word ≠ "shut") : r = q := by
  obtain ⟨i, ei⟩ := List.mem_iff_getElem?.mp hr
  obtain ⟨j, ej⟩ := List.mem_iff_getElem?.mp hq
  have hs' : q.word ≠ "shut" := by
    have h1 : ((Sum.inr r.word : Key) :: r.names.map Sum.inr) = Sum.inr q.word :: q.names.map Sum.inr := hk
    injection h1 with h2
    rw [← Sum.inr.inj h2]; exact hs
  rcases Nat.lt_trichotomy i j with c | c | c
  · rcases pw_at h.nd c ei ej with z | z | z
    · exact absurd z hs
    · exact absurd z hs'
    · exact absurd hk z
  · subst c
    exact Option.some.inj (ei.symm.trans ej)
  · rcases pw_at h.nd c ej ei with z | z | z
    · exact absurd z hs'
    · exact absurd z hs
    · exact absurd hk.symm z
theorem WB.way1 {n : Int} {B : List BR} (h : WB n B) {w v : Str} {l c l' c' : Int} (h1 : .way w v l c ∈ B) (h2 : .way w v l' c' ∈ B) : l = l' ∧ c = c' := by
  have := h.uniq h1 h2 rfl (by show ¬ (("way" : Str) = "shut"); decide +kernel)
  cases this
  exact ⟨rfl, rfl⟩
noncomputable def spLength (_ : PySem.W.Frag) : Sp := fun vs H Q _ => ∃ (d : Addr) (w v : Str) (n : Int) (us : List V) (B : List BR) (l c : Int), vs = [.ref d, .str w, .str v] ∧ H d = some (.lst us) ∧ RowsB H us B ∧ WB n B ∧ .way w v l c ∈ B ∧ ∀ (H' : Hp), Same H H' → Q (.int l) H'
section
variable {P : Program} {w : World} {K : PySem.W.Frag} {mg : Str → Option Value} {base : Heap}
theorem scWays : FnScope ["_law_book_here", "_law_work"] ["_law_book_here", "_law_work"] (defScope sWays) := ⟨rfl, rfl, rfl, by decide +kernel, rfl, by decide +kernel, by decide +kernel⟩
theorem okWays (F : Fn K mg "_law_ways" sWays) (M : Mg mg) : Cal P w K mg base 1 "_law_ways" ["_law_book_here", "_law_work"] (spWays K) := by
  refine cal_of F scWays (fun _ _ _ _ _ _ => bind2 (fun _ _ => rfl)) (fun vs H Q E h => ?_) (fun f cdv A outer s H vs Q E hr h => ?_)
  · obtain ⟨d, w, us, B, rfl, _⟩ := h
    rfl
  obtain ⟨d, w, us, B, rfl, hd, hB, bl, q⟩ := h
  refine ⟨_, (pss_one (ps_ret (pe_lc ["_law_row", "_law_work"] [none, some 1] rfl (pi_list (pv 0)) (fun _ _ _ => (pg_name (i := 0) (show (["_law_row", "_law_work"] : List Str).Nodup by decide +kernel) rfl (Or.inl rfl) (Or.inr rfl))) (fun _ _ _ => (pf_one (PW.pt (pw_and (pt_cmpR op_eq (pe_ix (ix_listK (K := K) rfl) (pv 0) pe_int (fun _ _ => rfl)) pe_str (nomark _)) (pw_and1 (pt_cmpR op_eq (pe_ix (ix_listK (K := K) rfl) (pv 0) pe_int (fun _ _ => rfl)) (pv 1) (nomark _))))))) (fun _ _ _ => (pv 0))))), ?_⟩
  have hz : (20000 : Nat) < sizeLine := by decide
  have lu := hB.length
  refine ⟨_, rfl, d, rfl, ⟨_, sqL_new hd⟩, fun D hD => ?_⟩
  refine lc_any (n := B.length) (fun m τ ys H1 => ∃ v : Option V, τ = [v, some (.str w)] ∧ RowsB H1 ys ((B.take m).filter (isWay w)) ∧ ys.length ≤ m ∧ H1 D = some (.lst ys) ∧ Same H H1) ?_ (fun m τ ys H1 hm h => ?_) (fun m τ ys H1 hm h => ?_) (fun τ ys H1 h => ?_) ?_ ?_
  · exact ⟨none, rfl, .nil, Nat.le_refl _, upd_same, same_new' hD _⟩
  · obtain ⟨v, rfl, hY, hl, hE, s1⟩ := h
    exact ⟨hE, by omega⟩
  · obtain ⟨v, rfl, hY, hl, hE, s1⟩ := h
    exact ⟨us, us[m]'(by omega), s1.seq (sqL_new hd), List.getElem?_eq_getElem (by omega)⟩
  · obtain ⟨v, rfl, hY, hl, hE, s1⟩ := h
    exact ⟨us, s1.seq (sqL_new hd), by omega⟩
  · rintro m τ ys H1 x H2 hm ⟨v, rfl, hY, hl, hE, s1⟩ ⟨rfl, e1⟩
    obtain ⟨r, lr, er, rfl, hr⟩ := (hB.same s1).get (e1 _ (s1.seq (sqL_new hd)))
    have no : isWay w r = false → ∃ v : Option V, ([some (.ref lr), some (.str w)] : St) = [v, some (.str w)] ∧ RowsB H2 ys ((B.take (m + 1)).filter (isWay w)) ∧ ys.length ≤ m + 1 ∧ H2 D = some (.lst ys) ∧ Same H H2 := fun h => by
      refine ⟨_, rfl, ?_, by omega, hE, s1⟩
      rw [filter_next (isWay w) er, h, if_neg (by decide), List.append_nil]
      exact hY
    refine ⟨_, rfl, lr, _, _, _, rfl, rfl, sqL_new hr, at_word r, rfl, _, rfl, ite2 (fun y => ?_) (fun y => iteF (no (isWay_no fun e => y (by rw [e]; exact yesS _))))⟩
    obtain ⟨w', v', l', c', rfl⟩ := word_way (eqS y)
    refine ⟨_, rfl, lr, _, _, _, rfl, rfl, sqL_new hr, (show atI ((BR.way w' v' l' c').cells.map kV) 1 = some (.str w') from rfl), _, rfl, rfl, _, rfl, ite2 (fun y2 => ?_) (fun y2 => no ?_)⟩
    · have ew := eqS y2
      refine ⟨_, rfl, hE, _, rfl, ?_, by rw [List.length_append]; exact Nat.succ_le_succ hl, upd_same, fun b o e => ?_⟩
      · rw [filter_next (isWay w) er, show isWay w (.way w' v' l' c') = true from decide_eq_true ew, if_pos rfl]
        exact (hY.snoc hr).updL hE hY.noRow
      · rw [upd_ne (ne_of_none e hD)]; exact s1 _ _ e
    · exact decide_eq_false fun e => y2 (by rw [e]; exact yesS _)
  · rintro τ ys H1 ⟨v, rfl, hY, hl, hE, s1⟩
    rw [List.take_length] at hY
    exact q D ys H1 s1 hD hE hY
theorem scLength : FnScope ["_law_book_here", "_law_work", "_law_way_here"] ["_law_book_here", "_law_work", "_law_way_here"] (defScope sLength) := ⟨rfl, rfl, rfl, by decide +kernel, rfl, by decide +kernel, by decide +kernel⟩
theorem okLength (F : Fn K mg "_law_length" sLength) (M : Mg mg) : Cal P w K mg base 1 "_law_length" ["_law_book_here", "_law_work", "_law_way_here"] (spLength K) := by
  refine cal_of F scLength (fun _ _ _ _ _ _ => bind3 (fun _ _ _ => rfl)) (fun vs H Q E h => ?_) (fun f cdv A outer s H vs Q E hr h => ?_)
  · obtain ⟨d, w, v, n, us, B, l, c, rfl, _⟩ := h
    rfl
  obtain ⟨d, w, v, n, us, B, l, c, rfl, hd, hB, wb, hmem, q⟩ := h
  have hu6 : (A.deeper (PyProof.Rows.envOfC "_law_length" (defScope sLength) s.heap.objs.size f cdv)).units + 6 < cLine := Nat.lt_of_le_of_lt (Nat.add_le_add_left (by decide) _) hr.un
  refine ⟨_, (pss_one (ps_ret (pe_ix ix_list (pe_lc ["_law_row", "_law_work", "_law_way_here"] [none, some 1, some 2] rfl (pi_list (pv 0)) (fun _ _ _ => (pg_name (i := 0) (show (["_law_row", "_law_work", "_law_way_here"] : List Str).Nodup by decide +kernel) rfl (Or.inl rfl) (Or.inr rfl))) (fun _ _ _ => (pf_one (pt_cmpR (op_eqK (K := K) (n := 6) rfl hu6) (pe_slice (sl_listK (K := K) rfl) (pv 0) po_none (po_some pe_int)) (pe_lst (pa_cons pe_str (pa_cons (pv 1) (pa_cons (pv 2) pa_nil)))) (nomark _)))) (fun _ _ _ => (pe_ix (ix_listK (K := K) rfl) (pv 0) pe_int (fun _ _ => rfl)))) pe_int (fun _ _ => rfl)))), ?_⟩
  have hz : (20000 : Nat) < sizeLine := by decide
  have lu := hB.length
  have bl := wb.len
  refine ⟨_, rfl, d, rfl, ⟨_, sqL_new hd⟩, fun D hD => ?_⟩
  refine lc_any (n := B.length) (fun m τ ys H1 => ∃ v' : Option V, τ = [v', some (.str w), some (.str v)] ∧ ys = ((B.take m).filterMap (lenOf w v)).map V.int ∧ ys.length ≤ m ∧ H1 D = some (.lst ys) ∧ Same H H1) ?_ (fun m τ ys H1 hm h => ?_) (fun m τ ys H1 hm h => ?_) (fun τ ys H1 h => ?_) ?_ ?_
  · exact ⟨none, rfl, rfl, Nat.le_refl _, upd_same, same_new' hD _⟩
  · obtain ⟨v', rfl, ey, hl, hE, s1⟩ := h
    exact ⟨hE, by omega⟩
  · obtain ⟨v', rfl, ey, hl, hE, s1⟩ := h
    exact ⟨us, us[m]'(by omega), s1.seq (sqL_new hd), List.getElem?_eq_getElem (by omega)⟩
  · obtain ⟨v', rfl, ey, hl, hE, s1⟩ := h
    exact ⟨us, s1.seq (sqL_new hd), by omega⟩
  · rintro m τ ys H1 x H2 hm ⟨v', rfl, ey, hl, hE, s1⟩ ⟨rfl, e1⟩
    obtain ⟨r, lr, er, rfl, hr⟩ := (hB.same s1).get (e1 _ (s1.seq (sqL_new hd)))
    refine ⟨_, rfl, _, rfl, lr, _, rfl, sqL_new hr, fun p hp => ?_⟩
    rw [cut3]
    have s2 := same_new' hp (.lst ((r.cells.take 3).map kV))
    refine ⟨_, rfl, _, rfl, by show 3 ≤ sizeLine; decide, fun p2 hp2 => ?_⟩
    have s3 := same_new' hp2 (.lst [.str "way", .str w, .str v])
    have s23 := s2.trans s3
    refine ⟨p, p2, r.cells.take 3, [Sum.inr ("way" : Str), Sum.inr w, Sum.inr v], rfl, rfl, sqL_new (s3 _ _ upd_same), sqL_new upd_same, fun b hb => ⟨_, rfl, ite2 (fun y => ?_) (fun y => ?_)⟩⟩
    · obtain ⟨l', c', rfl⟩ := way3.mp (hb.mp y)
      refine ⟨_, rfl, lr, _, _, _, rfl, rfl, sqL_new (s23 _ _ hr), (show atI ((BR.way w v l' c').cells.map kV) 3 = some (.int l') from rfl), s23 _ _ hE, _, rfl, ?_, by rw [List.length_append]; exact Nat.succ_le_succ hl, upd_same, fun b o e => ?_⟩
      · rw [fmap_next (lenOf w v) er, show lenOf w v (.way w v l' c') = some l' from lenOf_some.mpr ⟨c', rfl⟩, List.map_append, ey]
        rfl
      · rw [upd_ne (ne_of_none e hD)]; exact s23 _ _ (s1 _ _ e)
    · refine ⟨_, rfl, ?_, by omega, s23 _ _ hE, s1.trans s23⟩
      have hn : lenOf w v r = none := by
        cases e : lenOf w v r with
        | none => rfl
        | some x =>
          obtain ⟨c', e2⟩ := lenOf_some.mp e
          exact absurd (hb.mpr (way3.mpr ⟨x, c', e2⟩)) y
      rw [fmap_next (lenOf w v) er, hn, ey]
      simp
  · rintro τ ys H1 ⟨v', rfl, ey, hl, hE, s1⟩
    rw [List.take_length] at ey
    have hx : ∀ x ∈ B.filterMap (lenOf w v), x = l := fun x hx => by
      obtain ⟨r, hr, e⟩ := List.mem_filterMap.mp hx
      obtain ⟨c', rfl⟩ := lenOf_some.mp e
      exact (wb.way1 hr hmem).1
    have hne : l ∈ B.filterMap (lenOf w v) := List.mem_filterMap.mpr ⟨_, hmem, lenOf_some.mpr ⟨c, rfl⟩⟩
    obtain ⟨x0, xs0, e0⟩ : ∃ x0 xs0, B.filterMap (lenOf w v) = x0 :: xs0 := by
      cases e : B.filterMap (lenOf w v) with
      | nil => rw [e] at hne; exact nomatch hne
      | cons a b => exact ⟨a, b, rfl⟩
    have ex : x0 = l := hx x0 (by rw [e0]; exact List.mem_cons_self)
    rw [e0, ex] at ey
    refine ⟨D, _, _, _, rfl, rfl, sqL_new hE, ?_, q H1 s1⟩
    rw [ey]
    exact atNat (k := 0) rfl
end
end Nb
namespace Nb
open PySem L2
noncomputable abbrev sDone : Stmt := top 25
noncomputable def lackOf (B : List BR) : BR → Option Str
  | .work w => if (B.filter (isWay w)).isEmpty = true then some w else none
  | _ => none
noncomputable def lack (B : List BR) : List Str := B.filterMap (lackOf B)
noncomputable def keepR (lk : List Str) (r : BR) : Bool := r.own.all fun w => !decide (w ∈ lk)
noncomputable def doneB (B : List BR) : List BR := B.filter (keepR (lack B))
theorem lackOf_no {B : List BR} {r : BR} (h : r.word ≠ "work") : lackOf B r = none := by
  cases r with
  | work w => exact absurd rfl h
  | _ => rfl
theorem lack_mem {B : List BR} {w : Str} : w ∈ lack B ↔ BR.work w ∈ B ∧ B.filter (isWay w) = [] := by
  unfold lack
  rw [List.mem_filterMap]
  constructor
  · rintro ⟨r, hr, e⟩
    cases r with
    | work w' =>
      have e' : (if (B.filter (isWay w')).isEmpty = true then some w' else none) = some w := e
      by_cases c : (B.filter (isWay w')).isEmpty = true
      · rw [if_pos c] at e'
        cases e'
        exact ⟨hr, List.isEmpty_iff.mp c⟩
      · rw [if_neg c] at e'; cases e'
    | _ => cases e
  · rintro ⟨h1, h2⟩
    refine ⟨_, h1, ?_⟩
    show (if (B.filter (isWay w)).isEmpty = true then some w else none) = some w
    rw [if_pos (by rw [h2]; rfl)]
theorem keep_iff {lk : List Str} {r : BR} : keepR lk r = true ↔ ∀ w ∈ r.own, w ∉ lk := by
  unfold keepR
  rw [List.all_eq_true]
  exact ⟨fun h w hw => by have := h w hw; simpa using this, fun h w hw => by have := h w hw; simpa using this⟩
theorem done_ok {n : Int} {B : List BR} (h : BookOk n B) : BookOk n (doneB B) := by
  refine ⟨h.n1, h.n12, ⟨fun r hr => h.wb.ok r (List.mem_filter.mp hr).1, h.wb.nd.sublist List.filter_sublist, fun r hr w hw => ?_, Nat.le_trans (List.length_filter_le _ _) h.wb.len⟩, ?_⟩
  · obtain ⟨h1, h2⟩ := List.mem_filter.mp hr
    refine List.mem_filter.mpr ⟨h.wb.ref r h1 w hw, keep_iff.mpr fun x hx => ?_⟩
    rw [List.mem_singleton.mp hx]
    exact keep_iff.mp h2 w hw
  · have h0 := h.hd
    cases B with
    | nil => cases h0
    | cons r B =>
      have e : r = .days n := Option.some.inj h0
      unfold doneB
      rw [List.filter_cons_of_pos (by rw [e]; rfl), e]
      rfl
theorem done_way {B : List BR} {w : Str} (h : BR.work w ∈ doneB B) : ∃ v l c, BR.way w v l c ∈ doneB B := by
  obtain ⟨h1, h2⟩ := List.mem_filter.mp h
  have h3 := keep_iff.mp h2 w List.mem_cons_self
  have h4 : B.filter (isWay w) ≠ [] := fun e => h3 (lack_mem.mpr ⟨h1, e⟩)
  obtain ⟨r, hr⟩ := List.exists_mem_of_ne_nil _ h4
  obtain ⟨h5, h6⟩ := List.mem_filter.mp hr
  cases r with
  | way w' v l c =>
    have e : w' = w := of_decide_eq_true h6
    subst e
    exact ⟨v, l, c, List.mem_filter.mpr ⟨h5, keep_iff.mpr fun x hx => by rw [List.mem_singleton.mp hx]; exact h3⟩⟩
  | _ => cases h6
theorem own6 (r : BR) : (inV (.str r.word) [.str "work", .str "way", .str "uses", .str "takes", .str "gives", .str "late"] = true ∧ cutV (r.cells.map kV) (some 1) (some 2) = r.own.map V.str ∧ r.word ≠ "after") ∨ (inV (.str r.word) [.str "work", .str "way", .str "uses", .str "takes", .str "gives", .str "late"] = false ∧ r.word = "after" ∧ cutV (r.cells.map kV) (some 1) (some 3) = r.own.map V.str) ∨ (inV (.str r.word) [.str "work", .str "way", .str "uses", .str "takes", .str "gives", .str "late"] = false ∧ r.word ≠ "after" ∧ r.own = []) := by
  have e2 : ∀ (a b : V) (r : List V), cutV (a :: b :: r) (some 1) (some 2) = [b] := fun a b r => by
    unfold cutV
    rw [show (1 : Int) = ((1 : Nat) : Int) from rfl, show (2 : Int) = ((2 : Nat) : Int) from rfl, HT.sIx_nat, HT.sIx_nat, List.length_cons, List.length_cons, Nat.min_eq_left (by omega), Nat.min_eq_left (by omega)]
    rfl
  have e3 : ∀ (a b c : V) (r : List V), cutV (a :: b :: c :: r) (some 1) (some 3) = [b, c] := fun a b c r => by
    unfold cutV
    rw [show (1 : Int) = ((1 : Nat) : Int) from rfl, show (3 : Int) = ((3 : Nat) : Int) from rfl, HT.sIx_nat, HT.sIx_nat, List.length_cons, List.length_cons, List.length_cons, Nat.min_eq_left (by omega), Nat.min_eq_left (by omega)]
    rfl
  cases r with
  | days n => exact .inr (.inr ⟨(by show inV (.str "days") _ = false; decide +kernel), (by show ¬ (("days" : Str) = "after"); decide +kernel), rfl⟩)
  | bench b r => exact .inr (.inr ⟨(by show inV (.str "bench") _ = false; decide +kernel), (by show ¬ (("bench" : Str) = "after"); decide +kernel), rfl⟩)
  | shut b f t => exact .inr (.inr ⟨(by show inV (.str "shut") _ = false; decide +kernel), (by show ¬ (("shut" : Str) = "after"); decide +kernel), rfl⟩)
  | store b m f => exact .inr (.inr ⟨(by show inV (.str "store") _ = false; decide +kernel), (by show ¬ (("store" : Str) = "after"); decide +kernel), rfl⟩)
  | work w => exact .inl ⟨(by show inV (.str "work") _ = true; decide +kernel), e2 _ _ _, (by show ¬ (("work" : Str) = "after"); decide +kernel)⟩
  | way w v l c => exact .inl ⟨(by show inV (.str "way") _ = true; decide +kernel), e2 _ _ _, (by show ¬ (("way" : Str) = "after"); decide +kernel)⟩
  | use k w v t m => match k with
    | 0 => exact .inl ⟨(by show inV (.str "uses") _ = true; decide +kernel), e2 _ _ _, (by show ¬ (("uses" : Str) = "after"); decide +kernel)⟩
    | 1 => exact .inl ⟨(by show inV (.str "takes") _ = true; decide +kernel), e2 _ _ _, (by show ¬ (("takes" : Str) = "after"); decide +kernel)⟩
    | 2 => exact .inl ⟨(by show inV (.str "gives") _ = true; decide +kernel), e2 _ _ _, (by show ¬ (("gives" : Str) = "after"); decide +kernel)⟩
  | after w x g => exact .inr (.inl ⟨(by show inV (.str "after") _ = false; decide +kernel), rfl, e3 _ _ _ _⟩)
  | late w d c => exact .inl ⟨(by show inV (.str "late") _ = true; decide +kernel), e2 _ _ _, (by show ¬ (("late" : Str) = "after"); decide +kernel)⟩
theorem inV_strs (x : Str) (l : List Str) : inV (.str x) (l.map V.str) = decide (x ∈ l) := by
  rw [Bool.eq_iff_iff, decide_eq_true_iff]
  unfold inV
  rw [List.any_eq_true]
  constructor
  · rintro ⟨v, hv, e⟩
    obtain ⟨y, hy, rfl⟩ := List.mem_map.mp hv
    have e' : (y == x) = true := e
    rw [← eq_of_beq e']; exact hy
  · intro h
    exact ⟨.str x, List.mem_map.mpr ⟨x, h, rfl⟩, (by show (x == x) = true; exact beq_self_eq_true x)⟩
theorem flat_strs (l : List Str) : (l.map V.str).all flatV = true := by
  rw [List.all_eq_true]
  intro v hv
  obtain ⟨y, _, rfl⟩ := List.mem_map.mp hv
  rfl
noncomputable def spDone (_ : PySem.W.Frag) : Sp := fun vs H Q _ => ∃ (d : Addr) (us : List V) (B : List BR), vs = [.ref d] ∧ H d = some (.lst us) ∧ RowsB H us B ∧ B.length ≤ 400 ∧
  ∀ (g : Addr) (ys : List V) (H' : Hp), Same H H' → H' g = some (.lst ys) → RowsB H' ys (doneB B) → Q (.ref g) H'
section
variable {P : Program} {w : World} {K : PySem.W.Frag} {mg : Str → Option Value} {base : Heap}
theorem scDone : FnScope ["_law_book_here", "_law_lacking", "_law_found", "_law_row", "_law_names"] ["_law_book_here"] (defScope sDone) := ⟨rfl, rfl, rfl, by decide +kernel, rfl, by decide +kernel, by decide +kernel⟩
theorem okDone (F : Fn K mg "_law_all_done" sDone) (M : Mg mg) (cl_ways : Cal P w K mg base 1 "_law_ways" ["_law_book_here", "_law_work"] (spWays K)) : Cal P w K mg base 2 "_law_all_done" ["_law_book_here"] (spDone K) := by
  refine cal_of F scDone (fun _ _ _ _ _ _ => bind1 (fun _ => rfl)) (fun vs H Q E h => ?_) (fun f cdv A outer s H vs Q E hr h => ?_)
  · obtain ⟨d, us, B, rfl, _⟩ := h
    rfl
  obtain ⟨d, us, B, rfl, hd, hB, bl, q⟩ := h
  have hu6 : (A.deeper (PyProof.Rows.envOfC "_law_all_done" (defScope sDone) s.heap.objs.size f cdv)).units + 6 < cLine := Nat.lt_of_le_of_lt (Nat.add_le_add_left (by decide) _) hr.un
  refine ⟨_, (pss_cons (ps_set (i := 1) scDone.nd rfl (Or.inr rfl) (pe_lc ["_law_row", "_law_book_here"] [none, some 0] rfl (pi_list (pv 0)) (fun _ _ _ => (pg_name (i := 0) (show (["_law_row", "_law_book_here"] : List Str).Nodup by decide +kernel) rfl (Or.inl rfl) (Or.inr rfl))) (fun _ _ _ => (pf_one (PW.pt (pw_and (pt_cmpR op_eq (pe_ix (ix_listK (K := K) rfl) (pv 0) pe_int (fun _ _ => rfl)) pe_str (nomark _)) (pw_and1 (pt_cmpR (op_eqNil (K := K) (n := 6) rfl hu6) (pe_fn cl_ways (hr.mono (by decide)) (pa_cons (pv 1) (pa_cons (pe_ix (ix_listK (K := K) rfl) (pv 0) pe_int (fun _ _ => rfl)) pa_nil))) (pe_lst pa_nil) (nomark _))))))) (fun _ _ _ => (pe_ix (ix_listK (K := K) rfl) (pv 0) pe_int (fun _ _ => rfl)))))
    (pss_cons (ps_set (i := 2) scDone.nd rfl (Or.inl rfl) (pe_lst pa_nil))
    (pss_cons (ps_for PassesOwn.never rfl (pi_list (pv 0)) (pg_name (i := 3) scDone.nd rfl (Or.inl rfl) (Or.inl rfl)) (pss_cons (ps_set (i := 4) scDone.nd rfl (Or.inl rfl) (pe_lst pa_nil))
    (pss_cons (ps_if (pt_cmpR op_in_seq (pe_ix ix_list (pv 3) pe_int (fun _ _ => rfl)) (pe_lst (pa_cons pe_str (pa_cons pe_str (pa_cons pe_str (pa_cons pe_str (pa_cons pe_str (pa_cons pe_str pa_nil))))))) rfl) (pss_one (ps_set (i := 4) scDone.nd rfl (Or.inl rfl) (pe_slice sl_list (pv 3) (po_some pe_int) (po_some pe_int)))) pss_nil)
    (pss_cons (ps_if (pt_cmpR op_eq (pe_ix ix_list (pv 3) pe_int (fun _ _ => rfl)) pe_str (nomark _)) (pss_one (ps_set (i := 4) scDone.nd rfl (Or.inl rfl) (pe_slice sl_list (pv 3) (po_some pe_int) (po_some pe_int)))) pss_nil)
    (pss_one (ps_if (pt_cmpR (op_eqNil (K := K) (n := 6) rfl hu6) (pe_lc ["_law_name_here", "_law_lacking"] [none, some 1] rfl (pi_list (pv 4)) (fun _ _ _ => (pg_name (i := 0) (show (["_law_name_here", "_law_lacking"] : List Str).Nodup by decide +kernel) rfl (Or.inl rfl) (Or.inr rfl))) (fun _ _ _ => (pf_one (pt_cmpR (op_in_seqK (K := K) rfl) (pv 0) (pv 1) rfl))) (fun _ _ _ => (pv 0))) (pe_lst pa_nil) (nomark _)) (pss_one (ps_expr (pe_bm PySem.F.plainAttrs_list PySem.F.slot_list_append PySem.F.type_list_append mt_append (pv 2) (pa_cons (pv 3) pa_nil)))) pss_nil))))))
    (pss_one (ps_ret (pv 2)))))), ?_⟩
  refine seq_let4 ?_
  intro rT4 rT3 rT2
  have hz : (20000 : Nat) < sizeLine := by decide
  have lu := hB.length
  refine ⟨_, rfl, d, rfl, ⟨_, sqL_new hd⟩, fun D hD => ?_⟩
  refine lc_any (n := B.length) (fun m τ ys H1 => ∃ v : Option V, τ = [v, some (.ref d)] ∧ ys = ((B.take m).filterMap (lackOf B)).map V.str ∧ ys.length ≤ m ∧ H1 D = some (.lst ys) ∧ Same H H1) ?_ (fun m τ ys H1 hm h => ?_) (fun m τ ys H1 hm h => ?_) (fun τ ys H1 h => ?_) ?_ ?_
  · exact ⟨none, rfl, rfl, Nat.le_refl _, upd_same, same_new' hD _⟩
  · obtain ⟨v, rfl, ey, hl, hE, s1⟩ := h
    exact ⟨hE, by omega⟩
  · obtain ⟨v, rfl, ey, hl, hE, s1⟩ := h
    exact ⟨us, us[m]'(by omega), s1.seq (sqL_new hd), List.getElem?_eq_getElem (by omega)⟩
  · obtain ⟨v, rfl, ey, hl, hE, s1⟩ := h
    exact ⟨us, s1.seq (sqL_new hd), by omega⟩
  · rintro m τ ys H1 x H2 hm ⟨v, rfl, ey, hl, hE, s1⟩ ⟨rfl, e1⟩
    obtain ⟨r, lr, er, rfl, hr⟩ := (hB.same s1).get (e1 _ (s1.seq (sqL_new hd)))
    refine ⟨_, rfl, lr, _, _, _, rfl, rfl, sqL_new hr, at_word r, rfl, _, rfl, ite2 (fun y => ?_) (fun y => iteF ?_)⟩
    · obtain ⟨w, rfl⟩ := word_work (eqS y)
      have a1 : atI ((BR.work w).cells.map kV) 1 = some (.str w) := rfl
      refine ⟨_, rfl, _, rfl, lr, _, _, _, rfl, rfl, sqL_new hr, a1, d, w, us, B, rfl, s1 _ _ hd, hB.same s1, by omega, fun D3 ys3 H3 s3 f3 h3 hB3 => ?_⟩
      refine ⟨by show 0 ≤ sizeLine; decide, fun p4 hp4 => ?_⟩
      have s4 := same_new' hp4 (.lst [])
      have s34 := s3.trans s4
      have l3 := hB3.length
      refine ⟨D3, p4, ys3, rfl, rfl, sqL_new (s4 _ _ h3), sqL_new upd_same, _, rfl, ite2 (fun y2 => ?_) (fun y2 => ?_)⟩
      · have y3 : (B.filter (isWay w)).isEmpty = true := List.isEmpty_iff.mpr (List.eq_nil_of_length_eq_zero (by rw [← l3, List.isEmpty_iff.mp y2]; rfl))
        refine ⟨_, rfl, lr, _, _, _, rfl, rfl, sqL_new (s34 _ _ hr), a1, s34 _ _ hE, _, rfl, ?_, by rw [List.length_append]; exact Nat.succ_le_succ hl, upd_same, fun b o e => ?_⟩
        · rw [fmap_next (lackOf B) er, show lackOf B (.work w) = some w from if_pos y3, List.map_append, ey]
          rfl
        · rw [upd_ne (ne_of_none e hD)]; exact s34 _ _ (s1 _ _ e)
      · refine ⟨_, rfl, ?_, by omega, s34 _ _ hE, s1.trans s34⟩
        have y3 : ¬ (B.filter (isWay w)).isEmpty = true := fun e => y2 (List.isEmpty_iff.mpr (List.eq_nil_of_length_eq_zero (by rw [l3, List.isEmpty_iff.mp e]; rfl)))
        rw [fmap_next (lackOf B) er, show lackOf B (.work w) = none from if_neg y3, ey]
        simp
    · refine ⟨_, rfl, ?_, by omega, hE, s1⟩
      rw [fmap_next (lackOf B) er, lackOf_no (fun e => y (by rw [e]; exact yesS _)), ey]
      simp
  · rintro τ ys H1 ⟨v, rfl, ey, hl, hE, s1⟩
    rw [List.take_length] at ey
    have hL : H1 D = some (.lst ((lack B).map V.str)) := by rw [hE, ey]; rfl
    refine ⟨by show 0 ≤ sizeLine; decide, fun F2 hF2 => ?_⟩
    have FH : H F2 = none := by
      cases e5 : H F2 with
      | none => rfl
      | some o => rw [s1 _ _ e5] at hF2; cases hF2
    have FD : F2 ≠ D := fun e => by rw [e, hE] at hF2; cases hF2
    have s2 := same_new' hF2 (.lst [])
    have hF : upd H1 F2 (.lst []) F2 = some (.lst []) := upd_same
    generalize upd H1 F2 (.lst []) = H2 at s2 hF ⊢
    refine ⟨_, rfl, d, rfl, ⟨_, sqL_new (s2 _ _ (s1 _ _ hd))⟩, for_list (K := K) (a := d) (xs := us) (fun i σ H3 => ∃ (v3 v4 : Option V) (ys : List V), σ = [some (.ref d), some (.ref D), some (.ref F2), v3, v4] ∧ H3 F2 = some (.lst ys) ∧ RowsB H3 ys ((B.take i).filter (keepR (lack B))) ∧ ys.length ≤ i ∧ H3 D = some (.lst ((lack B).map V.str)) ∧ Same H H3) ⟨none, none, [], rfl, hF, .nil, Nat.le_refl _, s2 _ _ hL, s1.trans s2⟩ (fun i σ H3 _ h => ?_) ?_ ?_⟩
    · obtain ⟨v3, v4, ys, rfl, hF3, hB3, hl3, hL3, s3⟩ := h
      exact s3.seq (sqL_new hd)
    · rintro i x σ H3 e1 ⟨v3, v4, ys, rfl, hF3, hB3, hl3, hL3, s3⟩
      obtain ⟨r, lr, er, rfl, hr⟩ := (hB.same s3).get e1
      refine ⟨by show 0 ≤ sizeLine; decide, fun P4 hP4 => ?_⟩
      have s4 := same_new' hP4 (.lst [])
      have hP : upd H3 P4 (.lst []) P4 = some (.lst []) := upd_same
      generalize upd H3 P4 (.lst []) = H4 at s4 hP ⊢
      refine name_cut (fun σ' H' => ∃ P5 : Addr, σ' = [some (.ref d), some (.ref D), some (.ref F2), some (.ref lr), some (.ref P5)] ∧ Same H3 H' ∧ H' P5 = some (.lst (if r.word = "after" then [] else r.own.map V.str))) ?_ fun REST => ?_
      · rintro σ' H5 ⟨P5, rfl, s5, hP5⟩
        have hr5 := s5 _ _ hr
        dsimp only
        refine seq_cut (fun σ' H' => ∃ P5 : Addr, σ' = [some (.ref d), some (.ref D), some (.ref F2), some (.ref lr), some (.ref P5)] ∧ Same H3 H' ∧ H' P5 = some (.lst (r.own.map V.str))) ?_ fun REST2 => ?_
        · rintro σ' H6 ⟨P6, rfl, s6, hP6⟩
          refine ⟨_, rfl, P6, rfl, ⟨_, sqL_new hP6⟩, fun D7 hD7 => ?_⟩
          refine lc_any (n := r.own.length) (fun m τ zs H7 => ∃ v : Option V, τ = [v, some (.ref D)] ∧ zs = ((r.own.take m).filter fun w => decide (w ∈ lack B)).map V.str ∧ zs.length ≤ m ∧ H7 D7 = some (.lst zs) ∧ Same H6 H7) ?_ (fun m τ zs H7 hm h => ?_) (fun m τ zs H7 hm h => ?_) (fun τ zs H7 h => ?_) ?_ ?_
          · exact ⟨none, rfl, rfl, Nat.le_refl _, upd_same, same_new' hD7 _⟩
          · obtain ⟨v, rfl, ez, hl7, hE7, s7⟩ := h
            have : r.own.length ≤ 2 := by cases r <;> simp [BR.own]
            exact ⟨hE7, by omega⟩
          · obtain ⟨v, rfl, ez, hl7, hE7, s7⟩ := h
            exact ⟨_, .str r.own[m], sqL_new (s7 _ _ hP6), by rw [List.getElem?_map, List.getElem?_eq_getElem hm]; rfl⟩
          · obtain ⟨v, rfl, ez, hl7, hE7, s7⟩ := h
            exact ⟨_, sqL_new (s7 _ _ hP6), by rw [List.length_map]; exact Nat.le_refl _⟩
          · rintro m τ zs H7 x7 H8 hm ⟨v, rfl, ez, hl7, hE7, s7⟩ ⟨rfl, e7⟩
            have ex := e7 _ (sqL_new (s7 _ _ hP6))
            rw [List.getElem?_map, List.getElem?_eq_getElem hm] at ex
            cases ex
            have eo : r.own[m]? = some r.own[m] := List.getElem?_eq_getElem hm
            refine ⟨_, rfl, _, rfl, D, _, rfl, .inl (sqL_new (s7 _ _ (s6 _ _ hL3))), rfl, flat_strs _, _, rfl, ite2 (fun y => ?_) (fun y => ?_)⟩
            · have y' : decide (r.own[m] ∈ lack B) = true := by rw [← inV_strs]; exact y
              refine ⟨_, rfl, hE7, _, rfl, ?_, by rw [List.length_append]; exact Nat.succ_le_succ hl7, upd_same, fun b o e => ?_⟩
              · rw [filter_next _ eo, if_pos y', List.map_append, ez]; rfl
              · rw [upd_ne (ne_of_none e hD7)]; exact s7 _ _ e
            · have y' : ¬ decide (r.own[m] ∈ lack B) = true := fun z => y (by show inV (.str r.own[m]) ((lack B).map V.str) = true; rw [inV_strs]; exact z)
              refine ⟨_, rfl, ?_, by omega, hE7, s7⟩
              rw [filter_next _ eo, if_neg y', List.append_nil]
              exact ez
          · rintro τ zs H7 ⟨v, rfl, ez, hl7, hE7, s7⟩
            rw [List.take_length] at ez
            refine ⟨by show 0 ≤ sizeLine; decide, fun p8 hp8 => ?_⟩
            have s8 := same_new' hp8 (.lst [])
            have s38 := s6.trans (s7.trans s8)
            have hr8 := s38 _ _ hr
            have kp : keepR (lack B) r = zs.isEmpty := by
              rw [Bool.eq_iff_iff, keep_iff, List.isEmpty_iff, ez, List.map_eq_nil_iff, List.filter_eq_nil_iff]
              exact ⟨fun h w hw => by simpa using h w hw, fun h w hw => by simpa using h w hw⟩
            refine ⟨D7, p8, zs, rfl, rfl, sqL_new (s8 _ _ hE7), sqL_new upd_same, _, rfl, ite2 (fun y => ?_) (fun y => ?_)⟩
            · have hF8 := s38 _ _ hF3
              refine ⟨_, rfl, .inl ⟨rfl, _, sqL_new hF8⟩, _, rfl, F2, _, _, rfl, rfl, hF8, by have := hB.length; have h9 := (List.getElem?_eq_some_iff.mp er).1; omega, _, _, _, rfl, upd_same, ?_, by rw [List.length_append]; exact Nat.succ_le_succ hl3, ?_, fun b o e => ?_⟩
              · rw [filter_next _ er, if_pos (by rw [kp]; exact y)]
                exact ((hB3.same s38).snoc hr8).updL hF8 hB3.noRow
              · rw [upd_ne FD.symm]; exact s38 _ _ hL3
              · rw [upd_ne (ne_of_none e FH)]; exact (s3.trans s38) _ _ e
            · refine ⟨_, _, ys, rfl, s38 _ _ hF3, ?_, by omega, s38 _ _ hL3, s3.trans s38⟩
              rw [filter_next _ er, if_neg (by rw [kp]; exact y), List.append_nil]
              exact hB3.same s38
        · refine ⟨_, rfl, lr, _, _, _, rfl, rfl, sqL_new hr5, at_word r, rfl, _, rfl, ite2 (fun y => ?_) (fun y => ?_)⟩
          · have ew := eqS y
            rcases own6 r with ⟨_, _, h⟩ | ⟨_, _, h⟩ | ⟨_, h, _⟩
            · exact absurd ew h
            · refine ⟨_, rfl, _, rfl, _, rfl, lr, _, rfl, sqL_new hr5, fun p6 hp6 => ?_⟩
              rw [h]
              exact REST2 _ _ ⟨p6, rfl, s5.trans (same_new' hp6 _), upd_same⟩
            · exact absurd ew h
          · refine REST2 _ _ ⟨P5, rfl, s5, ?_⟩
            rw [hP5, if_neg (fun e => y (by rw [e]; exact yesS _))]
      · have hr4 := s4 _ _ hr
        refine ⟨_, rfl, lr, _, _, _, rfl, rfl, sqL_new hr4, at_word r, by show 6 ≤ sizeLine; decide, fun p5 hp5 => ?_⟩
        have s5 := s4.trans (same_new' hp5 (.lst [.str "work", .str "way", .str "uses", .str "takes", .str "gives", .str "late"]))
        refine ⟨p5, _, rfl, .inl (sqL_new upd_same), rfl, rfl, _, rfl, ite2 (fun y => ?_) (fun y => ?_)⟩
        · rcases own6 r with ⟨_, h, h'⟩ | ⟨h, _, _⟩ | ⟨h, _, _⟩
          · refine ⟨_, rfl, _, rfl, _, rfl, lr, _, rfl, sqL_new (s5 _ _ hr), fun p6 hp6 => ?_⟩
            rw [h]
            exact REST _ _ ⟨p6, rfl, s5.trans (same_new' hp6 _), by rw [if_neg h']; exact upd_same⟩
          · exact absurd (h.symm.trans y) (by decide)
          · exact absurd (h.symm.trans y) (by decide)
        · refine REST _ _ ⟨P4, rfl, s5, ?_⟩
          have hP5 := (same_new' hp5 (.lst [.str "work", .str "way", .str "uses", .str "takes", .str "gives", .str "late"])) _ _ hP
          rcases own6 r with ⟨h, _, _⟩ | ⟨_, h, _⟩ | ⟨_, h, h'⟩
          · exact absurd h y
          · rw [if_pos h]; exact hP5
          · rw [if_neg h, h']; exact hP5
    · rintro σ H3 ⟨v3, v4, ys, rfl, hF3, hB3, hl3, hL3, s3⟩
      rw [lu, List.take_length] at hB3
      exact ⟨_, rfl, q F2 ys H3 s3 hF3 hB3⟩
end
end Nb
namespace L2
open PySem PySem.Spec PyProof.Rows
theorem sub_ri_reversed : isSubtype (.type "range_iterator") (.type "reversed") = pure false := by rw [isSubtype_type]; kernel_rfl
noncomputable def rrObj (n : Int) : Obj := { cls := .type "range_iterator", data := .fields #[rawInt (0 + (n - 1) * 1), rawInt n, rawInt (-1)] }
section
variable {prog : Program} {w : World} {A : Around} {E : Value → Shared → Prop} {s : Shared}
theorem rr_size {n : Int} (h0 : 0 ≤ n) : Builtin.Range.rangeSize 0 n 1 = n := by
  rw [rangeSize_one]
  split <;> omega
theorem call_range_reversed {r : Addr} {n : Int} {t u v : Tok} {Q : Value → Shared → Prop} (hr : s.heap.get? r = some { cls := .type "range", data := .fields #[.int 0 t, .int n u, .int 1 v] }) (h0 : 0 ≤ n) (h1 : n < 1000000)
    (h : Q (.ref s.heap.objs.size) { s with heap := s.heap.push (rrObj n) }) : wpAny (model prog w) A (call (.builtin "range.__reversed__") [.ref r]) Q E s := by
  refine wpAny_call_entry F.slot_range_reversed ⟨_, hr, rfl⟩ F.entry_range_reversed ?_ (F.args_range_reversed_1 _)
  unfold Builtin.«range.__reversed__»
  refine wpAny_bind (wpAny_of_eq (a := Value.ref r) rfl ?_)
  refine wpAny_bind ?_
  unfold Builtin.Range.rangeFields
  refine wpAny_bind (wpAny_field hr rfl (x := .int 0 t) rfl ?_)
  refine wpAny_bind (wpAny_of_eq (a := some 0) rfl ?_)
  refine wpAny_bind (wpAny_field hr rfl (x := .int n u) rfl ?_)
  refine wpAny_bind (wpAny_of_eq (a := some n) rfl ?_)
  refine wpAny_bind (wpAny_field hr rfl (x := .int 1 v) rfl ?_)
  refine wpAny_bind (wpAny_of_eq (a := some 1) rfl ?_)
  refine wpAny_pure ?_
  have hs : (Builtin.Range.rangeFitsLong 0 && Builtin.Range.rangeFitsLong n && Builtin.Range.rangeFitsLong 1 && Builtin.Range.rangeFitsLong (-1) && Builtin.Range.rangeFitsLong (0 - 1) && Builtin.Range.rangeFitsLong (Builtin.Range.rangeSize 0 n 1)) = true := by
    rw [rr_size h0]
    simp only [Builtin.Range.rangeFitsLong, Bool.and_eq_true, decide_eq_true_eq]
    omega
  dsimp only
  rw [hs, rr_size h0]
  rw [if_neg (by decide), if_pos rfl]
  unfold newFields
  exact wpAny_bind (wpAny_newObj_type (wpAny_pure ⟨_, rfl, h⟩))
theorem code_reversed_range {r : Addr} {n : Int} {t u v : Tok} {Q₁ : Value → Shared → Prop} (hr : s.heap.get? r = some { cls := .type "range", data := .fields #[.int 0 t, .int n u, .int 1 v] }) (h0 : 0 ≤ n) (h1 : n < 1000000)
    (h : Q₁ (.ref s.heap.objs.size) { s with heap := s.heap.push (rrObj n) }) :
    codeAny (model prog w) A (.call (.builtin "reversed.__new__") ⟨[.type "reversed", .ref r], []⟩) (wants Q₁ E) s := by
  refine codeAny_of_tree ?_
  show wpAny _ A.in1 (do checkBuiltinCall "reversed.__new__" ⟨[.type "reversed", .ref r], []⟩; again (.builtin "reversed.__new__" ⟨[.type "reversed", .ref r], []⟩)) _ _ s
  refine wpAny_bind (wpAny_of_eq (F.newCall_reversed_1 _) (wpAny_pure ⟨plainId_quiet F.plain_reversed_new _, codeAny_builtin F.entry_reversed_new ?_⟩))
  rw [Around.under_plainId F.plain_reversed_new _]
  unfold Builtin.«reversed.__new__»
  refine wpAny_bind (wpAny_of_eq (newClass_reversed _) ?_)
  try dsimp only
  refine wpAny_bind (wpAny_of_eq (a := ()) (by first | rfl | kernel_rfl) ?_)
  refine wpAny_bind (wpAny_of_eq (a := ()) (by first | rfl | kernel_rfl) ?_)
  try dsimp only
  refine wpAny_bind (wpAny_specialOf (T := "range") ⟨_, hr, rfl⟩ F.slot_range_reversed.lookup ?_)
  try dsimp only
  refine wpAny_bind (wpAny_of_eq (F.slot_range_reversed.bind _) ?_)
  try dsimp only
  first
  | rw [if_neg (show ¬ ((Value.builtin "range.__reversed__" == Value.none) = true) from Bool.false_ne_true)]
  | (show wpAny _ _ (if (Value.builtin "range.__reversed__" == Value.none) = true then _ else _) _ _ _; rw [if_neg (show ¬ ((Value.builtin "range.__reversed__" == Value.none) = true) from Bool.false_ne_true)])
  refine wpAny_bind (wpAny_rule ?_)
  refine wpAny_bind (m := runValue (.call (.builtin "range.__reversed__") ⟨[.ref r], []⟩)) (show wpAny _ _ (call (.builtin "range.__reversed__") [.ref r]) _ _ _ from call_range_reversed hr h0 h1 ?_)
  first
  | exact wpAny_pure h
  | exact wpAny_bind (wpAny_pure (wpAny_pure h))
theorem call_reversed_range {r : Addr} {n : Int} {t u v : Tok} {Q : Value → Shared → Prop} (hr : s.heap.get? r = some { cls := .type "range", data := .fields #[.int 0 t, .int n u, .int 1 v] }) (h0 : 0 ≤ n) (h1 : n < 1000000)
    (h : Q (.ref s.heap.objs.size) { s with heap := s.heap.push (rrObj n) }) : wpAny (model prog w) A (call (.type "reversed") [.ref r]) Q E s := by
  refine callType_other (U := "range_iterator") (Q₁ := fun obj s₁ => obj = .ref s.heap.objs.size ∧ s₁ = { s with heap := s.heap.push (rrObj n) }) (by decide +kernel) F.create_reversed ⟨_, _, F.mro_reversed⟩ F.made_reversed sub_ri_reversed (F.typeCall_reversed_1 _) (code_reversed_range hr h0 h1 ⟨rfl, rfl⟩) ?_
  rintro obj s₁ ⟨rfl, rfl⟩
  exact ⟨⟨_, Heap.get?_push_size _ rfl, rfl⟩, h⟩
end
section
variable {X : Cx} {tg : Expr}
noncomputable def iRevR (ta : TA) : TI := fun σ H R => ta σ H fun vs H1 => ∃ (p : Addr) (n : Nat), vs = [.ref p] ∧ H1 p = some (.rng 0 ((n : Nat) : Int)) ∧ n < 1000000 ∧ R (Itr3 (((n : Nat) : Int) - 1) (-1) n) H1
theorem pi_revr {a : Expr} {ta : TA} {p pos : Pos} (hg : Gl X "reversed") (hm : X.mg "reversed" = none) (ha : PA X [a] ta) (hs : autoParam (starEach [a] X.env = [(false, eval a X.env)]) L2.aRfl._auto_1) :
    PI X tg (.Call (.Name "reversed" p) [a] [] pos) (iRevR ta) := by
  intro pins s σ H R I h
  refine Call_ (ld_blt I hg hm bt_reversed (PyProof.Rows.callWith_type1 (thn (ha pos pins s σ H _ I h) fun us s1 ⟨vs, H1, I1, r1, q1⟩ => ?_) hs rfl))
  obtain ⟨l, n, e, hl, hn, q⟩ := q1
  subst e
  obtain ⟨u, rfl, ru⟩ := r1.one
  cases ru
  obtain ⟨t, u, v, hr⟩ := (show ObjOk X.prog X.w H1 s1.heap l (.rng 0 ((n : Nat) : Int)) from I1.hok l _ hl)
  refine call_reversed_range hr (by omega) (by omega) ?_
  have g : (s1.heap.push (rrObj ((n : Nat) : Int))).get? s1.heap.objs.size = some (rrObj ((n : Nat) : Int)) := Heap.get?_push_size _ rfl
  have st : IsRangeIter (s1.heap.push (rrObj ((n : Nat) : Int))) s1.heap.objs.size ((((n : Nat) : Int) - 1) + ((0 : Nat) : Int) * (-1)) (((n : Nat) : Int) - ((0 : Nat) : Int)) (-1) := by
    have e1 : (((n : Nat) : Int) - 1) + ((0 : Nat) : Int) * (-1) = 0 + (((n : Nat) : Int) - 1) * 1 := by omega
    have e2 : ((n : Nat) : Int) - ((0 : Nat) : Int) = ((n : Nat) : Int) := by omega
    rw [e1, e2]
    exact g
  refine wpAny_pyIter_rangeiter (s := { s1 with heap := s1.heap.push (rrObj ((n : Nat) : Int)) }) st ?_
  have I2 : Inv X pins σ H1 { s1 with heap := s1.heap.push (rrObj ((n : Nat) : Int)) } := I1.kept (t' := s1.toks) fun b o e => Heap.get?_push_of_some _ e
  refine ⟨s1.heap.objs.size, [s1.heap.objs.size], _, _, H1, rfl, I2, turn_range3 _ (((n : Nat) : Int) - 1) (-1) n, st, fun b hb => ?_, q⟩
  have e : b = s1.heap.objs.size := by simpa using hb
  subst e
  exact I1.fpOk (Nat.le_refl _) (I1.hok.fresh (Nat.le_refl _))
end
end L2
namespace Nb
open PySem L2
noncomputable abbrev sPlan : Stmt := top 21
noncomputable def workOf : BR → Option Str
  | .work w => some w
  | _ => none
noncomputable def wks (B : List BR) : List Str := B.filterMap workOf
theorem workOf_no {r : BR} (h : r.word ≠ "work") : workOf r = none := by
  cases r with
  | work w => exact absurd rfl h
  | _ => rfl
theorem wks_mem {B : List BR} {w : Str} : w ∈ wks B ↔ BR.work w ∈ B := by
  unfold wks
  rw [List.mem_filterMap]
  constructor
  · rintro ⟨r, hr, e⟩
    cases r with
    | work w' => cases e; exact hr
    | _ => cases e
  · exact fun h => ⟨_, h, rfl⟩
theorem wks_nd {n : Int} {B : List BR} (h : WB n B) : (wks B).Nodup := by
  unfold wks List.Nodup
  rw [List.pairwise_filterMap]
  refine h.nd.imp fun {r q} ha w hw w' hw' e => ?_
  cases r with
  | work x =>
    cases hw
    cases q with
    | work y =>
      cases hw'
      subst e
      rcases ha with z | z | z
      · exact absurd z (by show ¬ (("work" : Str) = "shut"); decide +kernel)
      · exact absurd z (by show ¬ (("work" : Str) = "shut"); decide +kernel)
      · exact z rfl
    | _ => cases hw'
  | _ => cases hw
theorem PlanAt.same {K : PySem.W.Frag} {H H' : Hp} {d : Addr} {pl : List (Str × Str × Int)} (h : PlanAt K H d pl) (s : Same H H') : PlanAt K H' d pl := by
  obtain ⟨kvs, h1, h2⟩ := h
  exact ⟨kvs, s _ _ h1, Paired.mapP h2 fun _ _ ⟨e, t, e2, z⟩ => ⟨e, t, e2, s.tup z⟩⟩
theorem sqT_updD {K : PySem.W.Frag} {H : Hp} {P t : Addr} {kvs kvs' : List (Key × V)} {xs : List V} (hP : H P = some (.dK kvs)) (h : SqT K H t xs) : SqT K (upd H P (.dK kvs')) t xs := by
  rcases h with (h | ⟨p, h⟩) | h
  · exact .inl (.inl (by rw [upd_ne (ne_of h hP (by intro z; cases z))]; exact h))
  · exact .inl (.inr ⟨p, by rw [upd_ne (ne_of h hP (by intro z; cases z))]; exact h⟩)
  · exact .inr h
structure PlanFor (n : Int) (B : List BR) (pl : List (Str × Str × Int)) : Prop where
  keys : pl.map (·.1) = (wks B).reverse
  good : ∀ p ∈ pl, ∃ l c, BR.way p.1 p.2.1 l c ∈ B ∧ 0 ≤ p.2.2 ∧ p.2.2 + l ≤ n
theorem plan_keys {K : PySem.W.Frag} {H : Hp} {kvs : List (Key × V)} {pl : List (Str × Str × Int)} (h : Paired (fun (p : Key × V) (q : Str × Str × Int) => p.1 = Sum.inr q.1 ∧ ∃ t, p.2 = .ref t ∧ SqT K H t [.str q.2.1, .int q.2.2]) kvs pl) : kvs.map (·.1) = (pl.map (·.1)).map Sum.inr := by
  induction h with
  | nil => rfl
  | cons z _ ih => rw [List.map_cons, List.map_cons, List.map_cons, ih, z.1]
theorem val_none {κ : Type} [DecidableEq κ] {kvs : List (κ × V)} {k : κ} (h : k ∉ kvs.map (·.1)) : valV kvs k = none := by
  cases e : valV kvs k with
  | none => rfl
  | some v => exact absurd (valV_in e) h
noncomputable def spPlan (K : PySem.W.Frag) : Sp := fun vs H Q _ => ∃ (a d : Addr) (ns : List Int) (st n : Int) (us : List V) (B : List BR), vs = [.ref a, .int st, .ref d] ∧ SqL K H a (ns.map V.int) ∧ 0 ≤ st ∧ st ≤ 1000 ∧ H d = some (.lst us) ∧ RowsB H us B ∧ BookOk n B ∧ (∀ w, BR.work w ∈ B → ∃ v l c, BR.way w v l c ∈ B) ∧
  ∀ (P : Addr) (pl : List (Str × Str × Int)) (H' : Hp), Same H H' → H P = none → PlanAt K H' P pl → PlanFor n B pl → Q (.ref P) H'
section
variable {P : Program} {w : World} {K : PySem.W.Frag} {mg : Str → Option Value} {base : Heap}
theorem scPlan : FnScope ["_law_script", "_law_start", "_law_book_here", "_law_found", "_law_works_here", "_law_k", "_law_ways_here", "_law_number", "_law_way_here"] ["_law_script", "_law_start", "_law_book_here"] (defScope sPlan) := ⟨rfl, rfl, rfl, by decide +kernel, rfl, by decide +kernel, by decide +kernel⟩
theorem okPlan (F : Fn K mg "_law_plan" sPlan) (M : Mg mg) (cl_mixed : Cal P w K mg base 2 "_law_mixed" ["_law_script", "_law_k"] (spMixed K)) (cl_ways : Cal P w K mg base 1 "_law_ways" ["_law_book_here", "_law_work"] (spWays K)) : Cal P w K mg base 3 "_law_plan" ["_law_script", "_law_start", "_law_book_here"] (spPlan K) := by
  refine cal_of F scPlan (fun _ _ _ _ _ _ => bind3 (fun _ _ _ => rfl)) (fun vs H Q E h => ?_) (fun f cdv A outer s H vs Q E hr h => ?_)
  · obtain ⟨a, d, ns, st, n, us, B, rfl, _⟩ := h
    rfl
  obtain ⟨a, d, ns, st, n, us, B, rfl, hS, st0, st1, hd, hB, bk, hway, q⟩ := h
  have hu6 : (A.deeper (PyProof.Rows.envOfC "_law_plan" (defScope sPlan) s.heap.objs.size f cdv)).units + 6 < cLine := Nat.lt_of_le_of_lt (Nat.add_le_add_left (by decide) _) hr.un
  have hu : (A.deeper (PyProof.Rows.envOfC "_law_plan" (defScope sPlan) s.heap.objs.size f cdv)).units + 1 < cLine := Nat.lt_of_le_of_lt (Nat.add_le_add_left (by decide) _) hr.un
  refine ⟨_, (pss_cons (ps_set (i := 3) scPlan.nd rfl (Or.inl rfl) pe_dnewK)
    (pss_cons (ps_setC (i := 4) ["_law_row"] [none] rfl scPlan.nd rfl (Or.inl rfl) (pi_list (pv 2)) (fun _ _ _ => (pg_name (i := 0) (show (["_law_row"] : List Str).Nodup by decide +kernel) rfl (Or.inl rfl) (Or.inr rfl))) (fun _ _ _ => (pf_one (pt_cmpR op_eq (pe_ix (ix_listK (K := K) rfl) (pv 0) pe_int (fun _ _ => rfl)) pe_str (nomark _)))) (fun _ _ _ => (pe_ix (ix_listK (K := K) rfl) (pv 0) pe_int (fun _ _ => rfl))))
    (pss_cons (ps_for PassesOwn.never rfl (pi_revr rfl M.reversed_ (pa_cons (pe_range M.range_ (pa_cons (pe_callB call_len_seq rfl M.len bt_len (pa_cons (pv 4) pa_nil)) pa_nil)) pa_nil)) (pg_name (i := 5) scPlan.nd rfl (Or.inl rfl) (Or.inl rfl)) (pss_cons (ps_set (i := 6) scPlan.nd rfl (Or.inl rfl) (pe_fn cl_ways (hr.mono (by decide)) (pa_cons (pv 2) (pa_cons (pe_ix ix_list (pv 4) (pv 5) (fun _ _ => rfl)) pa_nil))))
    (pss_one (ps_if (pt_cmpR (op_neNil (K := K) (n := 6) rfl hu6) (pv 6) (pe_lst pa_nil) (nomark _)) (pss_cons (ps_set (i := 7) scPlan.nd rfl (Or.inl rfl) (pe_fn cl_mixed (hr.mono (by decide)) (pa_cons (pv 0) (pa_cons (pe_op op_add (pv 1) (pv 5)) pa_nil))))
    (pss_cons (ps_set (i := 8) scPlan.nd rfl (Or.inl rfl) (pe_ix ix_list (pv 6) (pe_op op_mod (pv 7) (pe_callB call_len_seq rfl M.len bt_len (pa_cons (pv 6) pa_nil))) (fun _ _ => rfl)))
    (pss_one (ps_dput hu (pv 3) (pe_ix ix_list (pv 4) (pv 5) (fun _ _ => rfl)) (pe_tup (pa_cons (pe_ix ix_list (pv 8) pe_int (fun _ _ => rfl)) (pa_cons (pe_op op_mod (pe_op op_fdiv (pv 7) pe_int) (pe_op op_add (pe_op op_sub (pe_ix ix_list (pe_ix ix_list (pv 2) pe_int (fun _ _ => rfl)) pe_int (fun _ _ => rfl)) (pe_ix ix_list (pv 8) pe_int (fun _ _ => rfl))) pe_int)) pa_nil))) rfl)))) pss_nil))))
    (pss_one (ps_ret (pv 3)))))), ?_⟩
  refine seq_let4 ?_
  intro rT4 rT3 rT2
  have hz : (20000 : Nat) < sizeLine := by decide
  have lu := hB.length
  have bl := bk.wb.len
  intro P hP
  have s0 := same_new' hP (.dK [])
  have hP0 : upd H P (.dK []) P = some (.dK []) := upd_same
  generalize upd H P (.dK []) = H0 at s0 hP0 ⊢
  refine ⟨_, rfl, d, rfl, ⟨_, sqL_new (s0 _ _ hd)⟩, fun D hD => ?_⟩
  refine lc_any (n := B.length) (fun m τ ys H1 => ∃ v : Option V, τ = [v] ∧ ys = ((B.take m).filterMap workOf).map V.str ∧ ys.length ≤ m ∧ H1 D = some (.lst ys) ∧ Same H0 H1) ?_ (fun m τ ys H1 hm h => ?_) (fun m τ ys H1 hm h => ?_) (fun τ ys H1 h => ?_) ?_ ?_
  · exact ⟨none, rfl, rfl, Nat.le_refl _, upd_same, same_new' hD _⟩
  · obtain ⟨v, rfl, ey, hl, hE, s1⟩ := h
    exact ⟨hE, by omega⟩
  · obtain ⟨v, rfl, ey, hl, hE, s1⟩ := h
    exact ⟨us, us[m]'(by omega), s1.seq (sqL_new (s0 _ _ hd)), List.getElem?_eq_getElem (by omega)⟩
  · obtain ⟨v, rfl, ey, hl, hE, s1⟩ := h
    exact ⟨us, s1.seq (sqL_new (s0 _ _ hd)), by omega⟩
  · rintro m τ ys H1 x H2 hm ⟨v, rfl, ey, hl, hE, s1⟩ ⟨rfl, e1⟩
    obtain ⟨r, lr, er, rfl, hr⟩ := (hB.same (s0.trans s1)).get (e1 _ (s1.seq (sqL_new (s0 _ _ hd))))
    refine ⟨_, rfl, lr, _, _, _, rfl, rfl, sqL_new hr, at_word r, rfl, _, rfl, ite2 (fun y => ?_) (fun y => ?_)⟩
    · obtain ⟨w, rfl⟩ := word_work (eqS y)
      refine ⟨_, rfl, lr, _, _, _, rfl, rfl, sqL_new hr, (show atI ((BR.work w).cells.map kV) 1 = some (.str w) from rfl), hE, _, rfl, ?_, by rw [List.length_append]; exact Nat.succ_le_succ hl, upd_same, fun b o e => ?_⟩
      · rw [fmap_next workOf er, show workOf (.work w) = some w from rfl, List.map_append, ey]
        rfl
      · rw [upd_ne (ne_of_none e hD)]; exact s1 _ _ e
    · refine ⟨_, rfl, ?_, by omega, hE, s1⟩
      rw [fmap_next workOf er, workOf_no (fun e => y (by rw [e]; exact yesS _)), ey]
      simp
  · rintro τ ys H1 ⟨v, rfl, ey, hl, hE, s1⟩
    rw [List.take_length] at ey
    have hL : H1 D = some (.lst ((wks B).map V.str)) := by rw [hE, ey]; rfl
    have s01 := s0.trans s1
    have hD0 : H D = none := by
      cases e5 : H D with
      | none => rfl
      | some o => rw [s0 _ _ e5] at hD; cases hD
    have lw : (wks B).length ≤ B.length := List.length_filterMap_le _ _
    have lm : ((wks B).map V.str).length = (wks B).length := List.length_map ..
    refine ⟨_, rfl, D, _, rfl, .inl (sqL_new hL), _, rfl, fun rr hrr => ?_⟩
    have s2 := same_new' hrr (.rng 0 ((((wks B).map V.str).length : Nat) : Int))
    refine ⟨rr, ((wks B).map V.str).length, rfl, upd_same, by omega, for_range3 (lo := ((((wks B).map V.str).length : Nat) : Int) - 1) (c := -1) (n := ((wks B).map V.str).length) (fun i σ H3 => ∃ (v5 v6 v7 v8 : Option V) (pl : List (Str × Str × Int)), σ = [some (.ref a), some (.int st), some (.ref d), some (.ref P), some (.ref D), v5, v6, v7, v8] ∧ PlanAt K H3 P pl ∧ pl.map (·.1) = ((wks B).drop ((wks B).length - i)).reverse ∧ (∀ p ∈ pl, ∃ l c, BR.way p.1 p.2.1 l c ∈ B ∧ 0 ≤ p.2.2 ∧ p.2.2 + l ≤ n) ∧ H3 D = some (.lst ((wks B).map V.str)) ∧ Same H H3) ⟨none, none, none, none, [], rfl, ⟨[], s2 _ _ (s1 _ _ hP0), .nil⟩, ?_, fun _ h => (nomatch h), s2 _ _ hL, s01.trans s2⟩ ?_ ?_⟩
    · rw [Nat.sub_zero, List.drop_length]; rfl
    · rintro i σ H3 hi ⟨v5, v6, v7, v8, pl, rfl, hP3, hk3, hg3, hL3, s3⟩
      rw [lm] at hi
      obtain ⟨k, hk⟩ : ∃ k : Nat, k = (wks B).length - 1 - i := ⟨_, rfl⟩
      have hkl : k < (wks B).length := by omega
      have ek : (((((wks B).map V.str).length : Nat) : Int) - 1) + ((i : Nat) : Int) * (-1) = ((k : Nat) : Int) := by rw [lm]; omega
      rw [ek]
      obtain ⟨w, ew⟩ : ∃ w, (wks B)[k]? = some w := ⟨_, List.getElem?_eq_getElem hkl⟩
      have aw : atI ((wks B).map V.str) ((k : Nat) : Int) = some (.str w) := atNat (by rw [List.getElem?_map, ew]; rfl)
      obtain ⟨v0, l0, c0, hw0⟩ := hway w (wks_mem.mp (List.mem_of_getElem? ew))
      refine ⟨_, rfl, _, rfl, _, rfl, D, _, _, _, rfl, rfl, sqL_new hL3, aw, d, w, us, B, rfl, s3 _ _ hd, hB.same s3, by omega, fun Dw yw H4 s4 fDw hDw hBw => ?_⟩
      have lyw := hBw.length
      have yne : 0 < yw.length := by
        rw [lyw]
        exact List.length_pos_of_mem (List.mem_filter.mpr ⟨hw0, decide_eq_true rfl⟩)
      have yle : yw.length ≤ B.length := by rw [lyw]; exact List.length_filter_le _ _
      refine ⟨_, rfl, by show 0 ≤ sizeLine; decide, fun p5 hp5 => ?_⟩
      have s5 := same_new' hp5 (.lst [])
      have s45 := s4.trans s5
      have hDw5 := s5 _ _ hDw
      have hBw5 := hBw.same s5
      refine ⟨Dw, p5, yw, rfl, rfl, sqL_new hDw5, sqL_new upd_same, _, rfl, ite2 (fun _ => ?_) (fun y => absurd (show (!yw.isEmpty) = true by
        cases yw with
        | nil => exact absurd yne (by decide)
        | cons a b => rfl) y)⟩
      generalize upd H4 p5 (.lst []) = H5 at s5 s45 hDw5 hBw5 ⊢
      have s35 := s3.trans s45
      refine ⟨_, rfl, _, rfl, _, rfl, _, _, rfl, rfl, a, ns, _, rfl, s35.seq hS, by omega, by omega, fun z z0 z1 => ?_⟩
      have py : (0 : Int) < ((yw.length : Nat) : Int) := by omega
      have j0 := Int.emod_nonneg z (Int.ne_of_gt py)
      have j1 := Int.emod_lt_of_pos z py
      obtain ⟨j, ej⟩ : ∃ j : Nat, z % ((yw.length : Nat) : Int) = ((j : Nat) : Int) := ⟨(z % ((yw.length : Nat) : Int)).toNat, by omega⟩
      have jl : j < yw.length := by omega
      obtain ⟨r, lr, er, ev, hr⟩ := hBw5.get (List.getElem?_eq_getElem jl)
      obtain ⟨hrB, hrw⟩ := List.mem_filter.mp (List.mem_of_getElem? er)
      obtain ⟨v', l', c', rfl⟩ : ∃ v' l' c', r = .way w v' l' c' := by
        cases r with
        | way w' v' l' c' =>
          have e : w' = w := of_decide_eq_true hrw
          subst e
          exact ⟨v', l', c', rfl⟩
        | _ => cases hrw
      have hok := bk.wb.ok _ hrB
      have hl1 : 1 ≤ l' ∧ l' ≤ n := ⟨hok.1, hok.2.1⟩
      have aj : atI yw (z % ((yw.length : Nat) : Int)) = some (.ref lr) := by
        rw [ej]
        exact atNat (by rw [List.getElem?_eq_getElem jl, ev])
      refine ⟨_, rfl, _, rfl, _, rfl, Dw, _, rfl, .inl (sqL_new hDw5), _, _, rfl, rfl, py, Dw, _, _, _, rfl, rfl, sqL_new hDw5, aj, ?_⟩
      obtain ⟨u0, eu0⟩ : ∃ u0, us[0]? = some u0 := ⟨_, List.getElem?_eq_getElem (by
        rw [lu]
        exact (List.getElem?_eq_some_iff.mp bk.hd).1)⟩
      obtain ⟨r0, ld, er0, rfl, hr0⟩ := (hB.same s35).get eu0
      rw [bk.hd] at er0
      cases er0
      have a0 : atI us 0 = some (.ref ld) := atNat (k := 0) eu0
      have b0 := Int.emod_nonneg (z / 3) (show (n - l' + 1) ≠ 0 by omega)
      have b1 := Int.emod_lt_of_pos (z / 3) (show 0 < n - l' + 1 by omega)
      refine ⟨_, rfl, lr, _, _, _, rfl, rfl, sqL_new hr, (show atI ((BR.way w v' l' c').cells.map kV) 2 = some (.str v') from rfl), _, rfl, _, _, rfl, rfl, ⟨by decide, by decide⟩, _, rfl, d, _, _, _, rfl, rfl, sqL_new (s35 _ _ hd), a0, ld, _, _, _, rfl, rfl, sqL_new hr0, (show atI ((BR.days n).cells.map kV) 1 = some (.int n) from rfl), _, rfl, lr, _, _, _, rfl, rfl, sqL_new hr, (show atI ((BR.way w v' l' c').cells.map kV) 3 = some (.int l') from rfl), _, _, rfl, rfl, _, _, rfl, rfl, _, _, rfl, rfl, (by show 0 < n - l' + 1; omega), by show 2 ≤ sizeLine; decide, fun t ht => ?_⟩
      have s6 := same_new' ht (.tup [.str v', .int (z / 3 % (n - l' + 1))])
      have ht6 : upd H5 t (.tup [.str v', .int (z / 3 % (n - l' + 1))]) t = some (.tup [.str v', .int (z / 3 % (n - l' + 1))]) := upd_same
      generalize upd H5 t (.tup [.str v', .int (z / 3 % (n - l' + 1))]) = H6 at s6 ht6 ⊢
      have s36 := s45.trans s6
      obtain ⟨kvs, hk6, hp6⟩ := PlanAt.same hP3 s36
      have wnk : (Sum.inr w : Key) ∉ kvs.map (·.1) := fun h => by
        rw [plan_keys hp6, hk3] at h
        obtain ⟨x, hx, e⟩ := List.mem_map.mp h
        cases e
        have hx' := List.mem_reverse.mp hx
        obtain ⟨j', ej'⟩ := List.mem_iff_getElem?.mp hx'
        rw [List.getElem?_drop] at ej'
        have := (List.getElem?_inj hkl (wks_nd bk.wb)).mp (ew.trans ej'.symm)
        omega
      have lk : kvs.length ≤ 400 := by
        have h5 := congrArg List.length (plan_keys hp6)
        rw [List.length_map, List.length_map, hk3, List.length_reverse, List.length_drop] at h5
        omega
      refine ⟨_, rfl, _, rfl, _, rfl, D, _, _, _, rfl, rfl, sqL_new (s36 _ _ hL3), aw, P, _, rfl, DPut.k (k := Sum.inr w) hk6 (by omega), _, _, _, _, pl ++ [(w, v', z / 3 % (n - l' + 1))], rfl, ⟨_, upd_same, ?_⟩, ?_, fun p hp => ?_, ?_, fun b o e => ?_⟩
      · rw [putK_new _ (val_none wnk)]
        exact Paired.snoc (Paired.mapP hp6 fun _ _ ⟨e, t', e2, z'⟩ => ⟨e, t', e2, sqT_updD hk6 z'⟩) ⟨rfl, t, rfl, sqT_updD hk6 (sqT_new ht6)⟩
      · rw [List.map_append, hk3, show (wks B).length - (i + 1) = k by omega, List.drop_eq_getElem_cons hkl, List.reverse_cons, show k + 1 = (wks B).length - i by omega]
        have e5 : (wks B)[k] = w := Option.some.inj ((List.getElem?_eq_getElem hkl).symm.trans ew)
        rw [e5]
        rfl
      · rcases List.mem_append.mp hp with h | h
        · exact hg3 p h
        · rw [List.mem_singleton.mp h]; exact ⟨l', c', hrB, b0, (by show z / 3 % (n - l' + 1) + l' ≤ n; omega)⟩
      · rw [upd_ne (ne_of (s36 _ _ hL3) hk6 (by intro z'; cases z'))]; exact s36 _ _ hL3
      · rw [upd_ne (ne_of_none e hP)]; exact (s3.trans s36) _ _ e
    · rintro σ H3 ⟨v5, v6, v7, v8, pl, rfl, hP3, hk3, hg3, hL3, s3⟩
      rw [lm, Nat.sub_self, List.drop_zero] at hk3
      exact ⟨_, rfl, q P pl H3 s3 hP hP3 ⟨hk3, hg3⟩⟩
end
end Nb
namespace Nb
open PySem L2
noncomputable abbrev sCost : Stmt := top 24
noncomputable def look (pl : List (Str × Str × Int)) (w : Str) : Str × Int := ((pl.find? fun p => decide (p.1 = w)).map (·.2)).getD ("", 0)
theorem look_of {pl : List (Str × Str × Int)} {w v : Str} {b : Int} (nd : (pl.map (·.1)).Nodup) (h : (w, v, b) ∈ pl) : look pl w = (v, b) := by
  have e : pl.find? (fun p => decide (p.1 = w)) = some (w, v, b) := by
    induction pl with
    | nil => exact nomatch h
    | cons p pl ih =>
      have nd' : (p.1 :: pl.map (·.1)).Nodup := nd
      obtain ⟨n1, n2⟩ := List.nodup_cons.mp nd'
      rcases List.mem_cons.mp h with e | e
      · rw [List.find?_cons_of_pos (by rw [← e]; exact decide_eq_true rfl), e]
      · have ne : ¬ p.1 = w := fun z => n1 (by rw [z]; exact List.mem_map.mpr ⟨_, e, rfl⟩)
        rw [List.find?_cons_of_neg (by simpa using ne)]
        exact ih n2 e
  unfold look
  rw [e]
  rfl
theorem PlanFor.get {n : Int} {B : List BR} {pl : List (Str × Str × Int)} (h : PlanFor n B pl) (wb : WB n B) {w : Str} (hw : BR.work w ∈ B) : ∃ l c, (w, (look pl w).1, (look pl w).2) ∈ pl ∧ BR.way w (look pl w).1 l c ∈ B ∧ 0 ≤ (look pl w).2 ∧ (look pl w).2 + l ≤ n := by
  have nd : (pl.map (·.1)).Nodup := by
    rw [h.keys]
    exact ((List.reverse_perm _).nodup_iff).mpr (wks_nd wb)
  have hm : w ∈ pl.map (·.1) := by rw [h.keys]; exact List.mem_reverse.mpr (wks_mem.mpr hw)
  obtain ⟨⟨w', v, b⟩, hp, e⟩ := List.mem_map.mp hm
  have e' : w' = w := e
  subst e'
  rw [look_of nd hp]
  obtain ⟨l, c, h1, h2, h3⟩ := h.good _ hp
  exact ⟨l, c, hp, h1, h2, h3⟩
theorem paired_getB {α β : Type} {R : α → β → Prop} {xs : List α} {ys : List β} (h : Paired R xs ys) : ∀ {i : Nat} {y : β}, ys[i]? = some y → ∃ x, xs[i]? = some x ∧ R x y := by
  induction h with
  | nil => intro i x e; exact nomatch e
  | cons z _ ih =>
    intro i x e
    match i with
    | 0 => cases e; exact ⟨_, rfl, z⟩
    | i + 1 => exact ih (show _ = some x from e)
theorem plan_get {K : PySem.W.Frag} {H : Hp} {P : Addr} {pl : List (Str × Str × Int)} {w v : Str} {b : Int} (h : PlanAt K H P pl) (nd : (pl.map (·.1)).Nodup) (hm : (w, v, b) ∈ pl) : ∃ t, DGet H P (.str w) (some (.ref t)) ∧ SqT K H t [.str v, .int b] := by
  obtain ⟨kvs, h1, h2⟩ := h
  obtain ⟨i, ei⟩ := List.mem_iff_getElem?.mp hm
  obtain ⟨⟨k, x⟩, ex, ek, t, et, hT⟩ := paired_getB h2 ei
  have ek' : k = Sum.inr w := ek
  have et' : x = .ref t := et
  subst ek' et'
  have ndk : (kvs.map (·.1)).Nodup := by
    rw [plan_keys h2]
    exact List.Pairwise.map Sum.inr (fun a b (hab : a ≠ b) e => hab (Sum.inr.inj e)) nd
  have hv : valV kvs (Sum.inr w) = some (.ref t) := val_at ndk ex
  have hg := DGet.k (k := Sum.inr w) h1
  rw [hv] at hg
  exact ⟨t, hg, hT⟩
noncomputable def lenB (B : List BR) (w v : Str) : Int := (B.filterMap (lenOf w v)).headD 0
theorem lenB_of {n : Int} {B : List BR} (wb : WB n B) {w v : Str} {l c : Int} (h : BR.way w v l c ∈ B) : lenB B w v = l := by
  have hx : ∀ x ∈ B.filterMap (lenOf w v), x = l := fun x hx => by
    obtain ⟨r, hr, e⟩ := List.mem_filterMap.mp hx
    obtain ⟨c', rfl⟩ := lenOf_some.mp e
    exact (wb.way1 hr h).1
  have hne : l ∈ B.filterMap (lenOf w v) := List.mem_filterMap.mpr ⟨_, h, lenOf_some.mpr ⟨c, rfl⟩⟩
  unfold lenB
  cases e : B.filterMap (lenOf w v) with
  | nil => rw [e] at hne; exact nomatch hne
  | cons a b => exact hx a (by rw [e]; exact List.mem_cons_self)
noncomputable def rowCost (B : List BR) (pl : List (Str × Str × Int)) : BR → Int
  | .way w v _ c => if (look pl w).1 = v then c else 0
  | .late w d k => if d < (look pl w).2 + lenB B w (look pl w).1 then ((look pl w).2 + lenB B w (look pl w).1 - d) * k else 0
  | _ => 0
theorem rowCost_no {B : List BR} {pl : List (Str × Str × Int)} {r : BR} (h1 : r.word ≠ "way") (h2 : r.word ≠ "late") : rowCost B pl r = 0 := by
  cases r with
  | way w v l c => exact absurd rfl h1
  | late w d c => exact absurd rfl h2
  | _ => rfl
noncomputable def costL (B : List BR) (pl : List (Str × Str × Int)) : Int := (B.map (rowCost B pl)).sum
theorem sum_next {B : List BR} {i : Nat} {r : BR} (f : BR → Int) (h : B[i]? = some r) : ((B.take (i + 1)).map f).sum = ((B.take i).map f).sum + f r := by
  rw [takeS h, List.map_append, List.sum_append]
  show _ + (f r + 0) = _
  omega
noncomputable def spCostL (K : PySem.W.Frag) : Sp := fun vs H Q _ => ∃ (d P : Addr) (n : Int) (us : List V) (B : List BR) (pl : List (Str × Str × Int)), vs = [.ref d, .ref P] ∧ H d = some (.lst us) ∧ RowsB H us B ∧ BookOk n B ∧ PlanAt K H P pl ∧ PlanFor n B pl ∧ ∀ (H' : Hp), Same H H' → Q (.int (costL B pl)) H'
section
variable {P : Program} {w : World} {K : PySem.W.Frag} {mg : Str → Option Value} {base : Heap}
theorem scCost : FnScope ["_law_book_here", "_law_plan_here", "_law_total", "_law_row", "_law_way_here", "_law_begin", "_law_end"] ["_law_book_here", "_law_plan_here"] (defScope sCost) := ⟨rfl, rfl, rfl, by decide +kernel, rfl, by decide +kernel, by decide +kernel⟩
theorem okCost (F : Fn K mg "_law_cost" sCost) (M : Mg mg) (cl_length : Cal P w K mg base 1 "_law_length" ["_law_book_here", "_law_work", "_law_way_here"] (spLength K)) : Cal P w K mg base 2 "_law_cost" ["_law_book_here", "_law_plan_here"] (spCostL K) := by
  refine cal_of F scCost (fun _ _ _ _ _ _ => bind2 (fun _ _ => rfl)) (fun vs H Q E h => ?_) (fun f cdv A outer s H vs Q E hr h => ?_)
  · obtain ⟨d, P, n, us, B, pl, rfl, _⟩ := h
    rfl
  obtain ⟨d, P, n, us, B, pl, rfl, hd, hB, bk, hP, hpf, q⟩ := h
  have hu : (A.deeper (PyProof.Rows.envOfC "_law_cost" (defScope sCost) s.heap.objs.size f cdv)).units + 1 < cLine := Nat.lt_of_le_of_lt (Nat.add_le_add_left (by decide) _) hr.un
  refine ⟨_, (pss_cons (ps_set (i := 2) scCost.nd rfl (Or.inl rfl) pe_int)
    (pss_cons (ps_for PassesOwn.never rfl (pi_list (pv 0)) (pg_name (i := 3) scCost.nd rfl (Or.inl rfl) (Or.inl rfl)) (pss_cons (ps_if (PW.pt (pw_and (pt_cmpR op_eq (pe_ix ix_list (pv 3) pe_int (fun _ _ => rfl)) pe_str (nomark _)) (pw_and1 (pt_cmpR op_eq (pe_ix ix_tup (pe_dget hu (pv 1) (pe_ix ix_list (pv 3) pe_int (fun _ _ => rfl)) (fun _ _ => rfl)) pe_int (fun _ _ => rfl)) (pe_ix ix_list (pv 3) pe_int (fun _ _ => rfl)) (nomark _))))) (pss_one (ps_set (i := 2) scCost.nd rfl (Or.inl rfl) (pe_op op_add (pv 2) (pe_ix ix_list (pv 3) pe_int (fun _ _ => rfl))))) pss_nil)
    (pss_one (ps_if (pt_cmpR op_eq (pe_ix ix_list (pv 3) pe_int (fun _ _ => rfl)) pe_str (nomark _)) (pss_cons (ps_asg (pe_dget hu (pv 1) (pe_ix ix_list (pv 3) pe_int (fun _ _ => rfl)) (fun _ _ => rfl)) (pg_pair (K := K) (i := 4) (j := 5) rfl rfl scCost.nd rfl rfl rfl rfl))
    (pss_cons (ps_set (i := 6) scCost.nd rfl (Or.inl rfl) (pe_op op_add (pv 5) (pe_fn cl_length (hr.mono (by decide)) (pa_cons (pv 0) (pa_cons (pe_ix ix_list (pv 3) pe_int (fun _ _ => rfl)) (pa_cons (pv 4) pa_nil))))))
    (pss_one (ps_if (pt_cmpR op_gt (pv 6) (pe_ix ix_list (pv 3) pe_int (fun _ _ => rfl)) (nomark _)) (pss_one (ps_set (i := 2) scCost.nd rfl (Or.inl rfl) (pe_op op_add (pv 2) (pe_op op_mul (pe_op op_sub (pv 6) (pe_ix ix_list (pv 3) pe_int (fun _ _ => rfl))) (pe_ix ix_list (pv 3) pe_int (fun _ _ => rfl)))))) pss_nil)))) pss_nil))))
    (pss_one (ps_ret (pv 2))))), ?_⟩
  refine seq_let3 ?_
  intro rT3 rT2
  have hz : (20000 : Nat) < sizeLine := by decide
  have lu := hB.length
  have bl := bk.wb.len
  have nd : (pl.map (·.1)).Nodup := by
    rw [hpf.keys]
    exact ((List.reverse_perm _).nodup_iff).mpr (wks_nd bk.wb)
  have n12 := bk.n12
  refine ⟨_, rfl, d, rfl, ⟨_, sqL_new hd⟩, for_list (K := K) (a := d) (xs := us) (fun i σ H1 => ∃ v3 v4 v5 v6 : Option V, σ = [some (.ref d), some (.ref P), some (.int ((B.take i).map (rowCost B pl)).sum), v3, v4, v5, v6] ∧ Same H H1) ⟨none, none, none, none, rfl, Same.refl _⟩ (fun i σ H1 _ h => ?_) ?_ ?_⟩
  · obtain ⟨v3, v4, v5, v6, rfl, s1⟩ := h
    exact s1.seq (sqL_new hd)
  · rintro i x σ H1 e1 ⟨v3, v4, v5, v6, rfl, s1⟩
    obtain ⟨r, lr, er, rfl, hr⟩ := (hB.same s1).get e1
    have hrB := List.mem_of_getElem? er
    rw [sum_next _ er]
    generalize ((B.take i).map (rowCost B pl)).sum = tot
    refine seq_cut (fun σ' H' => ∃ (v4 v5 v6 : Option V) (t1 : Int), σ' = [some (.ref d), some (.ref P), some (.int t1), some (.ref lr), v4, v5, v6] ∧ t1 = tot + (if r.word = "late" then 0 else rowCost B pl r) ∧ Same H1 H') ?_ fun REST => ?_
    · rintro σ' H2 ⟨v4, v5, v6, t1, rfl, et1, s2⟩
      have hr2 := s2 _ _ hr
      refine ⟨_, rfl, lr, _, _, _, rfl, rfl, sqL_new hr2, at_word r, rfl, _, rfl, ite2 (fun y => ?_) (fun y => ?_)⟩
      · obtain ⟨w, dd, kc, rfl⟩ := word_late (eqS y)
        rw [if_pos (show (BR.late w dd kc).word = "late" from rfl), Int.add_zero] at et1
        subst et1
        have hw : BR.work w ∈ B := bk.wb.ref _ hrB w List.mem_cons_self
        obtain ⟨l, c, hm, hway, b0, b1⟩ := hpf.get bk.wb hw
        obtain ⟨t, dg, hT⟩ := plan_get (PlanAt.same hP (s1.trans s2)) nd hm
        have hlen := lenB_of bk.wb hway
        have hok := bk.wb.ok _ hway
        have hlo := bk.wb.ok _ hrB
        have ok1 : 1 ≤ l ∧ l ≤ n := ⟨hok.1, hok.2.1⟩
        have ok2 : 0 ≤ dd ∧ dd ≤ n := ⟨hlo.1, hlo.2.1⟩
        have c1 : atI ((BR.late w dd kc).cells.map kV) 1 = some (.str w) := rfl
        have c2 : atI ((BR.late w dd kc).cells.map kV) 2 = some (.int dd) := rfl
        have c3 : atI ((BR.late w dd kc).cells.map kV) 3 = some (.int kc) := rfl
        refine ⟨_, rfl, _, rfl, lr, _, _, _, rfl, rfl, sqL_new hr2, c1, P, _, rfl, dg, t, _, rfl, hT, rfl, _, _, rfl, _, _, rfl, rfl, ?_⟩
        refine ⟨_, rfl, _, rfl, _, rfl, lr, _, _, _, rfl, rfl, sqL_new hr2, c1, _, rfl, d, w, _, n, us, B, l, c, rfl, (s1.trans s2) _ _ hd, hB.same (s1.trans s2), bk.wb, hway, fun H3 s3 => ⟨_, _, rfl, rfl, ?_⟩⟩
        have hr3 := s3 _ _ hr2
        have s13 := (s1.trans s2).trans s3
        refine ⟨_, rfl, _, rfl, lr, _, _, _, rfl, rfl, sqL_new hr3, c2, _, _, rfl, rfl, _, rfl, ite2 (fun y2 => ?_) (fun y2 => ?_)⟩
        · have y3 : dd < (look pl w).2 + l := of_decide_eq_true y2
          refine ⟨_, rfl, _, rfl, _, rfl, lr, _, _, _, rfl, rfl, sqL_new hr3, c2, _, _, rfl, rfl, _, rfl, lr, _, _, _, rfl, rfl, sqL_new hr3, c3, _, _, rfl, rfl, mulC _ _ (by omega) (by omega), _, _, rfl, rfl, ?_⟩
          have e5 : rowCost B pl (.late w dd kc) = ((look pl w).2 + l - dd) * kc := by
            show (if dd < (look pl w).2 + lenB B w (look pl w).1 then _ else _) = _
            rw [hlen, if_pos y3]
          rw [e5]
          exact ⟨_, _, _, _, rfl, s13⟩
        · have y3 : ¬ dd < (look pl w).2 + l := fun z => y2 (decide_eq_true z)
          have e5 : rowCost B pl (.late w dd kc) = 0 := by
            show (if dd < (look pl w).2 + lenB B w (look pl w).1 then _ else _) = _
            rw [hlen, if_neg y3]
          rw [e5, Int.add_zero]
          exact ⟨_, _, _, _, rfl, s13⟩
      · rw [if_neg (fun e => y (by rw [e]; exact yesS _))] at et1
        rw [← et1]
        exact ⟨_, _, _, _, rfl, s1.trans s2⟩
    · refine ⟨_, rfl, lr, _, _, _, rfl, rfl, sqL_new hr, at_word r, rfl, _, rfl, ite2 (fun y => ?_) (fun y => iteF ?_)⟩
      · obtain ⟨w, v, l, c, rfl⟩ := word_way (eqS y)
        have hw : BR.work w ∈ B := bk.wb.ref _ hrB w List.mem_cons_self
        obtain ⟨l', c', hm, hway, b0, b1⟩ := hpf.get bk.wb hw
        obtain ⟨t, dg, hT⟩ := plan_get (PlanAt.same hP s1) nd hm
        have nl : ¬ (BR.way w v l c).word = "late" := by show ¬ (("way" : Str) = "late"); decide +kernel
        refine ⟨_, rfl, _, rfl, lr, _, _, _, rfl, rfl, sqL_new hr, (show atI ((BR.way w v l c).cells.map kV) 1 = some (.str w) from rfl), P, _, rfl, dg, t, _, _, _, rfl, rfl, hT, at0, _, rfl, lr, _, _, _, rfl, rfl, sqL_new hr, (show atI ((BR.way w v l c).cells.map kV) 2 = some (.str v) from rfl), rfl, _, rfl, ite2 (fun y2 => ?_) (fun y2 => ?_)⟩
        · refine ⟨_, rfl, _, rfl, lr, _, _, _, rfl, rfl, sqL_new hr, (show atI ((BR.way w v l c).cells.map kV) 4 = some (.int c) from rfl), _, _, rfl, rfl, REST _ _ ⟨_, _, _, _, rfl, ?_, Same.refl _⟩⟩
          rw [if_neg nl]
          show tot + c = tot + (if (look pl w).1 = v then c else 0)
          rw [if_pos (eqS y2)]
        · refine REST _ _ ⟨_, _, _, _, rfl, ?_, Same.refl _⟩
          rw [if_neg nl]
          show tot = tot + (if (look pl w).1 = v then c else 0)
          rw [if_neg (fun e => y2 (by rw [e]; exact yesS _)), Int.add_zero]
      · refine REST _ _ ⟨_, _, _, _, rfl, ?_, Same.refl _⟩
        by_cases hl : r.word = "late"
        · rw [if_pos hl, Int.add_zero]
        · rw [if_neg hl, rowCost_no (fun e => y (by rw [e]; exact yesS _)) hl, Int.add_zero]
  · rintro σ H1 ⟨v3, v4, v5, v6, rfl, s1⟩
    rw [lu, List.take_length]
    exact ⟨_, rfl, q H1 s1⟩
end
end Nb
namespace Nb
open PySem L2
noncomputable abbrev sSaid : Stmt := top 3
noncomputable abbrev sFcInit : Stmt := inClass (top 5) 0
noncomputable abbrev sFcEnd : Stmt := inClass (top 5) 4
noncomputable abbrev sFcPrice : Stmt := inClass (top 5) 5
noncomputable def NamesOk (fN : Str → Option Value) : Prop := ∀ r : BR, ∃ t, fN r.word = some (.int ((r.names.length : Nat) : Int) t)
theorem key_len (r : BR) : r.key.length = 1 + r.names.length := by
  unfold BR.key
  rw [List.length_cons, List.length_map]
  omega
theorem cut_key (r : BR) : cutV (r.cells.map kV) none (some (1 + ((r.names.length : Nat) : Int))) = r.key.map kV := by
  unfold cutV
  have h1 : (1 : Int) + ((r.names.length : Nat) : Int) = ((r.key.length : Nat) : Int) := by rw [key_len]; omega
  have h2 : r.key.length ≤ r.cells.length := by unfold BR.cells; rw [List.length_append]; omega
  rw [HT.sIx_none, List.drop_zero, Nat.sub_zero, h1, HT.sIx_nat, List.length_map, Nat.min_eq_left h2, ← List.map_take]
  unfold BR.cells
  rw [List.take_left']
  rfl
theorem cut_nums (r : BR) : cutV (r.cells.map kV) (some (((r.key.map kV).length : Nat) : Int)) none = r.nums.map V.int := by
  unfold cutV
  have h2 : r.key.length ≤ r.cells.length := by unfold BR.cells; rw [List.length_append]; omega
  rw [HT.sIx_none, HT.sIx_nat, List.length_map, List.length_map, Nat.min_eq_left h2, ← List.map_drop]
  unfold BR.cells
  rw [List.drop_left', List.length_append, Nat.add_sub_cancel_left, List.map_map, List.take_of_length_le (by rw [List.length_map, List.length_map]; exact Nat.le_refl _)]
  · rfl
  · rfl
noncomputable def spSaid : Sp := fun vs H Q _ => ∃ (l : Addr) (r : BR), vs = [.ref l] ∧ H l = some (.lst (r.cells.map kV)) ∧ ∀ (t : Addr) (H' : Hp), Same H H' → H t = none → H' t = some (.tup (r.key.map kV)) → Q (.ref t) H'
structure FcTxt (K : PySem.W.Frag) (mg : Str → Option Value) (C : Addr) : Prop where
  cl : Cls K C
  nD : NoAttr K C "days"
  nW : NoAttr K C "works"
  nB : NoAttr K C "benches"
  nH : NoAttr K C "shuts"
  nS : NoAttr K C "stores"
  nA : NoAttr K C "afters"
  nI : NoAttr K C "said"
  mgC : mg "Facts" = some (.ref C)
noncomputable def FrP (p : Addr) (H H' : Hp) : Prop := ∀ b o, H b = some o → b ≠ p → H' b = some o
theorem RowsB.frP {p : Addr} {H H' : Hp} {vs : List V} {B : List BR} {C dx : Addr} {fs : List (Str × V)} (h : RowsB H vs B) (f : FrP p H H') (hp : H p = some (.ins C dx fs)) : RowsB H' vs B := h.imp fun l r _ z => f _ _ z (ne_of z hp (by intro e; cases e))
theorem sqT_updI {K : PySem.W.Frag} {H : Hp} {P t C dx C' dx' : Addr} {fs fs' : List (Str × V)} {xs : List V} (hP : H P = some (.ins C dx fs)) (h : SqT K H t xs) : SqT K (upd H P (.ins C' dx' fs')) t xs := by
  rcases h with (h | ⟨p, h⟩) | h
  · exact .inl (.inl (by rw [upd_ne (ne_of h hP (by intro z; cases z))]; exact h))
  · exact .inl (.inr ⟨p, by rw [upd_ne (ne_of h hP (by intro z; cases z))]; exact h⟩)
  · exact .inr h
noncomputable def SaidOk (K : PySem.W.Frag) (H : Hp) (kvs : List (List Key × V)) (B : List BR) : Prop :=
  (∀ r ∈ B, r.word ≠ "shut" → ∃ t, valV kvs r.key = some (.ref t) ∧ SqT K H t (r.nums.map V.int)) ∧ ∀ k : List Key, (∀ r ∈ B, r.key ≠ k) → valV kvs k = none
noncomputable def SaidPs (K : PySem.W.Frag) (H : Hp) : List (List Key × V) → List BR → Prop := Paired fun p r => p.1 = r.key ∧ ∃ t, p.2 = .ref t ∧ SqT K H t (r.nums.map V.int)
theorem dictOfT_none {ps : List (List Key × V)} {k : List Key} (h : ∀ p ∈ ps, p.1 ≠ k) : ∀ m, m ≤ ps.length → valV (dictOfT (ps.take m)) k = none := by
  intro m
  induction m with
  | zero => intro _; rfl
  | succ m ih =>
    intro hm
    have e : ps[m]? = some ps[m] := List.getElem?_eq_getElem hm
    rw [dictOfT_snoc e, valV_put, if_neg (fun z => h _ (List.mem_of_getElem? e) z.symm)]
    exact ih (by omega)
theorem dictOfT_some {ps : List (List Key × V)} {k : List Key} {v : V} {i : Nat} (hi : ps[i]? = some (k, v)) (hu : ∀ j p, ps[j]? = some p → p.1 = k → j = i) : ∀ m, i < m → m ≤ ps.length → valV (dictOfT (ps.take m)) k = some v := by
  intro m
  induction m with
  | zero => intro h; exact absurd h (Nat.not_lt_zero _)
  | succ m ih =>
    intro h1 hm
    have e : ps[m]? = some ps[m] := List.getElem?_eq_getElem hm
    rw [dictOfT_snoc e, valV_put]
    by_cases c : m = i
    · subst c
      have e2 : ps[m] = (k, v) := Option.some.inj (e.symm.trans hi)
      rw [e2, if_pos rfl]
    · rw [if_neg (fun z => c (hu m _ e z.symm))]
      exact ih (by omega) (by omega)
theorem said_ok {K : PySem.W.Frag} {H : Hp} {ps : List (List Key × V)} {n : Int} {B : List BR} (h : SaidPs K H ps B) (wb : WB n B) : SaidOk K H (dictOfT ps) B := by
  have hl := Paired.length h
  refine ⟨fun r hr hs => ?_, fun k hk => ?_⟩
  · obtain ⟨i, ei⟩ := List.mem_iff_getElem?.mp hr
    obtain ⟨⟨k, v⟩, ex, e1, t, e2, hT⟩ := paired_getB h ei
    have e1' : k = r.key := e1
    have e2' : v = .ref t := e2
    subst e1' e2'
    have il := (List.getElem?_eq_some_iff.mp ex).1
    have hv := dictOfT_some ex (fun j p ep hp => ?_) ps.length il (Nat.le_refl _)
    · rw [List.take_length] at hv
      exact ⟨t, hv, hT⟩
    · obtain ⟨q, eq, e3, _⟩ := paired_get h ep
      have hk : r.key = q.key := hp.symm.trans e3
      rcases Nat.lt_trichotomy i j with c | c | c
      · rcases pw_at wb.nd c ei eq with z | z | z
        · exact absurd z hs
        · have h1 : ((Sum.inr r.word : Key) :: r.names.map Sum.inr) = Sum.inr q.word :: q.names.map Sum.inr := hk
          injection h1 with h2
          exact absurd ((Sum.inr.inj h2).trans z) hs
        · exact absurd hk z
      · exact c.symm
      · rcases pw_at wb.nd c eq ei with z | z | z
        · have h1 : ((Sum.inr r.word : Key) :: r.names.map Sum.inr) = Sum.inr q.word :: q.names.map Sum.inr := hk
          injection h1 with h2
          exact absurd ((Sum.inr.inj h2).trans z) hs
        · exact absurd z hs
        · exact absurd hk.symm z
  · have hv := dictOfT_none (ps := ps) (k := k) (fun p hp => ?_) ps.length (Nat.le_refl _)
    · rw [List.take_length] at hv
      exact hv
    · obtain ⟨i, ei⟩ := List.mem_iff_getElem?.mp hp
      obtain ⟨q, eq, e3, _⟩ := paired_get h ei
      rw [e3]
      exact hk q (List.mem_of_getElem? eq)
noncomputable def FcAt (K : PySem.W.Frag) (C : Addr) (H : Hp) (p : Addr) (B : List BR) : Prop := ∃ (dx lw ds : Addr) (fs : List (Str × V)) (kvs : List (List Key × V)), H p = some (.ins C dx fs) ∧ fs.lookup ("works" : Str) = some (.ref lw) ∧ fs.lookup ("said" : Str) = some (.ref ds) ∧ fs.lookup ("end_of" : Str) = none ∧ fs.lookup ("price_of" : Str) = none ∧ H lw = some (.lst ((wks B).map V.str)) ∧ H ds = some (.dT kvs) ∧ SaidOk K H kvs B
theorem FcAt.same {K : PySem.W.Frag} {C : Addr} {H H' : Hp} {p : Addr} {B : List BR} (h : FcAt K C H p B) (s : Same H H') : FcAt K C H' p B := by
  obtain ⟨dx, lw, ds, fs, kvs, h1, h2, h3, h4, h5, h6, h7, h8, h9⟩ := h
  exact ⟨dx, lw, ds, fs, kvs, s _ _ h1, h2, h3, h4, h5, s _ _ h6, s _ _ h7, fun r hr hs => (let ⟨t, a, b⟩ := h8 r hr hs; ⟨t, a, s.tup b⟩), h9⟩
noncomputable def spFInit (K : PySem.W.Frag) (C : Addr) : Sp := fun vs H Q _ => ∃ (p d dx : Addr) (n : Int) (us : List V) (B : List BR), vs = [.ref p, .ref d] ∧ H p = some (.ins C dx []) ∧ H d = some (.lst us) ∧ RowsB H us B ∧ BookOk n B ∧
  ∀ H', FcAt K C H' p B → FrP p H H' → Q .non H'
section
variable {P : Program} {w : World} {K : PySem.W.Frag} {mg : Str → Option Value} {base : Heap}
theorem scSaid : FnScope ["row"] ["row"] (defScope sSaid) := ⟨rfl, rfl, rfl, by decide +kernel, rfl, by decide +kernel, by decide +kernel⟩
theorem okSaid {aN : Addr} {fN : Str → Option Value} (F : Fn K mg "said_by" sSaid) (M : Mg mg) (TN : Tab w K mg "NAMES" aN fN) (hN : NamesOk fN) : Cal P w K mg base 1 "said_by" ["row"] spSaid := by
  refine cal_of F scSaid (fun _ _ _ _ _ _ => bind1 (fun _ => rfl)) (fun vs H Q E h => ?_) (fun f cdv A outer s H vs Q E hr h => ?_)
  · obtain ⟨l, r, rfl, _⟩ := h
    rfl
  obtain ⟨l, r, rfl, hl, q⟩ := h
  refine ⟨_, (pss_one (ps_ret (pe_callTy call_tuple_of rfl M.tuple_ bt_tuple (pa_cons (pe_slice sl_list (pv 0) po_none (po_some (pe_op op_add pe_int (pe_ix (ix_tab TN) (pe_glob (v := .ref aN) rfl TN.bound rfl) (pe_ix ix_list (pv 0) pe_int (fun _ _ => rfl)) (fun _ _ => rfl))))) pa_nil)))), ?_⟩
  obtain ⟨t, ht⟩ := hN r
  refine ⟨_, rfl, _, rfl, l, _, _, _, rfl, rfl, sqL_new hl, at_word r, _, _, .int ((r.names.length : Nat) : Int), rfl, rfl, ht, ⟨_, rfl⟩, _, _, rfl, rfl, _, rfl, l, _, rfl, sqL_new hl, fun p1 hp1 => ?_⟩
  rw [cut_key]
  have s1 := same_new' hp1 (.lst (r.key.map kV))
  refine ⟨p1, _, rfl, .inl ⟨sqL_new upd_same, fun t1 ht1 => ?_⟩⟩
  refine q t1 _ (s1.trans (same_new' ht1 _)) ?_ upd_same
  cases e5 : H t1 with
  | none => rfl
  | some o => rw [s1 _ _ e5] at ht1; cases ht1
theorem scFcI : FnScope ["self", "book"] ["self", "book"] (defScope sFcInit) := ⟨rfl, rfl, rfl, by decide +kernel, rfl, by decide +kernel, by decide +kernel⟩
theorem okFcI {f C : Addr} {fd : FuncData} (F : Fun K "__init__" "Facts.__init__" sFcInit f fd) (M : Mg mg) (T : FcTxt K mg C) (c_said_by : Cal P w K mg base 1 "said_by" ["row"] spSaid) : FnOk P w K mg base CX0 2 f fd ["self", "book"] (spFInit K C) := by
  refine F.ok scFcI (fun vs H Q E h => ?_) (fun cdv A outer s H vs Q E hr h => ?_)
  · obtain ⟨p, d, dx, n, us, B, rfl, _⟩ := h
    rfl
  · obtain ⟨p, d, dx, n, us, B, rfl, hp, hd, hB, bk, q⟩ := h
    have hz : (20000 : Nat) < sizeLine := by decide
    have lu := hB.length
    have bl := bk.wb.len
    have hu6 : (A.deeper (PyProof.Rows.envOfC "Facts.__init__" (defScope sFcInit) s.heap.objs.size f cdv)).units + 6 < cLine := Nat.lt_of_le_of_lt (Nat.add_le_add_left (by decide) _) hr.un
    have nd : d ≠ p := ne_of hd hp (by intro z; cases z)
    refine ⟨_, (pss_cons (ps_fld (pv 0) (pe_ix ix_list (pe_ix ix_list (pv 1) pe_int (fun _ _ => rfl)) pe_int (fun _ _ => rfl)) rfl)
    (pss_cons (ps_fld (pv 0) (pe_lc ["row"] [none] rfl (pi_list (pv 1)) (fun _ _ _ => (pg_name (i := 0) (show (["row"] : List Str).Nodup by decide +kernel) rfl (Or.inl rfl) (Or.inr rfl))) (fun _ _ _ => (pf_one (pt_cmpR op_eq (pe_ix (ix_listK (K := K) rfl) (pv 0) pe_int (fun _ _ => rfl)) pe_str (nomark _)))) (fun _ _ _ => (pe_ix (ix_listK (K := K) rfl) (pv 0) pe_int (fun _ _ => rfl)))) rfl)
    (pss_cons (ps_fld (pv 0) (pe_lc ["row"] [none] rfl (pi_list (pv 1)) (fun _ _ _ => (pg_name (i := 0) (show (["row"] : List Str).Nodup by decide +kernel) rfl (Or.inl rfl) (Or.inr rfl))) (fun _ _ _ => (pf_one (pt_cmpR op_eq (pe_ix (ix_listK (K := K) rfl) (pv 0) pe_int (fun _ _ => rfl)) pe_str (nomark _)))) (fun _ _ _ => (pe_ix (ix_listK (K := K) rfl) (pv 0) pe_int (fun _ _ => rfl)))) rfl)
    (pss_cons (ps_fld (pv 0) (pe_lc ["row"] [none] rfl (pi_list (pv 1)) (fun _ _ _ => (pg_name (i := 0) (show (["row"] : List Str).Nodup by decide +kernel) rfl (Or.inl rfl) (Or.inr rfl))) (fun _ _ _ => (pf_one (pt_cmpR op_eq (pe_ix (ix_listK (K := K) rfl) (pv 0) pe_int (fun _ _ => rfl)) pe_str (nomark _)))) (fun _ _ _ => (pe_callTy (call_tuple_ofK (K := K) rfl) rfl M.tuple_ bt_tuple (pa_cons (pe_slice (sl_listK (K := K) rfl) (pv 0) (po_some pe_int) po_none) pa_nil)))) rfl)
    (pss_cons (ps_fld (pv 0) (pe_lc ["row"] [none] rfl (pi_list (pv 1)) (fun _ _ _ => (pg_name (i := 0) (show (["row"] : List Str).Nodup by decide +kernel) rfl (Or.inl rfl) (Or.inr rfl))) (fun _ _ _ => (pf_one (pt_cmpR op_eq (pe_ix (ix_listK (K := K) rfl) (pv 0) pe_int (fun _ _ => rfl)) pe_str (nomark _)))) (fun _ _ _ => (pe_callTy (call_tuple_ofK (K := K) rfl) rfl M.tuple_ bt_tuple (pa_cons (pe_slice (sl_listK (K := K) rfl) (pv 0) (po_some pe_int) po_none) pa_nil)))) rfl)
    (pss_cons (ps_fld (pv 0) (pe_lc ["row"] [none] rfl (pi_list (pv 1)) (fun _ _ _ => (pg_name (i := 0) (show (["row"] : List Str).Nodup by decide +kernel) rfl (Or.inl rfl) (Or.inr rfl))) (fun _ _ _ => (pf_one (pt_cmpR op_eq (pe_ix (ix_listK (K := K) rfl) (pv 0) pe_int (fun _ _ => rfl)) pe_str (nomark _)))) (fun _ _ _ => (pe_callTy (call_tuple_ofK (K := K) rfl) rfl M.tuple_ bt_tuple (pa_cons (pe_slice (sl_listK (K := K) rfl) (pv 0) (po_some pe_int) po_none) pa_nil)))) rfl)
    (pss_one (ps_fld (pv 0) (pe_callTy (call_dict_ofT (n := 6) (by decide) hu6 rfl) rfl M.dict_ bt_dict (pa_cons (pe_lc ["row"] [none] rfl (pi_list (pv 1)) (fun _ _ _ => (pg_name (i := 0) (show (["row"] : List Str).Nodup by decide +kernel) rfl (Or.inl rfl) (Or.inr rfl))) (fun _ _ _ => pf_nil) (fun _ _ _ => (pe_tup (pa_cons (pe_fn c_said_by (hr.mono (by decide)) (pa_cons (pv 0) pa_nil)) (pa_cons (pe_callTy (call_tuple_ofK (K := K) rfl) rfl M.tuple_ bt_tuple (pa_cons (pe_slice (sl_listK (K := K) rfl) (pv 0) (po_some (pe_callB (call_len_seqK (K := K) rfl) rfl M.len bt_len (pa_cons (pe_fn c_said_by (hr.mono (by decide)) (pa_cons (pv 0) pa_nil)) pa_nil))) po_none) pa_nil)) pa_nil))))) pa_nil)) rfl)))))))), ?_⟩
    obtain ⟨u0, eu0⟩ : ∃ u0, us[0]? = some u0 := ⟨_, List.getElem?_eq_getElem (by
      rw [lu]
      exact (List.getElem?_eq_some_iff.mp bk.hd).1)⟩
    obtain ⟨r0, ld, er0, rfl, hr0⟩ := hB.get eu0
    rw [bk.hd] at er0
    cases er0
    have a0 : atI us 0 = some (.ref ld) := atNat (k := 0) eu0
    refine ⟨_, rfl, d, _, _, _, rfl, rfl, sqL_new hd, a0, ld, _, _, _, rfl, rfl, sqL_new hr0, (show atI ((BR.days n).cells.map kV) 1 = some (.int n) from rfl), _, rfl, p, C, dx, [], rfl, hp, T.cl, T.nD, (by show 0 < 1000; decide), ?_⟩
    have fr1 : FrP p H (upd H p (.ins C dx (putF "days" (.int n) []))) := fun b o e hb => by rw [upd_ne hb]; exact e
    have hp1 : upd H p (.ins C dx (putF "days" (.int n) [])) p = some (.ins C dx (putF "days" (.int n) [])) := upd_same
    obtain ⟨fs1, efs1⟩ : ∃ fs, fs = putF "days" (.int n) [] := ⟨_, rfl⟩
    have lf1 : fs1.length ≤ 1 := by rw [efs1]; exact length_putF "days" (.int n) []
    rw [← efs1] at fr1 hp1 ⊢
    generalize upd H p (.ins C dx fs1) = H1' at fr1 hp1 ⊢
    have hd1 := fr1 _ _ hd nd
    have hB1 := hB.frP fr1 hp
    refine ⟨_, rfl, d, rfl, ⟨_, sqL_new hd1⟩, fun lw hlw => ?_⟩
    refine lc_any (n := B.length) (fun m τ ys H1 => ∃ v : Option V, τ = [v] ∧ ys = ((B.take m).filterMap workOf).map V.str ∧ ys.length ≤ m ∧ H1 lw = some (.lst ys) ∧ Same H1' H1) ?_ (fun m τ ys H1 hm h => ?_) (fun m τ ys H1 hm h => ?_) (fun τ ys H1 h => ?_) ?_ ?_
    · exact ⟨none, rfl, rfl, Nat.le_refl _, upd_same, same_new' hlw _⟩
    · obtain ⟨v, rfl, ey, hl, hE, sv⟩ := h
      exact ⟨hE, by omega⟩
    · obtain ⟨v, rfl, ey, hl, hE, sv⟩ := h
      exact ⟨us, us[m]'(by omega), sv.seq (sqL_new hd1), List.getElem?_eq_getElem (by omega)⟩
    · obtain ⟨v, rfl, ey, hl, hE, sv⟩ := h
      exact ⟨us, sv.seq (sqL_new hd1), by omega⟩
    · rintro m τ ys H1 x H2 hm ⟨v, rfl, ey, hl, hE, sv⟩ ⟨rfl, e1⟩
      obtain ⟨r, lr, er, rfl, hr⟩ := (hB1.same sv).get (e1 _ (sv.seq (sqL_new hd1)))
      refine ⟨_, rfl, lr, _, _, _, rfl, rfl, sqL_new hr, at_word r, rfl, _, rfl, ite2 (fun y => ?_) (fun y => ?_)⟩
      · obtain ⟨w, rfl⟩ := word_work (eqS y)
        refine ⟨_, rfl, lr, _, _, _, rfl, rfl, sqL_new hr, (show atI ((BR.work w).cells.map kV) 1 = some (.str w) from rfl), hE, _, rfl, ?_, by rw [List.length_append]; exact Nat.succ_le_succ hl, upd_same, fun b o e => ?_⟩
        · rw [fmap_next workOf er, show workOf (.work w) = some w from rfl, List.map_append, ey]
          rfl
        · rw [upd_ne (ne_of_none e hlw)]; exact sv _ _ e
      · refine ⟨_, rfl, ?_, by omega, hE, sv⟩
        rw [fmap_next workOf er, workOf_no (fun e => y (by rw [e]; exact yesS _)), ey]
        simp
    rintro τ ys H1 ⟨v, rfl, ey, hl, hE, sv⟩
    rw [List.take_length] at ey
    have nlw : lw ≠ p := fun e => by rw [e, hp1] at hlw; cases hlw
    have lw1 : H1 lw = some (.lst ((wks B).map V.str)) := by rw [hE, ey]; rfl
    refine ⟨_, rfl, p, C, dx, _, rfl, sv _ _ hp1, T.cl, T.nW, by omega, ?_⟩
    have fr2 : FrP p H (upd H1 p (.ins C dx (putF "works" (.ref lw) fs1))) := fun b o e hb => by rw [upd_ne hb]; exact sv _ _ (fr1 b o e hb)
    have hp2 : upd H1 p (.ins C dx (putF "works" (.ref lw) fs1)) p = some (.ins C dx (putF "works" (.ref lw) fs1)) := upd_same
    have lw2 : upd H1 p (.ins C dx (putF "works" (.ref lw) fs1)) lw = some (.lst ((wks B).map V.str)) := by rw [upd_ne nlw]; exact lw1
    obtain ⟨fs2, efs2⟩ : ∃ fs, fs = putF "works" (.ref lw) fs1 := ⟨_, rfl⟩
    have lf2 : fs2.length ≤ 2 := by rw [efs2]; have := length_putF "works" (.ref lw) fs1; omega
    rw [← efs2] at fr2 hp2 lw2 ⊢
    generalize upd H1 p (.ins C dx fs2) = H2 at fr2 hp2 lw2 ⊢
    have hd2 := fr2 _ _ hd nd
    have hB2 := hB.frP fr2 hp
    refine ⟨_, rfl, d, rfl, ⟨_, sqL_new hd2⟩, fun D hD => ?_⟩
    refine lc_any (n := B.length) (fun m τ ys H1 => ∃ v : Option V, τ = [v] ∧ ys.length ≤ m ∧ H1 D = some (.lst ys) ∧ Same H2 H1) ?_ (fun m τ ys H1 hm h => ?_) (fun m τ ys H1 hm h => ?_) (fun τ ys H1 h => ?_) ?_ ?_
    · exact ⟨none, rfl, Nat.le_refl _, upd_same, same_new' hD _⟩
    · obtain ⟨v, rfl, hl, hE, sv⟩ := h
      exact ⟨hE, by omega⟩
    · obtain ⟨v, rfl, hl, hE, sv⟩ := h
      exact ⟨us, us[m]'(by omega), sv.seq (sqL_new hd2), List.getElem?_eq_getElem (by omega)⟩
    · obtain ⟨v, rfl, hl, hE, sv⟩ := h
      exact ⟨us, sv.seq (sqL_new hd2), by omega⟩
    · rintro m τ ys H1 x H2 hm ⟨v, rfl, hl, hE, sv⟩ ⟨rfl, e1⟩
      obtain ⟨r, lr, er, rfl, hr⟩ := (hB2.same sv).get (e1 _ (sv.seq (sqL_new hd2)))
      refine ⟨_, rfl, lr, _, _, _, rfl, rfl, sqL_new hr, at_word r, rfl, _, rfl, ite2 (fun y => ?_) (fun y => ?_)⟩
      · have ey := eqS y
        obtain ⟨xx, exx⟩ := cell1 (r := r) (.inl (by rw [ey]))
        exact ⟨_, rfl, lr, _, _, _, rfl, rfl, sqL_new hr, exx, hE, _, rfl, by rw [List.length_append]; exact Nat.succ_le_succ hl, upd_same, fun b o e => by rw [upd_ne (ne_of_none e hD)]; exact sv _ _ e⟩
      · exact ⟨_, rfl, by omega, hE, sv⟩
    rintro τ ys3 H1 ⟨v, rfl, hl, hE, sv⟩
    refine ⟨_, rfl, p, C, dx, _, rfl, sv _ _ hp2, T.cl, T.nB, by have := length_putF "works" (.ref lw) fs1; omega, ?_⟩
    have fr3 : FrP p H (upd H1 p (.ins C dx (putF "benches" (.ref D) fs2))) := fun b o e hb => by rw [upd_ne hb]; exact sv _ _ (fr2 b o e hb)
    have hp3 : upd H1 p (.ins C dx (putF "benches" (.ref D) fs2)) p = some (.ins C dx (putF "benches" (.ref D) fs2)) := upd_same
    have lw3 : upd H1 p (.ins C dx (putF "benches" (.ref D) fs2)) lw = some (.lst ((wks B).map V.str)) := by rw [upd_ne nlw]; exact sv _ _ lw2
    obtain ⟨fs3, efs3⟩ : ∃ fs, fs = putF "benches" (.ref D) fs2 := ⟨_, rfl⟩
    have lf3 : fs3.length ≤ 3 := by rw [efs3]; have := length_putF "benches" (.ref D) fs2; omega
    rw [← efs3] at fr3 hp3 lw3 ⊢
    generalize upd H1 p (.ins C dx fs3) = H3 at fr3 hp3 lw3 ⊢
    have hd3 := fr3 _ _ hd nd
    have hB3 := hB.frP fr3 hp
    refine ⟨_, rfl, d, rfl, ⟨_, sqL_new hd3⟩, fun D hD => ?_⟩
    refine lc_any (n := B.length) (fun m τ ys H1 => ∃ v : Option V, τ = [v] ∧ ys.length ≤ m ∧ H1 D = some (.lst ys) ∧ Same H3 H1) ?_ (fun m τ ys H1 hm h => ?_) (fun m τ ys H1 hm h => ?_) (fun τ ys H1 h => ?_) ?_ ?_
    · exact ⟨none, rfl, Nat.le_refl _, upd_same, same_new' hD _⟩
    · obtain ⟨v, rfl, hl, hE, sv⟩ := h
      exact ⟨hE, by omega⟩
    · obtain ⟨v, rfl, hl, hE, sv⟩ := h
      exact ⟨us, us[m]'(by omega), sv.seq (sqL_new hd3), List.getElem?_eq_getElem (by omega)⟩
    · obtain ⟨v, rfl, hl, hE, sv⟩ := h
      exact ⟨us, sv.seq (sqL_new hd3), by omega⟩
    · rintro m τ ys H1 x H2 hm ⟨v, rfl, hl, hE, sv⟩ ⟨rfl, e1⟩
      obtain ⟨r, lr, er, rfl, hr⟩ := (hB3.same sv).get (e1 _ (sv.seq (sqL_new hd3)))
      refine ⟨_, rfl, lr, _, _, _, rfl, rfl, sqL_new hr, at_word r, rfl, _, rfl, ite2 (fun y => ?_) (fun y => ?_)⟩
      · have ey := eqS y
        refine ⟨_, rfl, _, rfl, lr, _, rfl, sqL_new hr, fun p1 hp1 => ⟨p1, _, rfl, .inl ⟨sqL_new upd_same, fun t1 ht1 => ?_⟩⟩⟩
        have sx := (same_new' hp1 (.lst (cutV (r.cells.map kV) (some 1) none))).trans (same_new' ht1 (.tup (cutV (r.cells.map kV) (some 1) none)))
        exact ⟨sx _ _ hE, _, rfl, by rw [List.length_append]; exact Nat.succ_le_succ hl, upd_same, fun b o e => by rw [upd_ne (ne_of_none e hD)]; exact sx _ _ (sv _ _ e)⟩
      · exact ⟨_, rfl, by omega, hE, sv⟩
    rintro τ ys4 H1 ⟨v, rfl, hl, hE, sv⟩
    refine ⟨_, rfl, p, C, dx, _, rfl, sv _ _ hp3, T.cl, T.nH, by have := length_putF "benches" (.ref lw) fs2; omega, ?_⟩
    have fr4 : FrP p H (upd H1 p (.ins C dx (putF "shuts" (.ref D) fs3))) := fun b o e hb => by rw [upd_ne hb]; exact sv _ _ (fr3 b o e hb)
    have hp4 : upd H1 p (.ins C dx (putF "shuts" (.ref D) fs3)) p = some (.ins C dx (putF "shuts" (.ref D) fs3)) := upd_same
    have lw4 : upd H1 p (.ins C dx (putF "shuts" (.ref D) fs3)) lw = some (.lst ((wks B).map V.str)) := by rw [upd_ne nlw]; exact sv _ _ lw3
    obtain ⟨fs4, efs4⟩ : ∃ fs, fs = putF "shuts" (.ref D) fs3 := ⟨_, rfl⟩
    have lf4 : fs4.length ≤ 4 := by rw [efs4]; have := length_putF "shuts" (.ref D) fs3; omega
    rw [← efs4] at fr4 hp4 lw4 ⊢
    generalize upd H1 p (.ins C dx fs4) = H4 at fr4 hp4 lw4 ⊢
    have hd4 := fr4 _ _ hd nd
    have hB4 := hB.frP fr4 hp
    refine ⟨_, rfl, d, rfl, ⟨_, sqL_new hd4⟩, fun D hD => ?_⟩
    refine lc_any (n := B.length) (fun m τ ys H1 => ∃ v : Option V, τ = [v] ∧ ys.length ≤ m ∧ H1 D = some (.lst ys) ∧ Same H4 H1) ?_ (fun m τ ys H1 hm h => ?_) (fun m τ ys H1 hm h => ?_) (fun τ ys H1 h => ?_) ?_ ?_
    · exact ⟨none, rfl, Nat.le_refl _, upd_same, same_new' hD _⟩
    · obtain ⟨v, rfl, hl, hE, sv⟩ := h
      exact ⟨hE, by omega⟩
    · obtain ⟨v, rfl, hl, hE, sv⟩ := h
      exact ⟨us, us[m]'(by omega), sv.seq (sqL_new hd4), List.getElem?_eq_getElem (by omega)⟩
    · obtain ⟨v, rfl, hl, hE, sv⟩ := h
      exact ⟨us, sv.seq (sqL_new hd4), by omega⟩
    · rintro m τ ys H1 x H2 hm ⟨v, rfl, hl, hE, sv⟩ ⟨rfl, e1⟩
      obtain ⟨r, lr, er, rfl, hr⟩ := (hB4.same sv).get (e1 _ (sv.seq (sqL_new hd4)))
      refine ⟨_, rfl, lr, _, _, _, rfl, rfl, sqL_new hr, at_word r, rfl, _, rfl, ite2 (fun y => ?_) (fun y => ?_)⟩
      · have ey := eqS y
        refine ⟨_, rfl, _, rfl, lr, _, rfl, sqL_new hr, fun p1 hp1 => ⟨p1, _, rfl, .inl ⟨sqL_new upd_same, fun t1 ht1 => ?_⟩⟩⟩
        have sx := (same_new' hp1 (.lst (cutV (r.cells.map kV) (some 1) none))).trans (same_new' ht1 (.tup (cutV (r.cells.map kV) (some 1) none)))
        exact ⟨sx _ _ hE, _, rfl, by rw [List.length_append]; exact Nat.succ_le_succ hl, upd_same, fun b o e => by rw [upd_ne (ne_of_none e hD)]; exact sx _ _ (sv _ _ e)⟩
      · exact ⟨_, rfl, by omega, hE, sv⟩
    rintro τ ys5 H1 ⟨v, rfl, hl, hE, sv⟩
    refine ⟨_, rfl, p, C, dx, _, rfl, sv _ _ hp4, T.cl, T.nS, by have := length_putF "shuts" (.ref lw) fs3; omega, ?_⟩
    have fr5 : FrP p H (upd H1 p (.ins C dx (putF "stores" (.ref D) fs4))) := fun b o e hb => by rw [upd_ne hb]; exact sv _ _ (fr4 b o e hb)
    have hp5 : upd H1 p (.ins C dx (putF "stores" (.ref D) fs4)) p = some (.ins C dx (putF "stores" (.ref D) fs4)) := upd_same
    have lw5 : upd H1 p (.ins C dx (putF "stores" (.ref D) fs4)) lw = some (.lst ((wks B).map V.str)) := by rw [upd_ne nlw]; exact sv _ _ lw4
    obtain ⟨fs5, efs5⟩ : ∃ fs, fs = putF "stores" (.ref D) fs4 := ⟨_, rfl⟩
    have lf5 : fs5.length ≤ 5 := by rw [efs5]; have := length_putF "stores" (.ref D) fs4; omega
    rw [← efs5] at fr5 hp5 lw5 ⊢
    generalize upd H1 p (.ins C dx fs5) = H5 at fr5 hp5 lw5 ⊢
    have hd5 := fr5 _ _ hd nd
    have hB5 := hB.frP fr5 hp
    refine ⟨_, rfl, d, rfl, ⟨_, sqL_new hd5⟩, fun D hD => ?_⟩
    refine lc_any (n := B.length) (fun m τ ys H1 => ∃ v : Option V, τ = [v] ∧ ys.length ≤ m ∧ H1 D = some (.lst ys) ∧ Same H5 H1) ?_ (fun m τ ys H1 hm h => ?_) (fun m τ ys H1 hm h => ?_) (fun τ ys H1 h => ?_) ?_ ?_
    · exact ⟨none, rfl, Nat.le_refl _, upd_same, same_new' hD _⟩
    · obtain ⟨v, rfl, hl, hE, sv⟩ := h
      exact ⟨hE, by omega⟩
    · obtain ⟨v, rfl, hl, hE, sv⟩ := h
      exact ⟨us, us[m]'(by omega), sv.seq (sqL_new hd5), List.getElem?_eq_getElem (by omega)⟩
    · obtain ⟨v, rfl, hl, hE, sv⟩ := h
      exact ⟨us, sv.seq (sqL_new hd5), by omega⟩
    · rintro m τ ys H1 x H2 hm ⟨v, rfl, hl, hE, sv⟩ ⟨rfl, e1⟩
      obtain ⟨r, lr, er, rfl, hr⟩ := (hB5.same sv).get (e1 _ (sv.seq (sqL_new hd5)))
      refine ⟨_, rfl, lr, _, _, _, rfl, rfl, sqL_new hr, at_word r, rfl, _, rfl, ite2 (fun y => ?_) (fun y => ?_)⟩
      · have ey := eqS y
        refine ⟨_, rfl, _, rfl, lr, _, rfl, sqL_new hr, fun p1 hp1 => ⟨p1, _, rfl, .inl ⟨sqL_new upd_same, fun t1 ht1 => ?_⟩⟩⟩
        have sx := (same_new' hp1 (.lst (cutV (r.cells.map kV) (some 1) none))).trans (same_new' ht1 (.tup (cutV (r.cells.map kV) (some 1) none)))
        exact ⟨sx _ _ hE, _, rfl, by rw [List.length_append]; exact Nat.succ_le_succ hl, upd_same, fun b o e => by rw [upd_ne (ne_of_none e hD)]; exact sx _ _ (sv _ _ e)⟩
      · exact ⟨_, rfl, by omega, hE, sv⟩
    rintro τ ys6 H1 ⟨v, rfl, hl, hE, sv⟩
    refine ⟨_, rfl, p, C, dx, _, rfl, sv _ _ hp5, T.cl, T.nA, by have := length_putF "stores" (.ref lw) fs4; omega, ?_⟩
    have fr6 : FrP p H (upd H1 p (.ins C dx (putF "afters" (.ref D) fs5))) := fun b o e hb => by rw [upd_ne hb]; exact sv _ _ (fr5 b o e hb)
    have hp6 : upd H1 p (.ins C dx (putF "afters" (.ref D) fs5)) p = some (.ins C dx (putF "afters" (.ref D) fs5)) := upd_same
    have lw6 : upd H1 p (.ins C dx (putF "afters" (.ref D) fs5)) lw = some (.lst ((wks B).map V.str)) := by rw [upd_ne nlw]; exact sv _ _ lw5
    obtain ⟨fs6, efs6⟩ : ∃ fs, fs = putF "afters" (.ref D) fs5 := ⟨_, rfl⟩
    have lf6 : fs6.length ≤ 6 := by rw [efs6]; have := length_putF "afters" (.ref D) fs5; omega
    rw [← efs6] at fr6 hp6 lw6 ⊢
    generalize upd H1 p (.ins C dx fs6) = H6 at fr6 hp6 lw6 ⊢
    have hd6 := fr6 _ _ hd nd
    have hB6 := hB.frP fr6 hp
    refine ⟨_, rfl, d, rfl, ⟨_, sqL_new hd6⟩, fun D hD => ?_⟩
    refine lc_any (n := B.length) (fun m τ ys H1 => ∃ (v : Option V) (ps : List (List Key × V)), τ = [v] ∧ PairsT K H1 ys ps ∧ SaidPs K H1 ps (B.take m) ∧ ys.length ≤ m ∧ H1 D = some (.lst ys) ∧ Same H6 H1) ?_ (fun m τ ys H1 hm h => ?_) (fun m τ ys H1 hm h => ?_) (fun τ ys H1 h => ?_) ?_ ?_
    · exact ⟨none, [], rfl, .nil, .nil, Nat.le_refl _, upd_same, same_new' hD _⟩
    · obtain ⟨v, ps, rfl, hq, hs, hl, hE, sv⟩ := h
      exact ⟨hE, by omega⟩
    · obtain ⟨v, ps, rfl, hq, hs, hl, hE, sv⟩ := h
      exact ⟨us, us[m]'(by omega), sv.seq (sqL_new hd6), List.getElem?_eq_getElem (by omega)⟩
    · obtain ⟨v, ps, rfl, hq, hs, hl, hE, sv⟩ := h
      exact ⟨us, sv.seq (sqL_new hd6), by omega⟩
    · rintro m τ ys H1 x H2 hm ⟨v, ps, rfl, hq, hs, hl, hE, sv⟩ ⟨rfl, e1⟩
      obtain ⟨r, lr, er, rfl, hr⟩ := (hB6.same sv).get (e1 _ (sv.seq (sqL_new hd6)))
      refine ⟨_, rfl, lr, r, rfl, hr, fun b1 H3 s3 fb1 hb1 => ?_⟩
      refine ⟨_, rfl, _, rfl, lr, r, rfl, s3 _ _ hr, fun b2 H4 s4 fb2 hb2 => ?_⟩
      refine ⟨b2, _, rfl, .inr (sqT_new hb2), _, rfl, lr, _, rfl, sqL_new (s4 _ _ (s3 _ _ hr)), fun p5 hp5 => ?_⟩
      rw [cut_nums]
      have s5 := same_new' hp5 (.lst (r.nums.map V.int))
      refine ⟨p5, _, rfl, .inl ⟨sqL_new upd_same, fun t6 ht6 => ?_⟩⟩
      have s6 := same_new' ht6 (.tup (r.nums.map V.int))
      have s46 := (s4.trans s5).trans s6
      have ht66 : upd (upd H4 p5 (.lst (r.nums.map V.int))) t6 (.tup (r.nums.map V.int)) t6 = some (.tup (r.nums.map V.int)) := upd_same
      generalize upd (upd H4 p5 (.lst (r.nums.map V.int))) t6 (.tup (r.nums.map V.int)) = Hx at s46 ht66 ⊢
      refine ⟨by show 2 ≤ sizeLine; decide, fun t7 ht7 => ?_⟩
      have s7 := same_new' ht7 (.tup [.ref b1, .ref t6])
      have s37 := s3.trans (s46.trans s7)
      have hE7 := s37 _ _ hE
      have ht77 : upd Hx t7 (.tup [.ref b1, .ref t6]) t7 = some (.tup [.ref b1, .ref t6]) := upd_same
      have hb17 := (s46.trans s7) _ _ hb1
      have ht67 := s7 _ _ ht66
      generalize upd Hx t7 (.tup [.ref b1, .ref t6]) = Hy at s37 hE7 ht77 hb17 ht67 ⊢
      have cT : ∀ {a : Addr} {xs : List V}, SqT K H2 a xs → SqT K (upd Hy D (.lst (ys ++ [.ref t7]))) a xs := fun z => SqT_upd hE7 (s37.tup z)
      refine ⟨hE7, _, ps ++ [(r.key, .ref t6)], rfl, ?_, ?_, by rw [List.length_append]; exact Nat.succ_le_succ hl, upd_same, fun b o e => ?_⟩
      · refine Paired.snoc (Paired.mapP hq fun _ _ ⟨t, b, e, h1, h2⟩ => ⟨t, b, e, cT h1, ?_⟩) ⟨t7, b1, rfl, SqT_upd hE7 (sqT_new ht77), ?_⟩
        · rw [upd_ne (ne_of (s37 _ _ h2) hE7 (by intro z; cases z))]; exact s37 _ _ h2
        · rw [upd_ne (ne_of hb17 hE7 (by intro z; cases z))]; exact hb17
      · rw [takeS er]
        exact Paired.snoc (Paired.mapP hs fun _ _ ⟨e, t, e2, z⟩ => ⟨e, t, e2, cT z⟩) ⟨rfl, t6, rfl, SqT_upd hE7 (sqT_new ht67)⟩
      · rw [upd_ne (ne_of_none e hD)]; exact s37 _ _ (sv _ _ e)
    rintro τ ys H1 ⟨v, ps, rfl, hq, hs, hl, hE, sv⟩
    rw [List.take_length] at hs
    have lps := Paired.length hs
    refine ⟨D, ys, ps, rfl, sqL_new hE, hq, by omega, fun ds hds => ?_⟩
    have s8 := same_new' hds (.dT (dictOfT ps))
    have sv8 := sv.trans s8
    have hds8 : upd H1 ds (.dT (dictOfT ps)) ds = some (.dT (dictOfT ps)) := upd_same
    have hsd : SaidOk K (upd H1 ds (.dT (dictOfT ps))) (dictOfT ps) B := said_ok (Paired.mapP hs fun _ _ ⟨e, t, e2, z⟩ => ⟨e, t, e2, s8.tup z⟩) bk.wb
    generalize upd H1 ds (.dT (dictOfT ps)) = H8 at s8 sv8 hds8 hsd ⊢
    have hp8 := sv8 _ _ hp6
    have nds : ds ≠ p := ne_of hds8 hp8 (by intro z; cases z)
    refine ⟨_, rfl, p, C, dx, _, rfl, hp8, T.cl, T.nI, by omega, ?_⟩
    refine q _ ⟨dx, lw, ds, _, _, upd_same, ?_, ?_, ?_, ?_, by rw [upd_ne nlw]; exact sv8 _ _ lw6, by rw [upd_ne nds]; exact hds8, fun r hr hsh => ?_, hsd.2⟩ fun b o e hb => by rw [upd_ne hb]; exact sv8 _ _ (fr6 b o e hb)
    · rw [lookup_putF, if_neg (by decide +kernel), efs6, lookup_putF, if_neg (by decide +kernel), efs5, lookup_putF, if_neg (by decide +kernel), efs4, lookup_putF, if_neg (by decide +kernel), efs3, lookup_putF, if_neg (by decide +kernel), efs2, lookup_putF, if_pos rfl]
    · rw [lookup_putF, if_pos rfl]
    · rw [lookup_putF, if_neg (by decide +kernel), efs6, lookup_putF, if_neg (by decide +kernel), efs5, lookup_putF, if_neg (by decide +kernel), efs4, lookup_putF, if_neg (by decide +kernel), efs3, lookup_putF, if_neg (by decide +kernel), efs2, lookup_putF, if_neg (by decide +kernel), efs1, lookup_putF, if_neg (by decide +kernel)]
      rfl
    · rw [lookup_putF, if_neg (by decide +kernel), efs6, lookup_putF, if_neg (by decide +kernel), efs5, lookup_putF, if_neg (by decide +kernel), efs4, lookup_putF, if_neg (by decide +kernel), efs3, lookup_putF, if_neg (by decide +kernel), efs2, lookup_putF, if_neg (by decide +kernel), efs1, lookup_putF, if_neg (by decide +kernel)]
      rfl
    · obtain ⟨t, e1, e2⟩ := hsd.1 r hr hsh
      exact ⟨t, e1, sqT_updI hp8 e2⟩
end
end Nb
namespace Nb
open PySem L2
noncomputable abbrev sTaken : Stmt := top 7
noncomputable abbrev sCostP : Stmt := top 8
noncomputable def lateR (w : Str) : BR → Option (Int × Int)
  | .late w' d k => if w' = w then some (d, k) else none
  | _ => none
noncomputable def lateB (B : List BR) (w : Str) : Int × Int := (B.filterMap (lateR w)).headD (0, 0)
theorem lateR_some {w : Str} {r : BR} {x : Int × Int} : lateR w r = some x ↔ r = .late w x.1 x.2 := by
  constructor
  · intro h
    cases r with
    | late w' d k =>
      have h' : (if w' = w then some (d, k) else none) = some x := h
      by_cases e : w' = w
      · rw [if_pos e] at h'
        cases h'
        rw [e]
      · rw [if_neg e] at h'; cases h'
    | _ => cases h
  · rintro rfl
    exact if_pos rfl
theorem lateB_of {n : Int} {B : List BR} (wb : WB n B) {w : Str} {d k : Int} (h : BR.late w d k ∈ B) : lateB B w = (d, k) := by
  have hx : ∀ x ∈ B.filterMap (lateR w), x = (d, k) := fun x hx => by
    obtain ⟨r, hr, e⟩ := List.mem_filterMap.mp hx
    have e2 := lateR_some.mp e
    subst e2
    have := wb.uniq hr h rfl (by show ¬ (("late" : Str) = "shut"); decide +kernel)
    cases this
    rfl
  have hne : (d, k) ∈ B.filterMap (lateR w) := List.mem_filterMap.mpr ⟨_, h, lateR_some.mpr rfl⟩
  unfold lateB
  cases e : B.filterMap (lateR w) with
  | nil => rw [e] at hne; exact nomatch hne
  | cons a b => exact hx a (by rw [e]; exact List.mem_cons_self)
theorem lateB_no {B : List BR} {w : Str} (h : ∀ d k, BR.late w d k ∉ B) : lateB B w = (0, 0) := by
  unfold lateB
  cases e : B.filterMap (lateR w) with
  | nil => rfl
  | cons a b =>
    have ha : a ∈ B.filterMap (lateR w) := by rw [e]; exact List.mem_cons_self
    obtain ⟨r, hr, e2⟩ := List.mem_filterMap.mp ha
    rw [lateR_some.mp e2] at hr
    exact absurd hr (h _ _)
theorem late_get {K : PySem.W.Frag} {H : Hp} {kvs : List (List Key × V)} {n : Int} {B : List BR} (wb : WB n B) (hs : SaidOk K H kvs B) {w : Str} {t2 : Addr} (h2 : SqT K H t2 [.int 0, .int 0]) : ∃ tl, (valV kvs [Sum.inr ("late" : Str), Sum.inr w]).getD (.ref t2) = .ref tl ∧ SqT K H tl [.int (lateB B w).1, .int (lateB B w).2] := by
  by_cases hl : ∃ d k, BR.late w d k ∈ B
  · obtain ⟨d, k, hl⟩ := hl
    obtain ⟨t, e, hT⟩ := hs.1 _ hl (by show ¬ (("late" : Str) = "shut"); decide +kernel)
    have e' : valV kvs [Sum.inr ("late" : Str), Sum.inr w] = some (.ref t) := e
    rw [e', lateB_of wb hl]
    exact ⟨t, rfl, hT⟩
  · have hno : ∀ d k, BR.late w d k ∉ B := fun d k h => hl ⟨d, k, h⟩
    have e : valV kvs [Sum.inr ("late" : Str), Sum.inr w] = none := hs.2 _ fun r hr z => by
      have hw : r.word = "late" := by
        have z' : ((Sum.inr r.word : Key) :: r.names.map Sum.inr) = [Sum.inr ("late" : Str), Sum.inr w] := z
        injection z' with z1
        exact Sum.inr.inj z1
      obtain ⟨w', d, k, rfl⟩ := word_late hw
      have z' : [(Sum.inr ("late" : Str) : Key), Sum.inr w'] = [Sum.inr ("late" : Str), Sum.inr w] := z
      injection z' with _ z2
      injection z2 with z3
      cases z3
      exact hno _ _ hr
    rw [e, lateB_no hno]
    exact ⟨t2, rfl, h2⟩
theorem way_key {K : PySem.W.Frag} {H : Hp} {kvs : List (List Key × V)} {B : List BR} (hs : SaidOk K H kvs B) {w v : Str} {l c : Int} (h : BR.way w v l c ∈ B) {ds t3 : Addr} (hd : H ds = some (.dT kvs)) (h3 : H t3 = some (.tup [.str "way", .str w, .str v])) : ∃ t, DGet H ds (.ref t3) (some (.ref t)) ∧ SqT K H t [.int l, .int c] := by
  obtain ⟨t, e, hT⟩ := hs.1 _ h (by show ¬ (("way" : Str) = "shut"); decide +kernel)
  have hg := DGet.t (k := (BR.way w v l c).key) hd h3
  rw [e] at hg
  exact ⟨t, hg, hT⟩
theorem cut2 (a b c : V) : cutV [a, b, c] none (some 2) = [a, b] := by
  unfold cutV
  rw [HT.sIx_none, show (2 : Int) = ((2 : Nat) : Int) from rfl, HT.sIx_nat]
  rfl
theorem SaidOk.same {K : PySem.W.Frag} {H H' : Hp} {kvs : List (List Key × V)} {B : List BR} (h : SaidOk K H kvs B) (s : Same H H') : SaidOk K H' kvs B := ⟨fun r hr hs => (let ⟨t, a, b⟩ := h.1 r hr hs; ⟨t, a, s.tup b⟩), h.2⟩
noncomputable def priceB (B : List BR) (w : Str) (b l c : Int) : Int := c + (if b + l - (lateB B w).1 > 0 then b + l - (lateB B w).1 else 0) * (lateB B w).2
noncomputable def spFEnd (K : PySem.W.Frag) (C : Addr) : Sp := fun vs H Q _ => ∃ (p ch : Addr) (B : List BR) (w v : Str) (b l c : Int), vs = [.ref p, .ref ch] ∧ FcAt K C H p B ∧ SqT K H ch [.str w, .str v, .int b] ∧ .way w v l c ∈ B ∧ ∀ H', Same H H' → Q (.int (b + l)) H'
noncomputable def spFPrice (K : PySem.W.Frag) (C : Addr) : Sp := fun vs H Q _ => ∃ (p ch : Addr) (n : Int) (B : List BR) (w v : Str) (b l c : Int), vs = [.ref p, .ref ch] ∧ FcAt K C H p B ∧ WB n B ∧ SqT K H ch [.str w, .str v, .int b] ∧ .way w v l c ∈ B ∧ 0 ≤ b ∧ b + l ≤ 100 ∧ 0 ≤ (lateB B w).1 ∧ (lateB B w).1 ≤ 100 ∧ ∀ H', Same H H' → Q (.int (priceB B w b l c)) H'
noncomputable def TakenAre (K : PySem.W.Frag) (H : Hp) (pl : List (Str × Str × Int)) : List V → List Str → Prop := Paired fun v w => ∃ t, v = .ref t ∧ SqT K H t [.str w, .str (look pl w).1, .int (look pl w).2]
noncomputable def spTaken (K : PySem.W.Frag) (C : Addr) : Sp := fun vs H Q _ => ∃ (p P : Addr) (n : Int) (B : List BR) (pl : List (Str × Str × Int)), vs = [.ref p, .ref P] ∧ FcAt K C H p B ∧ BookOk n B ∧ PlanAt K H P pl ∧ PlanFor n B pl ∧ ∀ (D : Addr) (ys : List V) (H' : Hp), Same H H' → H' D = some (.lst ys) → TakenAre K H' pl ys (wks B) → Q (.ref D) H'
noncomputable def workCost (B : List BR) (pl : List (Str × Str × Int)) (w : Str) : Int := priceB B w (look pl w).2 (lenB B w (look pl w).1) (((B.filterMap fun r => match r with | .way w' v' _ c => if w' = w ∧ v' = (look pl w).1 then some c else none | _ => none)).headD 0)
noncomputable def spCostP (K : PySem.W.Frag) : Sp := fun vs H Q _ => ∃ (d P : Addr) (n : Int) (us : List V) (B : List BR) (pl : List (Str × Str × Int)), vs = [.ref d, .ref P] ∧ H d = some (.lst us) ∧ RowsB H us B ∧ BookOk n B ∧ PlanAt K H P pl ∧ PlanFor n B pl ∧ ∀ (H' : Hp), Same H H' → Q (.int ((wks B).map (workCost B pl)).sum) H'
theorem workCost_of {n : Int} {B : List BR} (wb : WB n B) {pl : List (Str × Str × Int)} {w : Str} {l c : Int} (h : BR.way w (look pl w).1 l c ∈ B) : workCost B pl w = priceB B w (look pl w).2 l c := by
  unfold workCost
  rw [lenB_of wb h]
  congr 1
  have hx : ∀ x ∈ (B.filterMap fun r => match r with | .way w' v' _ c => if w' = w ∧ v' = (look pl w).1 then some c else none | _ => none), x = c := fun x hx => by
    obtain ⟨r, hr, e⟩ := List.mem_filterMap.mp hx
    cases r with
    | way w' v' l' c' =>
      have e' : (if w' = w ∧ v' = (look pl w).1 then some c' else none) = some x := e
      by_cases q : w' = w ∧ v' = (look pl w).1
      · rw [if_pos q] at e'
        cases e'
        rw [q.1, q.2] at hr
        exact (wb.way1 hr h).2
      · rw [if_neg q] at e'; cases e'
    | _ => cases e
  have hne : c ∈ (B.filterMap fun r => match r with | .way w' v' _ c => if w' = w ∧ v' = (look pl w).1 then some c else none | _ => none) := List.mem_filterMap.mpr ⟨_, h, if_pos ⟨rfl, rfl⟩⟩
  revert hx hne
  generalize (B.filterMap fun r => match r with | .way w' v' _ c => if w' = w ∧ v' = (look pl w).1 then some c else none | _ => none) = L
  intro hx hne
  cases L with
  | nil => exact nomatch hne
  | cons a b => exact hx a List.mem_cons_self
section
variable {P : Program} {w : World} {K : PySem.W.Frag} {mg : Str → Option Value} {base : Heap}
theorem scFcE : FnScope ["self", "choice"] ["self", "choice"] (defScope sFcEnd) := ⟨rfl, rfl, rfl, by decide +kernel, rfl, by decide +kernel, by decide +kernel⟩
theorem okFcE {f C : Addr} {fd : FuncData} (F : Fun K "end_of" "Facts.end_of" sFcEnd f fd) (T : FcTxt K mg C) : FnOk P w K mg base CX0 1 f fd ["self", "choice"] (spFEnd K C) := by
  refine F.ok scFcE (fun vs H Q E h => ?_) (fun cdv A outer s H vs Q E hr h => ?_)
  · obtain ⟨p, ch, B, w, v, b, l, c, rfl, _⟩ := h
    rfl
  · obtain ⟨p, ch, B, w, v, b, l, c, rfl, ⟨dx, lw, ds, fs, kvs, hp, lkW, lkS, lkE, lkP, hlw, hds, hsd⟩, hch, hway, q⟩ := h
    have hu := hu_of hr
    refine ⟨_, (pss_one (ps_ret (pe_op op_add (pe_ix ix_tup (pv 1) pe_int (fun _ _ => rfl)) (pe_ix ix_tup (pe_dget hu (pe_fld (pv 0) rfl) (pe_op op_catT (pe_tup (pa_cons pe_str pa_nil)) (pe_slice sl_tup (pv 1) po_none (po_some pe_int))) (fun _ _ => rfl)) pe_int (fun _ _ => rfl))))), ?_⟩
    refine ⟨_, rfl, ch, _, _, _, rfl, rfl, hch, (show atI [V.str w, V.str v, V.int b] 2 = some (.int b) from rfl), ?_⟩
    refine ⟨_, rfl, p, C, dx, fs, _, rfl, hp, T.cl, T.nI, lkS, by show 1 ≤ sizeLine; decide, fun t1 ht1 => ?_⟩
    have s1 := same_new' ht1 (.tup [.str "way"])
    refine ⟨_, rfl, _, rfl, ch, _, rfl, s1.tup hch, (by show ¬ (HT.sIx 3 0 none = 0 ∧ HT.sIx 3 3 (some 2) = 3); decide), fun t2 ht2 => ?_⟩
    rw [cut2]
    have s2 := s1.trans (same_new' ht2 (.tup [.str w, .str v]))
    refine ⟨t1, t2, _, _, rfl, rfl, (same_new' ht2 _).tup (sqT_new upd_same), sqT_new upd_same, by simp, by show 3 ≤ sizeLine; decide, fun z => absurd z (by simp), fun _ t3 ht3 => ?_⟩
    have s3 := s2.trans (same_new' ht3 (.tup ([.str "way"] ++ [.str w, .str v])))
    obtain ⟨t, dg, hT⟩ := way_key (hsd.same s3) hway (s3 _ _ hds) upd_same
    exact ⟨ds, _, rfl, dg, t, _, _, _, rfl, rfl, hT, at0, _, _, rfl, rfl, q _ s3⟩
theorem scFcP : FnScope ["self", "choice", "late"] ["self", "choice"] (defScope sFcPrice) := ⟨rfl, rfl, rfl, by decide +kernel, rfl, by decide +kernel, by decide +kernel⟩
theorem okFcP {f fE C : Addr} {fd fdE : FuncData} (F : Fun K "price_of" "Facts.price_of" sFcPrice f fd) (M : Mg mg) (T : FcTxt K mg C) (GE : FnOk P w K mg base CX0 1 fE fdE ["self", "choice"] (spFEnd K C)) (bE : Binds K fdE ["self", "choice"] []) (mE : Meth K C "end_of" fE) : FnOk P w K mg base CX0 2 f fd ["self", "choice"] (spFPrice K C) := by
  refine F.ok scFcP (fun vs H Q E h => ?_) (fun cdv A outer s H vs Q E hr h => ?_)
  · obtain ⟨p, ch, n, B, w, v, b, l, c, rfl, _⟩ := h
    rfl
  · obtain ⟨p, ch, n, B, w, v, b, l, c, rfl, hF, wb, hch, hway, b0, bl, d0, d1, q⟩ := h
    obtain ⟨dx, lw, ds, fs, kvs, hp, lkW, lkS, lkE, lkP, hlw, hds, hsd⟩ := id hF
    have hu := hu_of hr
    have hr1 : Room 1 _ := hr.mono (by decide)
    refine ⟨_, (pss_cons (ps_set (i := 2) scFcP.nd rfl (Or.inl rfl) (pe_dget2 hu (pe_fld (pv 0) rfl) (pe_tup (pa_cons pe_str (pa_cons (pe_ix ix_tup (pv 1) pe_int (fun _ _ => rfl)) pa_nil))) (pe_tup (pa_cons pe_int (pa_cons pe_int pa_nil))) ⟨rfl, rfl, rfl, rfl⟩))
      (pss_one (ps_ret (pe_op op_add (pe_ix ix_tup (pe_dget hu (pe_fld (pv 0) rfl) (pe_op op_catT (pe_tup (pa_cons pe_str pa_nil)) (pe_slice sl_tup (pv 1) po_none (po_some pe_int))) (fun _ _ => rfl)) pe_int (fun _ _ => rfl)) (pe_op op_mul (pe_callB (call_max2 rfl) rfl M.max bt_max (pa_cons pe_int (pa_cons (pe_op op_sub (pe_meth (pv 0) T.cl mE GE hr1 bE .nil pass0 (pa_cons (pv 1) pa_nil)) (pe_ix ix_tup (pv 2) pe_int (fun _ _ => rfl))) pa_nil))) (pe_ix ix_tup (pv 2) pe_int (fun _ _ => rfl))))))), ?_⟩
    refine ⟨_, rfl, p, C, dx, fs, _, rfl, hp, T.cl, T.nI, lkS, ds, rfl, .inr ⟨kvs, .inl hds⟩, _, rfl, ch, _, _, _, rfl, rfl, hch, (show atI [V.str w, V.str v, V.int b] 0 = some (.str w) from rfl), by show 2 ≤ sizeLine; decide, fun t1 ht1 => ?_⟩
    have s1 := same_new' ht1 (.tup [.str "late", .str w])
    refine ⟨by show 2 ≤ sizeLine; decide, fun t2 ht2 => ?_⟩
    have s12 := same_new' ht2 (.tup [.int 0, .int 0])
    have s2 := s1.trans s12
    have ht22 : upd (upd H t1 (.tup [.str "late", .str w])) t2 (.tup [.int 0, .int 0]) t2 = some (.tup [.int 0, .int 0]) := upd_same
    have ht12 := s12 _ _ (upd_same (H := H) (a := t1) (o := .tup [.str "late", .str w]))
    generalize upd (upd H t1 (.tup [.str "late", .str w])) t2 (.tup [.int 0, .int 0]) = H2 at s2 ht22 ht12 ⊢
    clear s12
    obtain ⟨tl, etl, hTl⟩ := late_get (w := w) wb (hsd.same s2) (sqT_new ht22)
    refine ⟨_, DGet.t (k := [Sum.inr ("late" : Str), Sum.inr w]) (s2 _ _ hds) ht12, ?_⟩
    rw [etl]
    refine ⟨_, rfl, p, C, dx, fs, _, rfl, s2 _ _ hp, T.cl, T.nI, lkS, by show 1 ≤ sizeLine; decide, fun t3 ht3 => ?_⟩
    have s3 := same_new' ht3 (.tup [.str "way"])
    refine ⟨_, rfl, _, rfl, ch, _, rfl, (s2.trans s3).tup hch, (by show ¬ (HT.sIx 3 0 none = 0 ∧ HT.sIx 3 3 (some 2) = 3); decide), fun t4 ht4 => ?_⟩
    rw [cut2]
    have s4 := s3.trans (same_new' ht4 (.tup [.str w, .str v]))
    refine ⟨t3, t4, _, _, rfl, rfl, (same_new' ht4 _).tup (sqT_new upd_same), sqT_new upd_same, by simp, by show 3 ≤ sizeLine; decide, fun z => absurd z (by simp), fun _ t5 ht5 => ?_⟩
    have s5 := s4.trans (same_new' ht5 (.tup ([.str "way"] ++ [.str w, .str v])))
    have s25 := s2.trans s5
    obtain ⟨t, dg, hT⟩ := way_key (hsd.same s25) hway (s25 _ _ hds) upd_same
    refine ⟨ds, _, rfl, dg, t, _, _, _, rfl, rfl, hT, at1, ?_⟩
    refine ⟨_, rfl, p, dx, fs, rfl, s25 _ _ hp, lkE, _, rfl, p, ch, B, w, v, b, l, c, rfl, hF.same s25, s25.tup hch, hway, fun H6 s6 => ?_⟩
    have s56 := s5.trans s6
    refine ⟨_, rfl, tl, _, _, _, rfl, rfl, s56.tup hTl, at0, _, _, rfl, rfl, _, _, rfl, _, rfl, tl, _, _, _, rfl, rfl, s56.tup hTl, at1, _, _, rfl, rfl, ?_, _, _, rfl, rfl, q _ (s2.trans s56)⟩
    have hok := Int.le_refl 0
    refine mulC _ _ ?_ ?_
    · show -(2 ^ 64) < (if b + l - (lateB B w).1 > 0 then b + l - (lateB B w).1 else 0)
      split <;> omega
    · show (if b + l - (lateB B w).1 > 0 then b + l - (lateB B w).1 else 0) < 2 ^ 64
      split <;> omega
theorem scTaken : FnScope ["facts", "plan"] ["facts", "plan"] (defScope sTaken) := ⟨rfl, rfl, rfl, by decide +kernel, rfl, by decide +kernel, by decide +kernel⟩
theorem okTaken {C : Addr} (F : Fn K mg "choices_taken" sTaken) (T : FcTxt K mg C) : Cal P w K mg base 1 "choices_taken" ["facts", "plan"] (spTaken K C) := by
  refine cal_of F scTaken (fun _ _ _ _ _ _ => bind2 (fun _ _ => rfl)) (fun vs H Q E h => ?_) (fun f cdv A outer s H vs Q E hr h => ?_)
  · obtain ⟨p, P, n, B, pl, rfl, _⟩ := h
    rfl
  obtain ⟨p, P, n, B, pl, rfl, hF, bk, hP, hpf, q⟩ := h
  obtain ⟨dx, lw, ds, fs, kvs, hp, lkW, lkS, lkE, lkP, hlw, hds, hsd⟩ := id hF
  have hz : (20000 : Nat) < sizeLine := by decide
  have hu : (A.deeper (PyProof.Rows.envOfC "choices_taken" (defScope sTaken) s.heap.objs.size f cdv)).units + 1 < cLine := Nat.lt_of_le_of_lt (Nat.add_le_add_left (by decide) _) hr.un
  have bl := bk.wb.len
  have wl : (wks B).length ≤ B.length := List.length_filterMap_le _ _
  have nd : (pl.map (·.1)).Nodup := by
    rw [hpf.keys]
    exact ((List.reverse_perm _).nodup_iff).mpr (wks_nd bk.wb)
  refine ⟨_, (pss_one (ps_ret (pe_lc ["work", "plan"] [none, some 1] rfl (pi_list (pe_fld (pv 0) rfl)) (fun _ _ _ => (pg_name (i := 0) (show (["work", "plan"] : List Str).Nodup by decide +kernel) rfl (Or.inl rfl) (Or.inr rfl))) (fun _ _ _ => pf_nil) (fun _ _ _ => (pe_op (op_catGK (K := K) rfl) (pe_tup (pa_cons (pv 0) pa_nil)) (pe_dget hu (pv 1) (pv 0) (fun _ _ => rfl))))))), ?_⟩
  refine ⟨_, rfl, p, C, dx, fs, _, rfl, hp, T.cl, T.nW, lkW, lw, rfl, ⟨_, sqL_new hlw⟩, fun D hD => ?_⟩
  refine lc_any (n := (wks B).length) (fun m τ ys H1 => ∃ v : Option V, τ = [v, some (.ref P)] ∧ TakenAre K H1 pl ys ((wks B).take m) ∧ ys.length ≤ m ∧ H1 D = some (.lst ys) ∧ Same H H1) ?_ (fun m τ ys H1 hm h => ?_) (fun m τ ys H1 hm h => ?_) (fun τ ys H1 h => ?_) ?_ ?_
  · exact ⟨none, rfl, .nil, Nat.le_refl _, upd_same, same_new' hD _⟩
  · obtain ⟨v, rfl, hY, hl, hE, s1⟩ := h
    exact ⟨hE, by omega⟩
  · obtain ⟨v, rfl, hY, hl, hE, s1⟩ := h
    exact ⟨_, .str (wks B)[m], s1.seq (sqL_new hlw), by rw [List.getElem?_map, List.getElem?_eq_getElem hm]; rfl⟩
  · obtain ⟨v, rfl, hY, hl, hE, s1⟩ := h
    exact ⟨_, s1.seq (sqL_new hlw), by rw [List.length_map]; exact Nat.le_refl _⟩
  · rintro m τ ys H1 x H2 hm ⟨v, rfl, hY, hl, hE, s1⟩ ⟨rfl, e1⟩
    have ew : (wks B)[m]? = some (wks B)[m] := List.getElem?_eq_getElem hm
    have ex := e1 _ (s1.seq (sqL_new hlw))
    rw [List.getElem?_map, ew] at ex
    cases ex
    generalize (wks B)[m] = wk at ew
    obtain ⟨l, c, hmem, _⟩ := hpf.get bk.wb (wks_mem.mp (List.mem_of_getElem? ew))
    refine ⟨_, rfl, by show 1 ≤ sizeLine; decide, fun t1 ht1 => ?_⟩
    have s2 := same_new' ht1 (.tup [.str wk])
    obtain ⟨t, dg, hT⟩ := plan_get (PlanAt.same hP (s1.trans s2)) nd hmem
    refine ⟨_, rfl, _, rfl, P, _, rfl, dg, t1, t, _, _, rfl, rfl, sqT_new upd_same, hT, by simp, by show 3 ≤ sizeLine; decide, fun p3 H3 s3 hT3 => ?_⟩
    have s23 := s2.trans s3
    have hE3 := s23 _ _ hE
    refine ⟨hE3, _, rfl, ?_, by rw [List.length_append]; exact Nat.succ_le_succ hl, upd_same, fun b o e => ?_⟩
    · rw [takeS ew]
      exact Paired.snoc (Paired.mapP hY fun _ _ ⟨t, e, z⟩ => ⟨t, e, SqT_upd hE3 (s23.tup z)⟩) ⟨p3, rfl, SqT_upd hE3 hT3⟩
    · rw [upd_ne (ne_of_none e hD)]; exact s23 _ _ (s1 _ _ e)
  · rintro τ ys H1 ⟨v, rfl, hY, hl, hE, s1⟩
    rw [List.take_length] at hY
    exact q D ys H1 s1 hE hY
theorem scCostP : FnScope ["book", "plan", "facts"] ["book", "plan"] (defScope sCostP) := ⟨rfl, rfl, rfl, by decide +kernel, rfl, by decide +kernel, by decide +kernel⟩
theorem okCostP {C fI fP : Addr} {fdI fdP : FuncData} (F : Fn K mg "cost_of_plan" sCostP) (M : Mg mg) (T : FcTxt K mg C) (mkI : Mk K C fI) (GI : FnOk P w K mg base CX0 2 fI fdI ["self", "book"] (spFInit K C)) (bI : Binds K fdI ["self", "book"] []) (GP : FnOk P w K mg base CX0 2 fP fdP ["self", "choice"] (spFPrice K C)) (bP : Binds K fdP ["self", "choice"] []) (mP : Meth K C "price_of" fP) (c_choices_taken : Cal P w K mg base 1 "choices_taken" ["facts", "plan"] (spTaken K C)) : Cal P w K mg base 5 "cost_of_plan" ["book", "plan"] (spCostP K) := by
  refine cal_of F scCostP (fun _ _ _ _ _ _ => bind2 (fun _ _ => rfl)) (fun vs H Q E h => ?_) (fun f cdv A outer s H vs Q E hr h => ?_)
  · obtain ⟨d, P, n, us, B, pl, rfl, _⟩ := h
    rfl
  obtain ⟨d, P, n, us, B, pl, rfl, hd, hB, bk, hP, hpf, q⟩ := h
  have hz : (20000 : Nat) < sizeLine := by decide
  have bl := bk.wb.len
  have wl : (wks B).length ≤ B.length := List.length_filterMap_le _ _
  have n12 := bk.n12
  refine ⟨_, (pss_cons (ps_set (i := 2) scCostP.nd rfl (Or.inr rfl) (pe_make mkI GI (hr.mono (by decide)) rfl T.mgC bI .nil pass0 (pa_cons (pv 0) pa_nil)))
    (pss_one (ps_ret (pe_callB (call_sumI rfl) rfl M.sum bt_sum (pa_cons (pe_lc ["choice", "facts"] [none, some 2] rfl (pi_list (pe_fn c_choices_taken (hr.mono (by decide)) (pa_cons (pv 2) (pa_cons (pv 1) pa_nil)))) (fun _ _ _ => (pg_name (i := 0) (show (["choice", "facts"] : List Str).Nodup by decide +kernel) rfl (Or.inl rfl) (Or.inr rfl))) (fun _ _ _ => pf_nil) (fun _ _ _ => (pe_meth (pv 1) T.cl mP GP (hr.mono (by decide)) bP .nil pass0 (pa_cons (pv 0) pa_nil)))) pa_nil))))), ?_⟩
  refine ⟨_, rfl, fun p dx fp fdx ndx => ?_⟩
  dsimp only [tNil]
  have s1 : Same H (upd (upd H dx (.own p)) p (.ins C dx [])) := (same_new' fdx _).trans (same_new' (by rw [upd_ne ndx.symm]; exact fp) _)
  have hp1 : upd (upd H dx (.own p)) p (.ins C dx []) p = some (.ins C dx []) := upd_same
  generalize upd (upd H dx (.own p)) p (.ins C dx []) = H1 at s1 hp1 ⊢
  refine ⟨p, d, dx, n, us, B, rfl, hp1, s1 _ _ hd, hB.same s1, bk, fun H2 hF fr => ⟨rfl, ?_⟩⟩
  have s2 : Same H H2 := fun b o e => fr b o (s1 _ _ e) (ne_of_none e fp)
  refine ⟨_, rfl, _, rfl, p, P, n, B, pl, rfl, hF, bk, PlanAt.same hP s2, hpf, fun D2 ys2 H3 s3 hD2 hT3 => ?_⟩
  have l2 := Paired.length hT3
  refine ⟨D2, rfl, ⟨_, sqL_new hD2⟩, fun D hD => ?_⟩
  refine lc_any (n := (wks B).length) (fun m τ ys H4 => ∃ v : Option V, τ = [v, some (.ref p)] ∧ ys = (((wks B).take m).map (workCost B pl)).map V.int ∧ H4 D = some (.lst ys) ∧ Same H3 H4) ?_ (fun m τ ys H4 hm h => ?_) (fun m τ ys H4 hm h => ?_) (fun τ ys H4 h => ?_) ?_ ?_
  · exact ⟨none, rfl, rfl, upd_same, same_new' hD _⟩
  · obtain ⟨v, rfl, rfl, hE, s4⟩ := h
    exact ⟨hE, by rw [List.length_map, List.length_map, List.length_take]; omega⟩
  · obtain ⟨v, rfl, rfl, hE, s4⟩ := h
    exact ⟨ys2, ys2[m]'(by omega), s4.seq (sqL_new hD2), List.getElem?_eq_getElem (by omega)⟩
  · obtain ⟨v, rfl, rfl, hE, s4⟩ := h
    exact ⟨ys2, s4.seq (sqL_new hD2), by omega⟩
  · rintro m τ ys H4 x H5 hm ⟨v, rfl, rfl, hE, s4⟩ ⟨rfl, e1⟩
    obtain ⟨wk, ewk, t, rfl, hT⟩ := paired_get hT3 (e1 _ (s4.seq (sqL_new hD2)))
    have hwB := wks_mem.mp (List.mem_of_getElem? ewk)
    obtain ⟨l, c, hmem, hway, b0, b1⟩ := hpf.get bk.wb hwB
    obtain ⟨dx', lw, ds, fs, kvs, hp, lkW, lkS, lkE, lkP, _⟩ := hF.same (s3.trans s4)
    have hlate : 0 ≤ (lateB B wk).1 ∧ (lateB B wk).1 ≤ 100 := by
      by_cases hl : ∃ d k, BR.late wk d k ∈ B
      · obtain ⟨d', k', hl⟩ := hl
        have hok := bk.wb.ok _ hl
        have o1 : 0 ≤ d' ∧ d' ≤ n := ⟨hok.1, hok.2.1⟩
        rw [lateB_of bk.wb hl]
        exact ⟨o1.1, by show d' ≤ 100; omega⟩
      · rw [lateB_no fun d' k' h => hl ⟨d', k', h⟩]
        exact ⟨Int.le_refl _, by decide⟩
    refine ⟨_, rfl, p, dx', fs, rfl, hp, lkP, _, rfl, p, t, n, B, wk, _, _, l, c, rfl, hF.same (s3.trans s4), bk.wb, s4.tup hT, hway, b0, by omega, hlate.1, hlate.2, fun H6 s6 => ?_⟩
    refine ⟨s6 _ _ hE, _, rfl, ?_, upd_same, fun b o e => ?_⟩
    · rw [takeS ewk, List.map_append, List.map_append, ← workCost_of bk.wb hway]
      rfl
    · rw [upd_ne (ne_of_none e hD)]; exact s6 _ _ (s4 _ _ e)
  · rintro τ ys H4 ⟨v, rfl, rfl, hE, s4⟩
    rw [List.take_length] at hE
    exact ⟨D, _, rfl, sqL_new hE, q H4 ((s2.trans s3).trans s4)⟩
end
end Nb
namespace Nb
open PySem L2
theorem sum_zeroB {f : BR → Int} : ∀ {B : List BR}, (∀ r ∈ B, f r = 0) → (B.map f).sum = 0
  | [], _ => rfl
  | r :: B, h => by
    rw [List.map_cons, List.sum_cons, h r List.mem_cons_self, sum_zeroB fun q hq => h q (List.mem_cons_of_mem _ hq)]
    rfl
theorem sum_atB {f : BR → Int} : ∀ {B : List BR} {i0 : Nat} {r0 : BR}, B[i0]? = some r0 → (∀ i r, B[i]? = some r → i ≠ i0 → f r = 0) → (B.map f).sum = f r0
  | [], _, _, e, _ => nomatch e
  | r :: B, 0, r0, e, h => by
    cases e
    rw [List.map_cons, List.sum_cons, sum_zeroB fun q hq => ?_]
    · omega
    · obtain ⟨j, ej⟩ := List.mem_iff_getElem?.mp hq
      exact h (j + 1) q ej (by omega)
  | r :: B, i + 1, r0, e, h => by
    rw [List.map_cons, List.sum_cons, h 0 r rfl (by omega), sum_atB (show B[i]? = some r0 from e) fun j q ej hj => h (j + 1) q ej (by omega)]
    omega
theorem sum_oneS {a : Str} {x : Int} : ∀ {l : List Str}, l.Nodup → a ∈ l → (l.map fun w => if a = w then x else 0).sum = x
  | [], _, h => nomatch h
  | b :: l, nd, h => by
    obtain ⟨n1, n2⟩ := List.nodup_cons.mp nd
    rw [List.map_cons, List.sum_cons]
    by_cases e : a = b
    · subst e
      rw [if_pos rfl]
      have hz : (l.map fun w => if a = w then x else 0).sum = 0 := by
        clear nd n2 h
        induction l with
        | nil => rfl
        | cons c l ih =>
          rw [List.map_cons, List.sum_cons, if_neg (fun e => n1 (by rw [e]; exact List.mem_cons_self)), ih fun hm => n1 (List.mem_cons_of_mem _ hm)]
          rfl
      rw [hz]
      omega
    · rw [if_neg e, sum_oneS n2 ((List.mem_cons.mp h).resolve_left e)]
      omega
theorem sum_add (l : List Str) (g h : Str → Int) : (l.map fun w => g w + h w).sum = (l.map g).sum + (l.map h).sum := by
  induction l with
  | nil => rfl
  | cons a l ih =>
    rw [List.map_cons, List.sum_cons, ih, List.map_cons, List.sum_cons, List.map_cons, List.sum_cons]
    omega
theorem sum_swap (l : List Str) (g : Str → BR → Int) : ∀ B : List BR, (B.map fun r => (l.map fun w => g w r).sum).sum = (l.map fun w => (B.map fun r => g w r).sum).sum
  | [] => by
    show (0 : Int) = (l.map fun _ => (0 : Int)).sum
    induction l with
    | nil => rfl
    | cons a l ih => rw [List.map_cons, List.sum_cons, ← ih]; rfl
  | r :: B => by
    rw [List.map_cons, List.sum_cons, sum_swap l g B, ← sum_add]
    congr 1
noncomputable def costAt (B : List BR) (pl : List (Str × Str × Int)) (w : Str) (r : BR) : Int := match r with
  | .way w' v l c => if w' = w then rowCost B pl (.way w' v l c) else 0
  | .late w' d k => if w' = w then rowCost B pl (.late w' d k) else 0
  | _ => 0
noncomputable def wayAt (pl : List (Str × Str × Int)) (w : Str) (r : BR) : Int := match r with
  | .way w' v _ c => if w' = w ∧ (look pl w).1 = v then c else 0
  | _ => 0
noncomputable def lateAt (B : List BR) (pl : List (Str × Str × Int)) (w : Str) (r : BR) : Int := match r with
  | .late w' d k => if w' = w then (if d < (look pl w).2 + lenB B w (look pl w).1 then ((look pl w).2 + lenB B w (look pl w).1 - d) * k else 0) else 0
  | _ => 0
theorem costAt_eq (B : List BR) (pl : List (Str × Str × Int)) (w : Str) (r : BR) : costAt B pl w r = wayAt pl w r + lateAt B pl w r := by
  cases r with
  | way w' v l c =>
    show (if w' = w then (if (look pl w').1 = v then c else 0) else 0) = (if w' = w ∧ (look pl w).1 = v then c else 0) + 0
    by_cases e : w' = w
    · subst e
      rw [if_pos rfl, Int.add_zero]
      by_cases e2 : (look pl w').1 = v
      · rw [if_pos e2, if_pos ⟨rfl, e2⟩]
      · rw [if_neg e2, if_neg (fun h => e2 h.2)]
    · rw [if_neg e, if_neg (fun h => e h.1)]
      rfl
  | late w' d k =>
    show (if w' = w then (if d < (look pl w').2 + lenB B w' (look pl w').1 then ((look pl w').2 + lenB B w' (look pl w').1 - d) * k else 0) else 0) = 0 + (if w' = w then (if d < (look pl w).2 + lenB B w (look pl w).1 then ((look pl w).2 + lenB B w (look pl w).1 - d) * k else 0) else 0)
    rw [Int.zero_add]
    by_cases e : w' = w
    · subst e
      rfl
    · rw [if_neg e, if_neg e]
  | _ => rfl
theorem sumB_add (B : List BR) (g h : BR → Int) : (B.map fun w => g w + h w).sum = (B.map g).sum + (B.map h).sum := by
  induction B with
  | nil => rfl
  | cons a l ih =>
    rw [List.map_cons, List.sum_cons, ih, List.map_cons, List.sum_cons, List.map_cons, List.sum_cons]
    omega
theorem WB.idx {n : Int} {B : List BR} (h : WB n B) {i j : Nat} {r q : BR} (hr : B[i]? = some r) (hq : B[j]? = some q) (hk : r.key = q.key) (hs : r.word ≠ "shut") (hs' : q.word ≠ "shut") : i = j := by
  rcases Nat.lt_trichotomy i j with c | c | c
  · rcases pw_at h.nd c hr hq with z | z | z
    · exact absurd z hs
    · exact absurd z hs'
    · exact absurd hk z
  · exact c
  · rcases pw_at h.nd c hq hr with z | z | z
    · exact absurd z hs'
    · exact absurd z hs
    · exact absurd hk.symm z
theorem cost_eq {n : Int} {B : List BR} {pl : List (Str × Str × Int)} (bk : BookOk n B) (hpf : PlanFor n B pl) : ((wks B).map (workCost B pl)).sum = costL B pl := by
  have nw := wks_nd bk.wb
  have wsh : ¬ (("way" : Str) = "shut") := by decide +kernel
  have lsh : ¬ (("late" : Str) = "shut") := by decide +kernel
  have h1 : costL B pl = (B.map fun r => ((wks B).map fun w => costAt B pl w r).sum).sum := by
    unfold costL
    congr 1
    refine List.map_congr_left fun r hr => ?_
    cases r with
    | way w' v l c => exact (sum_oneS nw (wks_mem.mpr (bk.wb.ref _ hr w' List.mem_cons_self))).symm
    | late w' d k => exact (sum_oneS nw (wks_mem.mpr (bk.wb.ref _ hr w' List.mem_cons_self))).symm
    | _ =>
      show (0 : Int) = ((wks B).map fun _ => (0 : Int)).sum
      generalize wks B = l
      induction l with
      | nil => rfl
      | cons a l ih => rw [List.map_cons, List.sum_cons, ← ih]; rfl
  rw [h1, sum_swap]
  congr 1
  refine List.map_congr_left fun w hw => ?_
  obtain ⟨l, c, _, hway, b0, b1⟩ := hpf.get bk.wb (wks_mem.mp hw)
  rw [workCost_of bk.wb hway, show (B.map fun r => costAt B pl w r) = B.map fun r => wayAt pl w r + lateAt B pl w r from List.map_congr_left fun r _ => costAt_eq B pl w r, sumB_add]
  obtain ⟨i0, e0⟩ := List.mem_iff_getElem?.mp hway
  have hA : (B.map (wayAt pl w)).sum = c := by
    rw [sum_atB e0 fun i r ei hi => ?_]
    · exact if_pos ⟨rfl, rfl⟩
    · cases r with
      | way w' v' l' c' =>
        refine if_neg fun h => hi ?_
        obtain ⟨e1, e2⟩ := h
        subst e1
        exact bk.wb.idx ei e0 (by show [(Sum.inr ("way" : Str) : Key), Sum.inr w', Sum.inr v'] = [Sum.inr ("way" : Str), Sum.inr w', Sum.inr (look pl w').1]; rw [e2]) wsh wsh
      | _ => rfl
  have hL : (B.map (lateAt B pl w)).sum = (if (look pl w).2 + l - (lateB B w).1 > 0 then (look pl w).2 + l - (lateB B w).1 else 0) * (lateB B w).2 := by
    by_cases hl : ∃ d k, BR.late w d k ∈ B
    · obtain ⟨d, k, hl⟩ := hl
      obtain ⟨i1, e1⟩ := List.mem_iff_getElem?.mp hl
      rw [sum_atB e1 fun i r ei hi => ?_, lateB_of bk.wb hl]
      · show (if w = w then (if d < (look pl w).2 + lenB B w (look pl w).1 then ((look pl w).2 + lenB B w (look pl w).1 - d) * k else 0) else 0) = (if (look pl w).2 + l - d > 0 then (look pl w).2 + l - d else 0) * k
        rw [if_pos rfl, lenB_of bk.wb hway]
        by_cases c : d < (look pl w).2 + l
        · rw [if_pos c, if_pos (by omega)]
        · rw [if_neg c, if_neg (by omega), Int.zero_mul]
      · cases r with
        | late w' d' k' =>
          refine if_neg fun h => hi ?_
          subst h
          exact bk.wb.idx ei e1 rfl lsh lsh
        | _ => rfl
    · rw [lateB_no fun d k h => hl ⟨d, k, h⟩, Int.mul_zero]
      refine sum_zeroB fun r hr => ?_
      cases r with
      | late w' d' k' => exact if_neg fun h => hl ⟨d', k', by rw [← h]; exact hr⟩
      | _ => rfl
  rw [hA, hL]
  rfl
end Nb
namespace Nb
open PySem L2
noncomputable abbrev sLaw : Stmt := top 26
theorem findBy_cons (e : DictEntry) (l : List DictEntry) (x : Str) (t : Tok) (h : e.key = .str x t) (s : Str) : PySem.findBy PySem.Value.isStrOf ⟨e :: l⟩ s = if s = x then some e.val else PySem.findBy PySem.Value.isStrOf ⟨l⟩ s := by
  unfold PySem.findBy
  rw [List.find?_toArray, List.find?_toArray, List.find?_cons]
  by_cases hs : s = x
  · subst hs
    rw [if_pos rfl, h]
    have : PySem.Value.isStrOf s (.str s t) = true := by simp [PySem.Value.isStrOf]
    rw [this]
    rfl
  · rw [if_neg hs, h]
    have : PySem.Value.isStrOf s (.str x t) = false := by simp [PySem.Value.isStrOf]; exact fun z => hs z.symm
    rw [this]
theorem names_tab {w : World} {K : PySem.W.Frag} {mg : Str → Option Value} {aN : Addr} {es : Array DictEntry} {m : Nat} {h1 h2 h3 h4 h5 h6 h7 h8 h9 h10 h11 : Int} {t1 j1 t2 j2 t3 j3 t4 j4 t5 j5 t6 j6 t7 j7 t8 j8 t9 j9 t10 j10 t11 j11 : Tok}
    (b1 : mg "NAMES" = some (.ref aN)) (l1 : K.lookup aN = some ⟨.type "dict", none, .dict es m, #[]⟩) (k1 : PySem.W.KeysLit w.params es.toList) (o1 : (aN == sysModules) = false) (e1 : es = ⟨[⟨h1, .str "days" t1, .int 0 j1⟩, ⟨h2, .str "bench" t2, .int 1 j2⟩, ⟨h3, .str "shut" t3, .int 1 j3⟩, ⟨h4, .str "store" t4, .int 1 j4⟩, ⟨h5, .str "work" t5, .int 1 j5⟩, ⟨h6, .str "way" t6, .int 2 j6⟩, ⟨h7, .str "uses" t7, .int 3 j7⟩, ⟨h8, .str "takes" t8, .int 3 j8⟩, ⟨h9, .str "gives" t9, .int 3 j9⟩, ⟨h10, .str "after" t10, .int 2 j10⟩, ⟨h11, .str "late" t11, .int 1 j11⟩]⟩) : ∃ fN, Tab w K mg "NAMES" aN fN ∧ NamesOk fN := by
  refine ⟨_, tab_mk b1 l1 k1 o1, fun r => ?_⟩
  have ef : ∀ s : Str, PySem.findBy PySem.Value.isStrOf es s = if s = "days" then some (.int 0 j1) else if s = "bench" then some (.int 1 j2) else if s = "shut" then some (.int 1 j3) else if s = "store" then some (.int 1 j4) else if s = "work" then some (.int 1 j5) else if s = "way" then some (.int 2 j6) else if s = "uses" then some (.int 3 j7) else if s = "takes" then some (.int 3 j8) else if s = "gives" then some (.int 3 j9) else if s = "after" then some (.int 2 j10) else if s = "late" then some (.int 1 j11) else none := fun s => by
    subst e1
    rw [findBy_cons _ _ "days" t1 rfl, findBy_cons _ _ "bench" t2 rfl, findBy_cons _ _ "shut" t3 rfl, findBy_cons _ _ "store" t4 rfl, findBy_cons _ _ "work" t5 rfl, findBy_cons _ _ "way" t6 rfl, findBy_cons _ _ "uses" t7 rfl, findBy_cons _ _ "takes" t8 rfl, findBy_cons _ _ "gives" t9 rfl, findBy_cons _ _ "after" t10 rfl, findBy_cons _ _ "late" t11 rfl]
    rfl
  cases r with
  | days n => exact ⟨j1, by rw [ef]; rw [if_pos (show (BR.days n).word = "days" from rfl)]; rfl⟩
  | bench b r => exact ⟨j2, by rw [ef]; rw [if_neg (by show ¬ (("bench" : Str) = "days"); decide +kernel), if_pos (show (BR.bench b r).word = "bench" from rfl)]; rfl⟩
  | shut b f t => exact ⟨j3, by rw [ef]; rw [if_neg (by show ¬ (("shut" : Str) = "days"); decide +kernel), if_neg (by show ¬ (("shut" : Str) = "bench"); decide +kernel), if_pos (show (BR.shut b f t).word = "shut" from rfl)]; rfl⟩
  | store b m f => exact ⟨j4, by rw [ef]; rw [if_neg (by show ¬ (("store" : Str) = "days"); decide +kernel), if_neg (by show ¬ (("store" : Str) = "bench"); decide +kernel), if_neg (by show ¬ (("store" : Str) = "shut"); decide +kernel), if_pos (show (BR.store b m f).word = "store" from rfl)]; rfl⟩
  | work w => exact ⟨j5, by rw [ef]; rw [if_neg (by show ¬ (("work" : Str) = "days"); decide +kernel), if_neg (by show ¬ (("work" : Str) = "bench"); decide +kernel), if_neg (by show ¬ (("work" : Str) = "shut"); decide +kernel), if_neg (by show ¬ (("work" : Str) = "store"); decide +kernel), if_pos (show (BR.work w).word = "work" from rfl)]; rfl⟩
  | way w v l c => exact ⟨j6, by rw [ef]; rw [if_neg (by show ¬ (("way" : Str) = "days"); decide +kernel), if_neg (by show ¬ (("way" : Str) = "bench"); decide +kernel), if_neg (by show ¬ (("way" : Str) = "shut"); decide +kernel), if_neg (by show ¬ (("way" : Str) = "store"); decide +kernel), if_neg (by show ¬ (("way" : Str) = "work"); decide +kernel), if_pos (show (BR.way w v l c).word = "way" from rfl)]; rfl⟩
  | use k w v t m => match k with
    | 0 => exact ⟨j7, by rw [ef]; rw [if_neg (by show ¬ (("uses" : Str) = "days"); decide +kernel), if_neg (by show ¬ (("uses" : Str) = "bench"); decide +kernel), if_neg (by show ¬ (("uses" : Str) = "shut"); decide +kernel), if_neg (by show ¬ (("uses" : Str) = "store"); decide +kernel), if_neg (by show ¬ (("uses" : Str) = "work"); decide +kernel), if_neg (by show ¬ (("uses" : Str) = "way"); decide +kernel), if_pos (show (BR.use 0 w v t m).word = "uses" from rfl)]; rfl⟩
    | 1 => exact ⟨j8, by rw [ef]; rw [if_neg (by show ¬ (("takes" : Str) = "days"); decide +kernel), if_neg (by show ¬ (("takes" : Str) = "bench"); decide +kernel), if_neg (by show ¬ (("takes" : Str) = "shut"); decide +kernel), if_neg (by show ¬ (("takes" : Str) = "store"); decide +kernel), if_neg (by show ¬ (("takes" : Str) = "work"); decide +kernel), if_neg (by show ¬ (("takes" : Str) = "way"); decide +kernel), if_neg (by show ¬ (("takes" : Str) = "uses"); decide +kernel), if_pos (show (BR.use 1 w v t m).word = "takes" from rfl)]; rfl⟩
    | 2 => exact ⟨j9, by rw [ef]; rw [if_neg (by show ¬ (("gives" : Str) = "days"); decide +kernel), if_neg (by show ¬ (("gives" : Str) = "bench"); decide +kernel), if_neg (by show ¬ (("gives" : Str) = "shut"); decide +kernel), if_neg (by show ¬ (("gives" : Str) = "store"); decide +kernel), if_neg (by show ¬ (("gives" : Str) = "work"); decide +kernel), if_neg (by show ¬ (("gives" : Str) = "way"); decide +kernel), if_neg (by show ¬ (("gives" : Str) = "uses"); decide +kernel), if_neg (by show ¬ (("gives" : Str) = "takes"); decide +kernel), if_pos (show (BR.use 2 w v t m).word = "gives" from rfl)]; rfl⟩
  | after w x g => exact ⟨j10, by rw [ef]; rw [if_neg (by show ¬ (("after" : Str) = "days"); decide +kernel), if_neg (by show ¬ (("after" : Str) = "bench"); decide +kernel), if_neg (by show ¬ (("after" : Str) = "shut"); decide +kernel), if_neg (by show ¬ (("after" : Str) = "store"); decide +kernel), if_neg (by show ¬ (("after" : Str) = "work"); decide +kernel), if_neg (by show ¬ (("after" : Str) = "way"); decide +kernel), if_neg (by show ¬ (("after" : Str) = "uses"); decide +kernel), if_neg (by show ¬ (("after" : Str) = "takes"); decide +kernel), if_neg (by show ¬ (("after" : Str) = "gives"); decide +kernel), if_pos (show (BR.after w x g).word = "after" from rfl)]; rfl⟩
  | late w d c => exact ⟨j11, by rw [ef]; rw [if_neg (by show ¬ (("late" : Str) = "days"); decide +kernel), if_neg (by show ¬ (("late" : Str) = "bench"); decide +kernel), if_neg (by show ¬ (("late" : Str) = "shut"); decide +kernel), if_neg (by show ¬ (("late" : Str) = "store"); decide +kernel), if_neg (by show ¬ (("late" : Str) = "work"); decide +kernel), if_neg (by show ¬ (("late" : Str) = "way"); decide +kernel), if_neg (by show ¬ (("late" : Str) = "uses"); decide +kernel), if_neg (by show ¬ (("late" : Str) = "takes"); decide +kernel), if_neg (by show ¬ (("late" : Str) = "gives"); decide +kernel), if_neg (by show ¬ (("late" : Str) = "after"); decide +kernel), if_pos (show (BR.late w d c).word = "late" from rfl)]; rfl⟩
section
variable {P : Program} {w : World} {K : PySem.W.Frag} {mg : Str → Option Value} {base : Heap}
theorem scLaw : FnScope ["_law_script", "_law_book_here", "_law_k", "_law_plan_here", "_law_handed", "_law_found"] ["_law_script"] (defScope sLaw) := ⟨rfl, rfl, rfl, by decide +kernel, rfl, by decide +kernel, by decide +kernel⟩
theorem okLaw {f : Addr} {fd : FuncData} (F : Fun K "law" "law" sLaw f fd) (M : Mg mg) (cl_book : Cal P w K mg base 5 "_law_book" ["_law_script"] (spBook K)) (cl_all_done : Cal P w K mg base 2 "_law_all_done" ["_law_book_here"] (spDone K)) (cl_plan : Cal P w K mg base 3 "_law_plan" ["_law_script", "_law_start", "_law_book_here"] (spPlan K)) (c_cost_of_plan : Cal P w K mg base 5 "cost_of_plan" ["book", "plan"] (spCostP K)) (cl_whole : Cal P w K mg base 1 "_law_whole" ["_law_found"] (spWhole)) (cl_cost : Cal P w K mg base 2 "_law_cost" ["_law_book_here", "_law_plan_here"] (spCostL K)) : FnOk P w K mg base CX0 6 f fd ["_law_script"] (spLaw K) := by
  refine F.ok scLaw (fun vs H Q E h => ?_) (fun cdv A outer s H vs Q E hr h => ?_)
  · obtain ⟨a, ns, rfl, _⟩ := h
    rfl
  obtain ⟨a, ns, rfl, hS, h63, q⟩ := h
  have hu6 : (A.deeper (PyProof.Rows.envOfC "law" (defScope sLaw) s.heap.objs.size f cdv)).units + 6 < cLine := Nat.lt_of_le_of_lt (Nat.add_le_add_left (by decide) _) hr.un
  refine ⟨_, (pss_cons (ps_set (i := 1) scLaw.nd rfl (Or.inl rfl) (pe_fn cl_all_done (hr.mono (by decide)) (pa_cons (pe_fn cl_book (hr.mono (by decide)) (pa_cons (pv 0) pa_nil)) pa_nil)))
    (pss_cons (ps_for PassesOwn.never rfl (pi_range1 rfl M.range_ (pa_cons (pe_callB (call_max2 rfl) rfl M.max bt_max (pa_cons pe_int (pa_cons (pe_callB (call_min2 rfl) rfl M.min bt_min (pa_cons pe_int (pa_cons (pe_callB call_len_seq rfl M.len bt_len (pa_cons (pv 0) pa_nil)) pa_nil))) pa_nil))) pa_nil)) (pg_name (i := 2) scLaw.nd rfl (Or.inl rfl) (Or.inl rfl)) (pss_cons (ps_set (i := 3) scLaw.nd rfl (Or.inl rfl) (pe_fn cl_plan (hr.mono (by decide)) (pa_cons (pv 0) (pa_cons (pe_op op_add pe_int (pe_op op_mul pe_int (pv 2))) (pa_cons (pv 1) pa_nil)))))
    (pss_cons (ps_set (i := 4) scLaw.nd rfl (Or.inl rfl) (pe_lst (pa_cons (pe_lc ["_law_row"] [none] rfl (pi_list (pv 1)) (fun _ _ _ => (pg_name (i := 0) (show (["_law_row"] : List Str).Nodup by decide +kernel) rfl (Or.inl rfl) (Or.inr rfl))) (fun _ _ _ => pf_nil) (fun _ _ _ => (pe_callTy (call_list_ofK (K := K) rfl) rfl M.list_ bt_list (pa_cons (pv 0) pa_nil)))) (pa_cons (pe_callTy call_dictD rfl M.dict_ bt_dict (pa_cons (pv 3) pa_nil)) pa_nil))))
    (pss_cons (ps_set (i := 5) scLaw.nd rfl (Or.inl rfl) (pe_fn c_cost_of_plan (hr.mono (by decide)) (pa_cons (pe_ix ix_list (pv 4) pe_int (fun _ _ => rfl)) (pa_cons (pe_ix ix_list (pv 4) pe_int (fun _ _ => rfl)) pa_nil))))
    (pss_one (ps_if (PW.pt (pw_or (pt_not (pt_val (pe_fn cl_whole (hr.mono (by decide)) (pa_cons (pv 5) pa_nil)))) (pw_or (pt_cmpR op_ne (pv 5) (pe_fn cl_cost (hr.mono (by decide)) (pa_cons (pv 1) (pa_cons (pv 3) pa_nil))) (nomark _)) (pw_or1 (pt_cmpR (op_neBP (n := 6) (by decide) hu6) (pv 4) (pe_lst (pa_cons (pv 1) (pa_cons (pv 3) pa_nil))) (nomark _)))))) (pss_one (ps_ret pe_bl)) pss_nil))))))
    (pss_one (ps_ret pe_bl)))), ?_⟩
  refine seq_let3 ?_
  intro rT3 rT2
  have hz : (20000 : Nat) < sizeLine := by decide
  refine ⟨_, rfl, a, ns, rfl, hS, fun g vs n B H1 s1 hg hB bk0 => ?_⟩
  refine ⟨g, vs, B, rfl, hg, hB, bk0.wb.len, fun g2 us H2 s2 hd hB2 => ?_⟩
  have bk := done_ok bk0
  have hway : ∀ x, BR.work x ∈ doneB B → ∃ v l c, BR.way x v l c ∈ doneB B := fun x h => done_way h
  generalize doneB B = D0 at hB2 bk hway
  have lu := hB2.length
  have bl := bk.wb.len
  have s12 := s1.trans s2
  refine ⟨_, rfl, a, _, rfl, .inl (s12.seq hS), _, _, rfl, _, _, rfl, ?_⟩
  obtain ⟨M9, eM⟩ : ∃ M9 : Int, (if (if ((((ns.map V.int).length : Nat)) : Int) < 6 then ((((ns.map V.int).length : Nat)) : Int) else 6) > 1 then (if ((((ns.map V.int).length : Nat)) : Int) < 6 then ((((ns.map V.int).length : Nat)) : Int) else 6) else 1) = M9 := ⟨_, rfl⟩
  have hM : 0 ≤ M9 ∧ M9 ≤ 6 := by
    rw [← eM]
    split
    · split <;> omega
    · omega
  rw [eM]
  refine ⟨M9, rfl, by omega, by omega, for_range (lo := 0) (n := M9.toNat) (fun i σ H3 => ∃ v2 v3 v4 v5 : Option V, σ = [some (.ref a), some (.ref g2), v2, v3, v4, v5] ∧ Same H2 H3) ⟨none, none, none, none, rfl, Same.refl _⟩ ?_ ?_⟩
  · rintro i σ H3 hi ⟨v2, v3, v4, v5, rfl, s3⟩
    have hi' : i < 6 := by omega
    have hd3 := s3 _ _ hd
    have hB3 := hB2.same s3
    refine ⟨_, rfl, _, rfl, _, _, rfl, rfl, mulC _ _ (by decide) (by decide), _, _, rfl, rfl, _, rfl, a, g2, ns, _, n, us, D0, rfl, (s12.trans s3).seq hS, by omega, by omega, hd3, hB3, bk, hway, fun P pl H4 s4 fP hP hpf => ?_⟩
    have hd4 := s4 _ _ hd3
    have hB4 := hB3.same s4
    refine ⟨_, rfl, g2, rfl, ⟨_, sqL_new hd4⟩, fun D hD => ?_⟩
    refine lc_any (n := D0.length) (fun m τ ys H5 => ∃ v : Option V, τ = [v] ∧ RowsB H5 ys (D0.take m) ∧ ys.length ≤ m ∧ H5 D = some (.lst ys) ∧ Same H4 H5) ?_ (fun m τ ys H5 hm h => ?_) (fun m τ ys H5 hm h => ?_) (fun τ ys H5 h => ?_) ?_ ?_
    · exact ⟨none, rfl, .nil, Nat.le_refl _, upd_same, same_new' hD _⟩
    · obtain ⟨v, rfl, hY, hl, hE, s5⟩ := h
      exact ⟨hE, by omega⟩
    · obtain ⟨v, rfl, hY, hl, hE, s5⟩ := h
      exact ⟨us, us[m]'(by omega), s5.seq (sqL_new hd4), List.getElem?_eq_getElem (by omega)⟩
    · obtain ⟨v, rfl, hY, hl, hE, s5⟩ := h
      exact ⟨us, s5.seq (sqL_new hd4), by omega⟩
    · rintro m τ ys H5 x H6 hm ⟨v, rfl, hY, hl, hE, s5⟩ ⟨rfl, e1⟩
      obtain ⟨r, lr, er, rfl, hr⟩ := (hB4.same s5).get (e1 _ (s5.seq (sqL_new hd4)))
      refine ⟨_, rfl, lr, _, rfl, .inl (sqL_new hr), fun l6 hl6 => ?_⟩
      have s6 := same_new' hl6 (.lst (r.cells.map kV))
      have hE6 := s6 _ _ hE
      refine ⟨hE6, _, rfl, ?_, by rw [List.length_append]; exact Nat.succ_le_succ hl, upd_same, fun b o e => ?_⟩
      · rw [takeS er]
        exact ((hY.same s6).snoc upd_same).updL hE6 hY.noRow
      · rw [upd_ne (ne_of_none e hD)]; exact s6 _ _ (s5 _ _ e)
    · rintro τ ys H5 ⟨v, rfl, hY, hl, hE, s5⟩
      rw [List.take_length] at hY
      obtain ⟨kvs, hPk, hPp⟩ := PlanAt.same hP s5
      have lk : kvs.length ≤ 400 := by
        have h5 := Paired.length hPp
        have h6 := congrArg List.length hpf.keys
        rw [List.length_map, List.length_reverse] at h6
        have h7 : (wks D0).length ≤ D0.length := List.length_filterMap_le _ _
        omega
      refine ⟨_, rfl, P, kvs, rfl, hPk, by omega, fun P2 hP2 => ?_⟩
      have s6 := same_new' hP2 (.dK kvs)
      have hP6 : PlanAt K (upd H5 P2 (.dK kvs)) P2 pl := ⟨kvs, upd_same, Paired.mapP hPp fun _ _ ⟨e, t, e2, z⟩ => ⟨e, t, e2, s6.tup z⟩⟩
      generalize upd H5 P2 (.dK kvs) = H6 at s6 hP6 ⊢
      refine ⟨by show 2 ≤ sizeLine; decide, fun hd' hhd => ?_⟩
      have s7 := same_new' hhd (.lst [.ref D, .ref P2])
      have hhd7 : upd H6 hd' (.lst [.ref D, .ref P2]) hd' = some (.lst [.ref D, .ref P2]) := upd_same
      generalize upd H6 hd' (.lst [.ref D, .ref P2]) = H7 at s7 hhd7 ⊢
      have s67 := s6.trans s7
      have s47 := s5.trans s67
      refine ⟨_, rfl, hd', _, _, _, rfl, rfl, sqL_new hhd7, at0, _, rfl, hd', _, _, _, rfl, rfl, sqL_new hhd7, at1, D, P2, n, ys, D0, pl, rfl, s67 _ _ hE, hY.same s67, bk, PlanAt.same hP6 s7, hpf, fun H8 s8 => ?_⟩
      rw [cost_eq bk hpf]
      have s48 := s47.trans s8
      refine ⟨_, rfl, _, rfl, _, rfl, iteF ?_⟩
      refine ⟨_, rfl, _, rfl, _, rfl, g2, P, n, us, D0, pl, rfl, s48 _ _ hd4, hB4.same s48, bk, PlanAt.same hP s48, hpf, fun H9 s9 => ⟨rfl, _, rfl, ite2 (fun y => absurd y (by simp)) (fun _ => ?_)⟩⟩
      have s89 := s8.trans s9
      refine ⟨_, rfl, _, rfl, _, rfl, by show 2 ≤ sizeLine; decide, fun e9 he9 => ?_⟩
      have s10 := s89.trans (same_new' he9 (.lst [.ref g2, .ref P]))
      have s410 := s47.trans s10
      refine ⟨hd', e9, D, g2, P2, P, ys, us, D0.map BR.cells, pl, rfl, rfl, sqL_new (s10 _ _ hhd7), sqL_new upd_same, sqL_new (s10 _ _ (s67 _ _ hE)), hY.same (s67.trans s10), sqL_new (s410 _ _ hd4), hB4.same s410, PlanAt.same hP6 (s7.trans s10), PlanAt.same hP s410, ?_⟩
      exact ⟨_, rfl, iteF ⟨_, _, _, _, rfl, (s3.trans s4).trans s410⟩⟩
  · rintro σ H3 ⟨v2, v3, v4, v5, rfl, s3⟩
    exact q H3
end
end Nb
namespace Nb
open PySem L2
noncomputable def htop (i : Nat) : Stmt := PySem.Challenge.pw_nonebetter_k60_costs_of_plans.main.body.getD i (.Pass ⟨0, 0, 0, 0⟩)
noncomputable def hob0 (i : Nat) (P : PySem.Params) : PySem.Obj :=
  bif Nat.beq i 2 then PySem.Obj.mk PySem.Value.none Option.none (PySem.Data.dict #[]) #[] else
  bif Nat.beq i 3 then PySem.Obj.mk (PySem.Value.type "dict") Option.none (PySem.Data.dict #[PySem.DictEntry.mk (PySem.PyData.keyHash P (PySem.Str.ofString "__name__")) (PySem.Value.str (PySem.Str.ofString "__name__") 165) (PySem.Value.str (PySem.Str.ofString "law_nonebetter_k60_costs_of_plans") 367), PySem.DictEntry.mk (PySem.PyData.keyHash P (PySem.Str.ofString "__doc__")) (PySem.Value.str (PySem.Str.ofString "__doc__") 166) PySem.Value.none, PySem.DictEntry.mk (PySem.PyData.keyHash P (PySem.Str.ofString "__package__")) (PySem.Value.str (PySem.Str.ofString "__package__") 167) PySem.Value.none, PySem.DictEntry.mk (PySem.PyData.keyHash P (PySem.Str.ofString "__loader__")) (PySem.Value.str (PySem.Str.ofString "__loader__") 168) (PySem.Value.builtin "__main__.__loader__#opaque"), PySem.DictEntry.mk (PySem.PyData.keyHash P (PySem.Str.ofString "__spec__")) (PySem.Value.str (PySem.Str.ofString "__spec__") 169) PySem.Value.none, PySem.DictEntry.mk (PySem.PyData.keyHash P (PySem.Str.ofString "__annotations__")) (PySem.Value.str (PySem.Str.ofString "__annotations__") 170) (PySem.Value.ref 6), PySem.DictEntry.mk (PySem.PyData.keyHash P (PySem.Str.ofString "__builtins__")) (PySem.Value.str (PySem.Str.ofString "__builtins__") 171) (PySem.Value.ref 4), PySem.DictEntry.mk (PySem.PyData.keyHash P (PySem.Str.ofString "__file__")) (PySem.Value.str (PySem.Str.ofString "__file__") 173) (PySem.Value.str (PySem.Str.ofString "/claim/cut.py") 172), PySem.DictEntry.mk (PySem.PyData.keyHash P (PySem.Str.ofString "__cached__")) (PySem.Value.str (PySem.Str.ofString "__cached__") 174) PySem.Value.none, PySem.DictEntry.mk (PySem.PyData.keyHash P (PySem.Str.ofString "_wall")) (PySem.Value.str (PySem.Str.ofString "_wall") 193) (PySem.Value.ref 21), PySem.DictEntry.mk (PySem.PyData.keyHash P (PySem.Str.ofString "NAMES")) (PySem.Value.str (PySem.Str.ofString "NAMES") 229) (PySem.Value.ref 22), PySem.DictEntry.mk (PySem.PyData.keyHash P (PySem.Str.ofString "said_by")) (PySem.Value.str (PySem.Str.ofString "said_by") 236) (PySem.Value.ref 29), PySem.DictEntry.mk (PySem.PyData.keyHash P (PySem.Str.ofString "Facts")) (PySem.Value.str (PySem.Str.ofString "Facts") 352) (PySem.Value.ref 107), PySem.DictEntry.mk (PySem.PyData.keyHash P (PySem.Str.ofString "choices_taken")) (PySem.Value.str (PySem.Str.ofString "choices_taken") 360) (PySem.Value.ref 116), PySem.DictEntry.mk (PySem.PyData.keyHash P (PySem.Str.ofString "cost_of_plan")) (PySem.Value.str (PySem.Str.ofString "cost_of_plan") 366) (PySem.Value.ref 121), PySem.DictEntry.mk (PySem.PyData.keyHash P (PySem.Str.ofString "_law_cell_at")) (PySem.Value.str (PySem.Str.ofString "_law_cell_at") 376) (PySem.Value.ref 128), PySem.DictEntry.mk (PySem.PyData.keyHash P (PySem.Str.ofString "_law_whole")) (PySem.Value.str (PySem.Str.ofString "_law_whole") 383) (PySem.Value.ref 135), PySem.DictEntry.mk (PySem.PyData.keyHash P (PySem.Str.ofString "_law_block")) (PySem.Value.str (PySem.Str.ofString "_law_block") 393) (PySem.Value.ref 142), PySem.DictEntry.mk (PySem.PyData.keyHash P (PySem.Str.ofString "_law_mixed")) (PySem.Value.str (PySem.Str.ofString "_law_mixed") 403) (PySem.Value.ref 149), PySem.DictEntry.mk (PySem.PyData.keyHash P (PySem.Str.ofString "_law_name")) (PySem.Value.str (PySem.Str.ofString "_law_name") 415) (PySem.Value.ref 156), PySem.DictEntry.mk (PySem.PyData.keyHash P (PySem.Str.ofString "_law_things")) (PySem.Value.str (PySem.Str.ofString "_law_things") 431) (PySem.Value.ref 163), PySem.DictEntry.mk (PySem.PyData.keyHash P (PySem.Str.ofString "_law_way")) (PySem.Value.str (PySem.Str.ofString "_law_way") 448) (PySem.Value.ref 170), PySem.DictEntry.mk (PySem.PyData.keyHash P (PySem.Str.ofString "_law_works")) (PySem.Value.str (PySem.Str.ofString "_law_works") 466) (PySem.Value.ref 177), PySem.DictEntry.mk (PySem.PyData.keyHash P (PySem.Str.ofString "_law_put")) (PySem.Value.str (PySem.Str.ofString "_law_put") 478) (PySem.Value.ref 184), PySem.DictEntry.mk (PySem.PyData.keyHash P (PySem.Str.ofString "_law_book")) (PySem.Value.str (PySem.Str.ofString "_law_book") 491) (PySem.Value.ref 191), PySem.DictEntry.mk (PySem.PyData.keyHash P (PySem.Str.ofString "_law_ways")) (PySem.Value.str (PySem.Str.ofString "_law_ways") 497) (PySem.Value.ref 196), PySem.DictEntry.mk (PySem.PyData.keyHash P (PySem.Str.ofString "_law_plan")) (PySem.Value.str (PySem.Str.ofString "_law_plan") 503) (PySem.Value.ref 201), PySem.DictEntry.mk (PySem.PyData.keyHash P (PySem.Str.ofString "_law_length")) (PySem.Value.str (PySem.Str.ofString "_law_length") 509) (PySem.Value.ref 206), PySem.DictEntry.mk (PySem.PyData.keyHash P (PySem.Str.ofString "_law_many")) (PySem.Value.str (PySem.Str.ofString "_law_many") 515) (PySem.Value.ref 211), PySem.DictEntry.mk (PySem.PyData.keyHash P (PySem.Str.ofString "_law_cost")) (PySem.Value.str (PySem.Str.ofString "_law_cost") 528) (PySem.Value.ref 218), PySem.DictEntry.mk (PySem.PyData.keyHash P (PySem.Str.ofString "_law_all_done")) (PySem.Value.str (PySem.Str.ofString "_law_all_done") 534) (PySem.Value.ref 223), PySem.DictEntry.mk (PySem.PyData.keyHash P (PySem.Str.ofString "law")) (PySem.Value.str (PySem.Str.ofString "law") 540) (PySem.Value.ref 228)] 32) #[] else
  bif Nat.beq i 15 then PySem.Obj.mk (PySem.Value.type "tuple") Option.none (PySem.Data.seq #[]) #[] else
  bif Nat.beq i 17 then PySem.Obj.mk (PySem.Value.type "tuple") Option.none (PySem.Data.seq #[PySem.Value.str (PySem.Str.ofString "k") 190]) #[] else
  PySem.Obj.mk (PySem.Value.type "tuple") Option.none (PySem.Data.seq #[]) #[]
noncomputable def hob1 (i : Nat) (P : PySem.Params) : PySem.Obj :=
  bif Nat.beq i 20 then PySem.Obj.mk (PySem.Value.type "code") Option.none (PySem.Data.fields #[PySem.Value.str (PySem.Str.ofString "_wall") 187, PySem.Value.str (PySem.Str.ofString "_wall") 188, PySem.Value.str (PySem.Str.ofString "/claim/cut.py") 189, PySem.Value.int 1 0, PySem.Value.int 1 0, PySem.Value.int 0 0, PySem.Value.int 0 0, PySem.Value.int 3 0, PySem.Value.ref 15, PySem.Value.bool Bool.true, PySem.Value.int 181 0, PySem.Value.ref 16, PySem.Value.none, PySem.Value.ref 17, PySem.Value.ref 18, PySem.Value.ref 19, PySem.Value.int 191 0, PySem.Value.int 1 0, PySem.Value.str (PySem.Str.ofString "/claim/cut.py") 192]) #[] else
  bif Nat.beq i 21 then PySem.Obj.mk (PySem.Value.type "function") (Option.none) (PySem.Data.func (PySem.FuncData.mk (PySem.Str.ofString "_wall") (PySem.Str.ofString "_wall") (L2.defArgs (htop 0)) (PySem.FuncBody.stmts (L2.defBody (htop 0))) (L2.defScope (htop 0)) (3) ([]) (PySem.Value.none) (PySem.Value.none) (PySem.Value.none) (PySem.Value.str (PySem.Str.ofString "__main__") 164) (Option.none) (PySem.Value.ref 20) (PySem.Value.none) (0))) (#[]) else
  bif Nat.beq i 22 then PySem.Obj.mk (PySem.Value.type "dict") Option.none (PySem.Data.dict #[PySem.DictEntry.mk (PySem.PyData.keyHash P (PySem.Str.ofString "days")) (PySem.Value.str (PySem.Str.ofString "days") 196) (PySem.Value.int 0 197), PySem.DictEntry.mk (PySem.PyData.keyHash P (PySem.Str.ofString "bench")) (PySem.Value.str (PySem.Str.ofString "bench") 198) (PySem.Value.int 1 199), PySem.DictEntry.mk (PySem.PyData.keyHash P (PySem.Str.ofString "shut")) (PySem.Value.str (PySem.Str.ofString "shut") 200) (PySem.Value.int 1 201), PySem.DictEntry.mk (PySem.PyData.keyHash P (PySem.Str.ofString "store")) (PySem.Value.str (PySem.Str.ofString "store") 202) (PySem.Value.int 1 203), PySem.DictEntry.mk (PySem.PyData.keyHash P (PySem.Str.ofString "work")) (PySem.Value.str (PySem.Str.ofString "work") 204) (PySem.Value.int 1 205), PySem.DictEntry.mk (PySem.PyData.keyHash P (PySem.Str.ofString "way")) (PySem.Value.str (PySem.Str.ofString "way") 206) (PySem.Value.int 2 207), PySem.DictEntry.mk (PySem.PyData.keyHash P (PySem.Str.ofString "uses")) (PySem.Value.str (PySem.Str.ofString "uses") 208) (PySem.Value.int 3 209), PySem.DictEntry.mk (PySem.PyData.keyHash P (PySem.Str.ofString "takes")) (PySem.Value.str (PySem.Str.ofString "takes") 210) (PySem.Value.int 3 211), PySem.DictEntry.mk (PySem.PyData.keyHash P (PySem.Str.ofString "gives")) (PySem.Value.str (PySem.Str.ofString "gives") 212) (PySem.Value.int 3 213), PySem.DictEntry.mk (PySem.PyData.keyHash P (PySem.Str.ofString "after")) (PySem.Value.str (PySem.Str.ofString "after") 214) (PySem.Value.int 2 215), PySem.DictEntry.mk (PySem.PyData.keyHash P (PySem.Str.ofString "late")) (PySem.Value.str (PySem.Str.ofString "late") 216) (PySem.Value.int 1 217)] 11) #[] else
  bif Nat.beq i 23 then PySem.Obj.mk (PySem.Value.type "tuple") Option.none (PySem.Data.seq #[]) #[] else
  PySem.Obj.mk (PySem.Value.type "tuple") Option.none (PySem.Data.seq #[PySem.Value.str (PySem.Str.ofString "row") 233]) #[]
noncomputable def hob2 (i : Nat) (P : PySem.Params) : PySem.Obj :=
  bif Nat.beq i 26 then PySem.Obj.mk (PySem.Value.type "tuple") Option.none (PySem.Data.seq #[]) #[] else
  bif Nat.beq i 28 then PySem.Obj.mk (PySem.Value.type "code") Option.none (PySem.Data.fields #[PySem.Value.str (PySem.Str.ofString "said_by") 230, PySem.Value.str (PySem.Str.ofString "said_by") 231, PySem.Value.str (PySem.Str.ofString "/claim/cut.py") 232, PySem.Value.int 6 0, PySem.Value.int 1 0, PySem.Value.int 0 0, PySem.Value.int 0 0, PySem.Value.int 3 0, PySem.Value.ref 23, PySem.Value.bool Bool.true, PySem.Value.int 181 0, PySem.Value.ref 24, PySem.Value.none, PySem.Value.ref 25, PySem.Value.ref 26, PySem.Value.ref 27, PySem.Value.int 234 0, PySem.Value.int 6 0, PySem.Value.str (PySem.Str.ofString "/claim/cut.py") 235]) #[] else
  bif Nat.beq i 29 then PySem.Obj.mk (PySem.Value.type "function") (Option.none) (PySem.Data.func (PySem.FuncData.mk (PySem.Str.ofString "said_by") (PySem.Str.ofString "said_by") (L2.defArgs (htop 3)) (PySem.FuncBody.stmts (L2.defBody (htop 3))) (L2.defScope (htop 3)) (3) ([]) (PySem.Value.none) (PySem.Value.none) (PySem.Value.none) (PySem.Value.str (PySem.Str.ofString "nonebetter.books") 194) (Option.none) (PySem.Value.ref 28) (PySem.Value.none) (0))) (#[]) else
  bif Nat.beq i 37 then PySem.Obj.mk (PySem.Value.type "tuple") Option.none (PySem.Data.seq #[]) #[] else
  PySem.Obj.mk (PySem.Value.type "code") Option.none (PySem.Data.fields #[PySem.Value.str (PySem.Str.ofString "__init__") 251, PySem.Value.str (PySem.Str.ofString "Facts.__init__") 252, PySem.Value.str (PySem.Str.ofString "/claim/cut.py") 253, PySem.Value.int 11 0, PySem.Value.int 2 0, PySem.Value.int 0 0, PySem.Value.int 0 0, PySem.Value.int 3 0, PySem.Value.ref 37, PySem.Value.bool Bool.true, PySem.Value.int 181 0, PySem.Value.ref 38, PySem.Value.none, PySem.Value.none, PySem.Value.none, PySem.Value.ref 39, PySem.Value.int 254 0, PySem.Value.int 11 0, PySem.Value.str (PySem.Str.ofString "/claim/cut.py") 255]) #[]
noncomputable def hob3 (i : Nat) (P : PySem.Params) : PySem.Obj :=
  bif Nat.beq i 41 then PySem.Obj.mk (PySem.Value.type "function") Option.none (PySem.Data.func (PySem.FuncData.mk (PySem.Str.ofString "__init__") (PySem.Str.ofString "Facts.__init__") (PySem.Arguments.mk [] [PySem.Arg.mk (PySem.Str.ofString "self") Option.none (PySem.Pos.mk 11 17 11 21), PySem.Arg.mk (PySem.Str.ofString "book") Option.none (PySem.Pos.mk 11 23 11 27)] Option.none [] [] Option.none []) (PySem.FuncBody.stmts [PySem.Stmt.Assign [PySem.Expr.Attribute (PySem.Expr.Name (PySem.Str.ofString "self") (PySem.Pos.mk 12 8 12 12)) (PySem.Str.ofString "days") (PySem.Pos.mk 12 8 12 17)] (PySem.Expr.Subscript (PySem.Expr.Subscript (PySem.Expr.Name (PySem.Str.ofString "book") (PySem.Pos.mk 12 20 12 24)) (PySem.Expr.Constant (PySem.Const.int 0) 0 (PySem.Pos.mk 12 25 12 26)) (PySem.Pos.mk 12 20 12 27)) (PySem.Expr.Constant (PySem.Const.int 1) 0 (PySem.Pos.mk 12 28 12 29)) (PySem.Pos.mk 12 20 12 30)) (PySem.Pos.mk 12 8 12 30), PySem.Stmt.Assign [PySem.Expr.Attribute (PySem.Expr.Name (PySem.Str.ofString "self") (PySem.Pos.mk 13 8 13 12)) (PySem.Str.ofString "works") (PySem.Pos.mk 13 8 13 18)] (PySem.Expr.ListComp (PySem.Expr.Subscript (PySem.Expr.Name (PySem.Str.ofString "row") (PySem.Pos.mk 13 22 13 25)) (PySem.Expr.Constant (PySem.Const.int 1) 0 (PySem.Pos.mk 13 26 13 27)) (PySem.Pos.mk 13 22 13 28)) [PySem.Comprehension.mk (PySem.Expr.Name (PySem.Str.ofString "row") (PySem.Pos.mk 13 33 13 36)) (PySem.Expr.Name (PySem.Str.ofString "book") (PySem.Pos.mk 13 40 13 44)) [PySem.Expr.Compare (PySem.Expr.Subscript (PySem.Expr.Name (PySem.Str.ofString "row") (PySem.Pos.mk 13 48 13 51)) (PySem.Expr.Constant (PySem.Const.int 0) 0 (PySem.Pos.mk 13 52 13 53)) (PySem.Pos.mk 13 48 13 54)) [PySem.CmpOp.Eq] [PySem.Expr.Constant (PySem.Const.str (PySem.Str.ofString "work")) 0 (PySem.Pos.mk 13 58 13 64)] (PySem.Pos.mk 13 48 13 64)] 0] (PySem.Scope.mk PySem.ScopeKind.function [(PySem.Str.ofString ".0", PySem.NameKind.local), (PySem.Str.ofString "row", PySem.NameKind.local)] Bool.false Bool.false []) (PySem.Pos.mk 13 21 13 65)) (PySem.Pos.mk 13 8 13 65), PySem.Stmt.Assign [PySem.Expr.Attribute (PySem.Expr.Name (PySem.Str.ofString "self") (PySem.Pos.mk 14 8 14 12)) (PySem.Str.ofString "benches") (PySem.Pos.mk 14 8 14 20)] (PySem.Expr.ListComp (PySem.Expr.Subscript (PySem.Expr.Name (PySem.Str.ofString "row") (PySem.Pos.mk 14 24 14 27)) (PySem.Expr.Constant (PySem.Const.int 1) 0 (PySem.Pos.mk 14 28 14 29)) (PySem.Pos.mk 14 24 14 30)) [PySem.Comprehension.mk (PySem.Expr.Name (PySem.Str.ofString "row") (PySem.Pos.mk 14 35 14 38)) (PySem.Expr.Name (PySem.Str.ofString "book") (PySem.Pos.mk 14 42 14 46)) [PySem.Expr.Compare (PySem.Expr.Subscript (PySem.Expr.Name (PySem.Str.ofString "row") (PySem.Pos.mk 14 50 14 53)) (PySem.Expr.Constant (PySem.Const.int 0) 0 (PySem.Pos.mk 14 54 14 55)) (PySem.Pos.mk 14 50 14 56)) [PySem.CmpOp.Eq] [PySem.Expr.Constant (PySem.Const.str (PySem.Str.ofString "bench")) 0 (PySem.Pos.mk 14 60 14 67)] (PySem.Pos.mk 14 50 14 67)] 0] (PySem.Scope.mk PySem.ScopeKind.function [(PySem.Str.ofString ".0", PySem.NameKind.local), (PySem.Str.ofString "row", PySem.NameKind.local)] Bool.false Bool.false []) (PySem.Pos.mk 14 23 14 68)) (PySem.Pos.mk 14 8 14 68), PySem.Stmt.Assign [PySem.Expr.Attribute (PySem.Expr.Name (PySem.Str.ofString "self") (PySem.Pos.mk 15 8 15 12)) (PySem.Str.ofString "shuts") (PySem.Pos.mk 15 8 15 18)] (PySem.Expr.ListComp (PySem.Expr.Call (PySem.Expr.Name (PySem.Str.ofString "tuple") (PySem.Pos.mk 15 22 15 27)) [PySem.Expr.Subscript (PySem.Expr.Name (PySem.Str.ofString "row") (PySem.Pos.mk 15 28 15 31)) (PySem.Expr.Slice (Option.some (PySem.Expr.Constant (PySem.Const.int 1) 0 (PySem.Pos.mk 15 32 15 33))) Option.none Option.none (PySem.Pos.mk 15 32 15 34)) (PySem.Pos.mk 15 28 15 35)] [] (PySem.Pos.mk 15 22 15 36)) [PySem.Comprehension.mk (PySem.Expr.Name (PySem.Str.ofString "row") (PySem.Pos.mk 15 41 15 44)) (PySem.Expr.Name (PySem.Str.ofString "book") (PySem.Pos.mk 15 48 15 52)) [PySem.Expr.Compare (PySem.Expr.Subscript (PySem.Expr.Name (PySem.Str.ofString "row") (PySem.Pos.mk 15 56 15 59)) (PySem.Expr.Constant (PySem.Const.int 0) 0 (PySem.Pos.mk 15 60 15 61)) (PySem.Pos.mk 15 56 15 62)) [PySem.CmpOp.Eq] [PySem.Expr.Constant (PySem.Const.str (PySem.Str.ofString "shut")) 0 (PySem.Pos.mk 15 66 15 72)] (PySem.Pos.mk 15 56 15 72)] 0] (PySem.Scope.mk PySem.ScopeKind.function [(PySem.Str.ofString ".0", PySem.NameKind.local), (PySem.Str.ofString "row", PySem.NameKind.local), (PySem.Str.ofString "tuple", PySem.NameKind.globalImplicit)] Bool.false Bool.false []) (PySem.Pos.mk 15 21 15 73)) (PySem.Pos.mk 15 8 15 73), PySem.Stmt.Assign [PySem.Expr.Attribute (PySem.Expr.Name (PySem.Str.ofString "self") (PySem.Pos.mk 16 8 16 12)) (PySem.Str.ofString "stores") (PySem.Pos.mk 16 8 16 19)] (PySem.Expr.ListComp (PySem.Expr.Call (PySem.Expr.Name (PySem.Str.ofString "tuple") (PySem.Pos.mk 16 23 16 28)) [PySem.Expr.Subscript (PySem.Expr.Name (PySem.Str.ofString "row") (PySem.Pos.mk 16 29 16 32)) (PySem.Expr.Slice (Option.some (PySem.Expr.Constant (PySem.Const.int 1) 0 (PySem.Pos.mk 16 33 16 34))) Option.none Option.none (PySem.Pos.mk 16 33 16 35)) (PySem.Pos.mk 16 29 16 36)] [] (PySem.Pos.mk 16 23 16 37)) [PySem.Comprehension.mk (PySem.Expr.Name (PySem.Str.ofString "row") (PySem.Pos.mk 16 42 16 45)) (PySem.Expr.Name (PySem.Str.ofString "book") (PySem.Pos.mk 16 49 16 53)) [PySem.Expr.Compare (PySem.Expr.Subscript (PySem.Expr.Name (PySem.Str.ofString "row") (PySem.Pos.mk 16 57 16 60)) (PySem.Expr.Constant (PySem.Const.int 0) 0 (PySem.Pos.mk 16 61 16 62)) (PySem.Pos.mk 16 57 16 63)) [PySem.CmpOp.Eq] [PySem.Expr.Constant (PySem.Const.str (PySem.Str.ofString "store")) 0 (PySem.Pos.mk 16 67 16 74)] (PySem.Pos.mk 16 57 16 74)] 0] (PySem.Scope.mk PySem.ScopeKind.function [(PySem.Str.ofString ".0", PySem.NameKind.local), (PySem.Str.ofString "row", PySem.NameKind.local), (PySem.Str.ofString "tuple", PySem.NameKind.globalImplicit)] Bool.false Bool.false []) (PySem.Pos.mk 16 22 16 75)) (PySem.Pos.mk 16 8 16 75), PySem.Stmt.Assign [PySem.Expr.Attribute (PySem.Expr.Name (PySem.Str.ofString "self") (PySem.Pos.mk 17 8 17 12)) (PySem.Str.ofString "afters") (PySem.Pos.mk 17 8 17 19)] (PySem.Expr.ListComp (PySem.Expr.Call (PySem.Expr.Name (PySem.Str.ofString "tuple") (PySem.Pos.mk 17 23 17 28)) [PySem.Expr.Subscript (PySem.Expr.Name (PySem.Str.ofString "row") (PySem.Pos.mk 17 29 17 32)) (PySem.Expr.Slice (Option.some (PySem.Expr.Constant (PySem.Const.int 1) 0 (PySem.Pos.mk 17 33 17 34))) Option.none Option.none (PySem.Pos.mk 17 33 17 35)) (PySem.Pos.mk 17 29 17 36)] [] (PySem.Pos.mk 17 23 17 37)) [PySem.Comprehension.mk (PySem.Expr.Name (PySem.Str.ofString "row") (PySem.Pos.mk 17 42 17 45)) (PySem.Expr.Name (PySem.Str.ofString "book") (PySem.Pos.mk 17 49 17 53)) [PySem.Expr.Compare (PySem.Expr.Subscript (PySem.Expr.Name (PySem.Str.ofString "row") (PySem.Pos.mk 17 57 17 60)) (PySem.Expr.Constant (PySem.Const.int 0) 0 (PySem.Pos.mk 17 61 17 62)) (PySem.Pos.mk 17 57 17 63)) [PySem.CmpOp.Eq] [PySem.Expr.Constant (PySem.Const.str (PySem.Str.ofString "after")) 0 (PySem.Pos.mk 17 67 17 74)] (PySem.Pos.mk 17 57 17 74)] 0] (PySem.Scope.mk PySem.ScopeKind.function [(PySem.Str.ofString ".0", PySem.NameKind.local), (PySem.Str.ofString "row", PySem.NameKind.local), (PySem.Str.ofString "tuple", PySem.NameKind.globalImplicit)] Bool.false Bool.false []) (PySem.Pos.mk 17 22 17 75)) (PySem.Pos.mk 17 8 17 75), PySem.Stmt.Assign [PySem.Expr.Attribute (PySem.Expr.Name (PySem.Str.ofString "self") (PySem.Pos.mk 18 8 18 12)) (PySem.Str.ofString "said") (PySem.Pos.mk 18 8 18 17)] (PySem.Expr.Call (PySem.Expr.Name (PySem.Str.ofString "dict") (PySem.Pos.mk 18 20 18 24)) [PySem.Expr.ListComp (PySem.Expr.Tuple [PySem.Expr.Call (PySem.Expr.Name (PySem.Str.ofString "said_by") (PySem.Pos.mk 18 27 18 34)) [PySem.Expr.Name (PySem.Str.ofString "row") (PySem.Pos.mk 18 35 18 38)] [] (PySem.Pos.mk 18 27 18 39), PySem.Expr.Call (PySem.Expr.Name (PySem.Str.ofString "tuple") (PySem.Pos.mk 18 41 18 46)) [PySem.Expr.Subscript (PySem.Expr.Name (PySem.Str.ofString "row") (PySem.Pos.mk 18 47 18 50)) (PySem.Expr.Slice (Option.some (PySem.Expr.Call (PySem.Expr.Name (PySem.Str.ofString "len") (PySem.Pos.mk 18 51 18 54)) [PySem.Expr.Call (PySem.Expr.Name (PySem.Str.ofString "said_by") (PySem.Pos.mk 18 55 18 62)) [PySem.Expr.Name (PySem.Str.ofString "row") (PySem.Pos.mk 18 63 18 66)] [] (PySem.Pos.mk 18 55 18 67)] [] (PySem.Pos.mk 18 51 18 68))) Option.none Option.none (PySem.Pos.mk 18 51 18 69)) (PySem.Pos.mk 18 47 18 70)] [] (PySem.Pos.mk 18 41 18 71)] 0 (PySem.Pos.mk 18 26 18 72)) [PySem.Comprehension.mk (PySem.Expr.Name (PySem.Str.ofString "row") (PySem.Pos.mk 18 77 18 80)) (PySem.Expr.Name (PySem.Str.ofString "book") (PySem.Pos.mk 18 84 18 88)) [] 0] (PySem.Scope.mk PySem.ScopeKind.function [(PySem.Str.ofString ".0", PySem.NameKind.local), (PySem.Str.ofString "row", PySem.NameKind.local), (PySem.Str.ofString "said_by", PySem.NameKind.globalImplicit), (PySem.Str.ofString "tuple", PySem.NameKind.globalImplicit), (PySem.Str.ofString "len", PySem.NameKind.globalImplicit)] Bool.false Bool.false []) (PySem.Pos.mk 18 25 18 89)] [] (PySem.Pos.mk 18 20 18 90)) (PySem.Pos.mk 18 8 18 90)]) (PySem.Scope.mk PySem.ScopeKind.function [(PySem.Str.ofString "self", PySem.NameKind.local), (PySem.Str.ofString "book", PySem.NameKind.local), (PySem.Str.ofString "dict", PySem.NameKind.globalImplicit)] Bool.false Bool.false [(PySem.Str.ofString "fast", PySem.Const.str (PySem.Str.ofString "self")), (PySem.Str.ofString "fast", PySem.Const.str (PySem.Str.ofString "book")), (PySem.Str.ofString "fast", PySem.Const.str (PySem.Str.ofString "row"))]) 3 [] PySem.Value.none PySem.Value.none PySem.Value.none (PySem.Value.str (PySem.Str.ofString "nonebetter.facts") 237) Option.none (PySem.Value.ref 40) PySem.Value.none 0)) #[] else
  bif Nat.beq i 42 then PySem.Obj.mk (PySem.Value.type "tuple") Option.none (PySem.Data.seq #[]) #[] else
  bif Nat.beq i 44 then PySem.Obj.mk (PySem.Value.type "tuple") Option.none (PySem.Data.seq #[PySem.Value.str (PySem.Str.ofString "self") 260, PySem.Value.str (PySem.Str.ofString "work") 261, PySem.Value.str (PySem.Str.ofString "way") 262]) #[] else
  bif Nat.beq i 45 then PySem.Obj.mk (PySem.Value.type "tuple") Option.none (PySem.Data.seq #[]) #[] else
  PySem.Obj.mk (PySem.Value.type "code") Option.none (PySem.Data.fields #[PySem.Value.str (PySem.Str.ofString "is_way") 257, PySem.Value.str (PySem.Str.ofString "Facts.is_way") 258, PySem.Value.str (PySem.Str.ofString "/claim/cut.py") 259, PySem.Value.int 20 0, PySem.Value.int 3 0, PySem.Value.int 0 0, PySem.Value.int 0 0, PySem.Value.int 3 0, PySem.Value.ref 42, PySem.Value.bool Bool.true, PySem.Value.int 181 0, PySem.Value.ref 43, PySem.Value.none, PySem.Value.ref 44, PySem.Value.ref 45, PySem.Value.ref 46, PySem.Value.int 263 0, PySem.Value.int 20 0, PySem.Value.str (PySem.Str.ofString "/claim/cut.py") 264]) #[]
noncomputable def hob4 (i : Nat) (P : PySem.Params) : PySem.Obj :=
  bif Nat.beq i 48 then PySem.Obj.mk (PySem.Value.type "function") Option.none (PySem.Data.func (PySem.FuncData.mk (PySem.Str.ofString "is_way") (PySem.Str.ofString "Facts.is_way") (PySem.Arguments.mk [] [PySem.Arg.mk (PySem.Str.ofString "self") Option.none (PySem.Pos.mk 20 15 20 19), PySem.Arg.mk (PySem.Str.ofString "work") Option.none (PySem.Pos.mk 20 21 20 25), PySem.Arg.mk (PySem.Str.ofString "way") Option.none (PySem.Pos.mk 20 27 20 30)] Option.none [] [] Option.none []) (PySem.FuncBody.stmts [PySem.Stmt.Expr (PySem.Expr.Call (PySem.Expr.Name (PySem.Str.ofString "_wall") (PySem.Pos.mk 21 8 21 13)) [PySem.Expr.Constant (PySem.Const.int 0) 0 (PySem.Pos.mk 21 14 21 15)] [] (PySem.Pos.mk 21 8 21 16)) (PySem.Pos.mk 21 8 21 16)]) (PySem.Scope.mk PySem.ScopeKind.function [(PySem.Str.ofString "self", PySem.NameKind.local), (PySem.Str.ofString "work", PySem.NameKind.local), (PySem.Str.ofString "way", PySem.NameKind.local), (PySem.Str.ofString "_wall", PySem.NameKind.globalImplicit)] Bool.false Bool.false []) 3 [] PySem.Value.none PySem.Value.none PySem.Value.none (PySem.Value.str (PySem.Str.ofString "nonebetter.facts") 237) Option.none (PySem.Value.ref 47) PySem.Value.none 0)) #[] else
  bif Nat.beq i 49 then PySem.Obj.mk (PySem.Value.type "tuple") Option.none (PySem.Data.seq #[]) #[] else
  bif Nat.beq i 51 then PySem.Obj.mk (PySem.Value.type "tuple") Option.none (PySem.Data.seq #[PySem.Value.str (PySem.Str.ofString "self") 269, PySem.Value.str (PySem.Str.ofString "work") 270, PySem.Value.str (PySem.Str.ofString "way") 271]) #[] else
  bif Nat.beq i 52 then PySem.Obj.mk (PySem.Value.type "tuple") Option.none (PySem.Data.seq #[]) #[] else
  PySem.Obj.mk (PySem.Value.type "code") Option.none (PySem.Data.fields #[PySem.Value.str (PySem.Str.ofString "last_begin") 266, PySem.Value.str (PySem.Str.ofString "Facts.last_begin") 267, PySem.Value.str (PySem.Str.ofString "/claim/cut.py") 268, PySem.Value.int 23 0, PySem.Value.int 3 0, PySem.Value.int 0 0, PySem.Value.int 0 0, PySem.Value.int 3 0, PySem.Value.ref 49, PySem.Value.bool Bool.true, PySem.Value.int 181 0, PySem.Value.ref 50, PySem.Value.none, PySem.Value.ref 51, PySem.Value.ref 52, PySem.Value.ref 53, PySem.Value.int 272 0, PySem.Value.int 23 0, PySem.Value.str (PySem.Str.ofString "/claim/cut.py") 273]) #[]
noncomputable def hob5 (i : Nat) (P : PySem.Params) : PySem.Obj :=
  bif Nat.beq i 55 then PySem.Obj.mk (PySem.Value.type "function") Option.none (PySem.Data.func (PySem.FuncData.mk (PySem.Str.ofString "last_begin") (PySem.Str.ofString "Facts.last_begin") (PySem.Arguments.mk [] [PySem.Arg.mk (PySem.Str.ofString "self") Option.none (PySem.Pos.mk 23 19 23 23), PySem.Arg.mk (PySem.Str.ofString "work") Option.none (PySem.Pos.mk 23 25 23 29), PySem.Arg.mk (PySem.Str.ofString "way") Option.none (PySem.Pos.mk 23 31 23 34)] Option.none [] [] Option.none []) (PySem.FuncBody.stmts [PySem.Stmt.Expr (PySem.Expr.Call (PySem.Expr.Name (PySem.Str.ofString "_wall") (PySem.Pos.mk 24 8 24 13)) [PySem.Expr.Constant (PySem.Const.int 1) 0 (PySem.Pos.mk 24 14 24 15)] [] (PySem.Pos.mk 24 8 24 16)) (PySem.Pos.mk 24 8 24 16)]) (PySem.Scope.mk PySem.ScopeKind.function [(PySem.Str.ofString "self", PySem.NameKind.local), (PySem.Str.ofString "work", PySem.NameKind.local), (PySem.Str.ofString "way", PySem.NameKind.local), (PySem.Str.ofString "_wall", PySem.NameKind.globalImplicit)] Bool.false Bool.false []) 3 [] PySem.Value.none PySem.Value.none PySem.Value.none (PySem.Value.str (PySem.Str.ofString "nonebetter.facts") 237) Option.none (PySem.Value.ref 54) PySem.Value.none 0)) #[] else
  bif Nat.beq i 56 then PySem.Obj.mk (PySem.Value.type "tuple") Option.none (PySem.Data.seq #[]) #[] else
  bif Nat.beq i 58 then PySem.Obj.mk (PySem.Value.type "tuple") Option.none (PySem.Data.seq #[PySem.Value.str (PySem.Str.ofString "self") 278]) #[] else
  bif Nat.beq i 59 then PySem.Obj.mk (PySem.Value.type "tuple") Option.none (PySem.Data.seq #[]) #[] else
  PySem.Obj.mk (PySem.Value.type "code") Option.none (PySem.Data.fields #[PySem.Value.str (PySem.Str.ofString "all_choices") 275, PySem.Value.str (PySem.Str.ofString "Facts.all_choices") 276, PySem.Value.str (PySem.Str.ofString "/claim/cut.py") 277, PySem.Value.int 26 0, PySem.Value.int 1 0, PySem.Value.int 0 0, PySem.Value.int 0 0, PySem.Value.int 3 0, PySem.Value.ref 56, PySem.Value.bool Bool.true, PySem.Value.int 181 0, PySem.Value.ref 57, PySem.Value.none, PySem.Value.ref 58, PySem.Value.ref 59, PySem.Value.ref 60, PySem.Value.int 279 0, PySem.Value.int 26 0, PySem.Value.str (PySem.Str.ofString "/claim/cut.py") 280]) #[]
noncomputable def hob6 (i : Nat) (P : PySem.Params) : PySem.Obj :=
  bif Nat.beq i 62 then PySem.Obj.mk (PySem.Value.type "function") Option.none (PySem.Data.func (PySem.FuncData.mk (PySem.Str.ofString "all_choices") (PySem.Str.ofString "Facts.all_choices") (PySem.Arguments.mk [] [PySem.Arg.mk (PySem.Str.ofString "self") Option.none (PySem.Pos.mk 26 20 26 24)] Option.none [] [] Option.none []) (PySem.FuncBody.stmts [PySem.Stmt.Expr (PySem.Expr.Call (PySem.Expr.Name (PySem.Str.ofString "_wall") (PySem.Pos.mk 27 8 27 13)) [PySem.Expr.Constant (PySem.Const.int 2) 0 (PySem.Pos.mk 27 14 27 15)] [] (PySem.Pos.mk 27 8 27 16)) (PySem.Pos.mk 27 8 27 16)]) (PySem.Scope.mk PySem.ScopeKind.function [(PySem.Str.ofString "self", PySem.NameKind.local), (PySem.Str.ofString "_wall", PySem.NameKind.globalImplicit)] Bool.false Bool.false []) 3 [] PySem.Value.none PySem.Value.none PySem.Value.none (PySem.Value.str (PySem.Str.ofString "nonebetter.facts") 237) Option.none (PySem.Value.ref 61) PySem.Value.none 0)) #[] else
  bif Nat.beq i 63 then PySem.Obj.mk (PySem.Value.type "tuple") Option.none (PySem.Data.seq #[]) #[] else
  bif Nat.beq i 65 then PySem.Obj.mk (PySem.Value.type "tuple") Option.none (PySem.Data.seq #[PySem.Value.str (PySem.Str.ofString "self") 285, PySem.Value.str (PySem.Str.ofString "choice") 286]) #[] else
  bif Nat.beq i 66 then PySem.Obj.mk (PySem.Value.type "tuple") Option.none (PySem.Data.seq #[]) #[] else
  PySem.Obj.mk (PySem.Value.type "code") Option.none (PySem.Data.fields #[PySem.Value.str (PySem.Str.ofString "end_of") 282, PySem.Value.str (PySem.Str.ofString "Facts.end_of") 283, PySem.Value.str (PySem.Str.ofString "/claim/cut.py") 284, PySem.Value.int 29 0, PySem.Value.int 2 0, PySem.Value.int 0 0, PySem.Value.int 0 0, PySem.Value.int 3 0, PySem.Value.ref 63, PySem.Value.bool Bool.true, PySem.Value.int 181 0, PySem.Value.ref 64, PySem.Value.none, PySem.Value.ref 65, PySem.Value.ref 66, PySem.Value.ref 67, PySem.Value.int 287 0, PySem.Value.int 29 0, PySem.Value.str (PySem.Str.ofString "/claim/cut.py") 288]) #[]
noncomputable def hob7 (i : Nat) (P : PySem.Params) : PySem.Obj :=
  bif Nat.beq i 69 then PySem.Obj.mk (PySem.Value.type "function") Option.none (PySem.Data.func (PySem.FuncData.mk (PySem.Str.ofString "end_of") (PySem.Str.ofString "Facts.end_of") (PySem.Arguments.mk [] [PySem.Arg.mk (PySem.Str.ofString "self") Option.none (PySem.Pos.mk 29 15 29 19), PySem.Arg.mk (PySem.Str.ofString "choice") Option.none (PySem.Pos.mk 29 21 29 27)] Option.none [] [] Option.none []) (PySem.FuncBody.stmts [PySem.Stmt.Return (Option.some (PySem.Expr.BinOp (PySem.Expr.Subscript (PySem.Expr.Name (PySem.Str.ofString "choice") (PySem.Pos.mk 30 15 30 21)) (PySem.Expr.Constant (PySem.Const.int 2) 0 (PySem.Pos.mk 30 22 30 23)) (PySem.Pos.mk 30 15 30 24)) PySem.Operator.Add (PySem.Expr.Subscript (PySem.Expr.Subscript (PySem.Expr.Attribute (PySem.Expr.Name (PySem.Str.ofString "self") (PySem.Pos.mk 30 27 30 31)) (PySem.Str.ofString "said") (PySem.Pos.mk 30 27 30 36)) (PySem.Expr.BinOp (PySem.Expr.Tuple [PySem.Expr.Constant (PySem.Const.str (PySem.Str.ofString "way")) 0 (PySem.Pos.mk 30 38 30 43)] 0 (PySem.Pos.mk 30 37 30 45)) PySem.Operator.Add (PySem.Expr.Subscript (PySem.Expr.Name (PySem.Str.ofString "choice") (PySem.Pos.mk 30 48 30 54)) (PySem.Expr.Slice Option.none (Option.some (PySem.Expr.Constant (PySem.Const.int 2) 0 (PySem.Pos.mk 30 56 30 57))) Option.none (PySem.Pos.mk 30 55 30 57)) (PySem.Pos.mk 30 48 30 58)) (PySem.Pos.mk 30 37 30 58)) (PySem.Pos.mk 30 27 30 59)) (PySem.Expr.Constant (PySem.Const.int 0) 0 (PySem.Pos.mk 30 60 30 61)) (PySem.Pos.mk 30 27 30 62)) (PySem.Pos.mk 30 15 30 62))) (PySem.Pos.mk 30 8 30 62)]) (PySem.Scope.mk PySem.ScopeKind.function [(PySem.Str.ofString "self", PySem.NameKind.local), (PySem.Str.ofString "choice", PySem.NameKind.local)] Bool.false Bool.false []) 3 [] PySem.Value.none PySem.Value.none PySem.Value.none (PySem.Value.str (PySem.Str.ofString "nonebetter.facts") 237) Option.none (PySem.Value.ref 68) PySem.Value.none 0)) #[] else
  bif Nat.beq i 70 then PySem.Obj.mk (PySem.Value.type "tuple") Option.none (PySem.Data.seq #[]) #[] else
  bif Nat.beq i 72 then PySem.Obj.mk (PySem.Value.type "tuple") Option.none (PySem.Data.seq #[PySem.Value.str (PySem.Str.ofString "self") 293, PySem.Value.str (PySem.Str.ofString "choice") 294, PySem.Value.str (PySem.Str.ofString "late") 295]) #[] else
  bif Nat.beq i 73 then PySem.Obj.mk (PySem.Value.type "tuple") Option.none (PySem.Data.seq #[]) #[] else
  PySem.Obj.mk (PySem.Value.type "code") Option.none (PySem.Data.fields #[PySem.Value.str (PySem.Str.ofString "price_of") 290, PySem.Value.str (PySem.Str.ofString "Facts.price_of") 291, PySem.Value.str (PySem.Str.ofString "/claim/cut.py") 292, PySem.Value.int 32 0, PySem.Value.int 2 0, PySem.Value.int 0 0, PySem.Value.int 0 0, PySem.Value.int 3 0, PySem.Value.ref 70, PySem.Value.bool Bool.true, PySem.Value.int 181 0, PySem.Value.ref 71, PySem.Value.none, PySem.Value.ref 72, PySem.Value.ref 73, PySem.Value.ref 74, PySem.Value.int 296 0, PySem.Value.int 32 0, PySem.Value.str (PySem.Str.ofString "/claim/cut.py") 297]) #[]
noncomputable def hob8 (i : Nat) (P : PySem.Params) : PySem.Obj :=
  bif Nat.beq i 76 then PySem.Obj.mk (PySem.Value.type "function") Option.none (PySem.Data.func (PySem.FuncData.mk (PySem.Str.ofString "price_of") (PySem.Str.ofString "Facts.price_of") (PySem.Arguments.mk [] [PySem.Arg.mk (PySem.Str.ofString "self") Option.none (PySem.Pos.mk 32 17 32 21), PySem.Arg.mk (PySem.Str.ofString "choice") Option.none (PySem.Pos.mk 32 23 32 29)] Option.none [] [] Option.none []) (PySem.FuncBody.stmts [PySem.Stmt.Assign [PySem.Expr.Name (PySem.Str.ofString "late") (PySem.Pos.mk 33 8 33 12)] (PySem.Expr.Call (PySem.Expr.Attribute (PySem.Expr.Attribute (PySem.Expr.Name (PySem.Str.ofString "self") (PySem.Pos.mk 33 15 33 19)) (PySem.Str.ofString "said") (PySem.Pos.mk 33 15 33 24)) (PySem.Str.ofString "get") (PySem.Pos.mk 33 15 33 28)) [PySem.Expr.Tuple [PySem.Expr.Constant (PySem.Const.str (PySem.Str.ofString "late")) 0 (PySem.Pos.mk 33 30 33 36), PySem.Expr.Subscript (PySem.Expr.Name (PySem.Str.ofString "choice") (PySem.Pos.mk 33 38 33 44)) (PySem.Expr.Constant (PySem.Const.int 0) 0 (PySem.Pos.mk 33 45 33 46)) (PySem.Pos.mk 33 38 33 47)] 0 (PySem.Pos.mk 33 29 33 48), PySem.Expr.Tuple [PySem.Expr.Constant (PySem.Const.int 0) 0 (PySem.Pos.mk 33 51 33 52), PySem.Expr.Constant (PySem.Const.int 0) 0 (PySem.Pos.mk 33 54 33 55)] 0 (PySem.Pos.mk 33 50 33 56)] [] (PySem.Pos.mk 33 15 33 57)) (PySem.Pos.mk 33 8 33 57), PySem.Stmt.Return (Option.some (PySem.Expr.BinOp (PySem.Expr.Subscript (PySem.Expr.Subscript (PySem.Expr.Attribute (PySem.Expr.Name (PySem.Str.ofString "self") (PySem.Pos.mk 34 15 34 19)) (PySem.Str.ofString "said") (PySem.Pos.mk 34 15 34 24)) (PySem.Expr.BinOp (PySem.Expr.Tuple [PySem.Expr.Constant (PySem.Const.str (PySem.Str.ofString "way")) 0 (PySem.Pos.mk 34 26 34 31)] 0 (PySem.Pos.mk 34 25 34 33)) PySem.Operator.Add (PySem.Expr.Subscript (PySem.Expr.Name (PySem.Str.ofString "choice") (PySem.Pos.mk 34 36 34 42)) (PySem.Expr.Slice Option.none (Option.some (PySem.Expr.Constant (PySem.Const.int 2) 0 (PySem.Pos.mk 34 44 34 45))) Option.none (PySem.Pos.mk 34 43 34 45)) (PySem.Pos.mk 34 36 34 46)) (PySem.Pos.mk 34 25 34 46)) (PySem.Pos.mk 34 15 34 47)) (PySem.Expr.Constant (PySem.Const.int 1) 0 (PySem.Pos.mk 34 48 34 49)) (PySem.Pos.mk 34 15 34 50)) PySem.Operator.Add (PySem.Expr.BinOp (PySem.Expr.Call (PySem.Expr.Name (PySem.Str.ofString "max") (PySem.Pos.mk 34 53 34 56)) [PySem.Expr.Constant (PySem.Const.int 0) 0 (PySem.Pos.mk 34 57 34 58), PySem.Expr.BinOp (PySem.Expr.Call (PySem.Expr.Attribute (PySem.Expr.Name (PySem.Str.ofString "self") (PySem.Pos.mk 34 60 34 64)) (PySem.Str.ofString "end_of") (PySem.Pos.mk 34 60 34 71)) [PySem.Expr.Name (PySem.Str.ofString "choice") (PySem.Pos.mk 34 72 34 78)] [] (PySem.Pos.mk 34 60 34 79)) PySem.Operator.Sub (PySem.Expr.Subscript (PySem.Expr.Name (PySem.Str.ofString "late") (PySem.Pos.mk 34 82 34 86)) (PySem.Expr.Constant (PySem.Const.int 0) 0 (PySem.Pos.mk 34 87 34 88)) (PySem.Pos.mk 34 82 34 89)) (PySem.Pos.mk 34 60 34 89)] [] (PySem.Pos.mk 34 53 34 90)) PySem.Operator.Mult (PySem.Expr.Subscript (PySem.Expr.Name (PySem.Str.ofString "late") (PySem.Pos.mk 34 93 34 97)) (PySem.Expr.Constant (PySem.Const.int 1) 0 (PySem.Pos.mk 34 98 34 99)) (PySem.Pos.mk 34 93 34 100)) (PySem.Pos.mk 34 53 34 100)) (PySem.Pos.mk 34 15 34 100))) (PySem.Pos.mk 34 8 34 100)]) (PySem.Scope.mk PySem.ScopeKind.function [(PySem.Str.ofString "self", PySem.NameKind.local), (PySem.Str.ofString "choice", PySem.NameKind.local), (PySem.Str.ofString "late", PySem.NameKind.local), (PySem.Str.ofString "max", PySem.NameKind.globalImplicit)] Bool.false Bool.false []) 3 [] PySem.Value.none PySem.Value.none PySem.Value.none (PySem.Value.str (PySem.Str.ofString "nonebetter.facts") 237) Option.none (PySem.Value.ref 75) PySem.Value.none 0)) #[] else
  bif Nat.beq i 77 then PySem.Obj.mk (PySem.Value.type "tuple") Option.none (PySem.Data.seq #[]) #[] else
  bif Nat.beq i 79 then PySem.Obj.mk (PySem.Value.type "tuple") Option.none (PySem.Data.seq #[PySem.Value.str (PySem.Str.ofString "self") 302, PySem.Value.str (PySem.Str.ofString "word") 303, PySem.Value.str (PySem.Str.ofString "choice") 304, PySem.Value.str (PySem.Str.ofString "name") 305]) #[] else
  bif Nat.beq i 80 then PySem.Obj.mk (PySem.Value.type "tuple") Option.none (PySem.Data.seq #[]) #[] else
  PySem.Obj.mk (PySem.Value.type "code") Option.none (PySem.Data.fields #[PySem.Value.str (PySem.Str.ofString "many") 299, PySem.Value.str (PySem.Str.ofString "Facts.many") 300, PySem.Value.str (PySem.Str.ofString "/claim/cut.py") 301, PySem.Value.int 36 0, PySem.Value.int 4 0, PySem.Value.int 0 0, PySem.Value.int 0 0, PySem.Value.int 3 0, PySem.Value.ref 77, PySem.Value.bool Bool.true, PySem.Value.int 181 0, PySem.Value.ref 78, PySem.Value.none, PySem.Value.ref 79, PySem.Value.ref 80, PySem.Value.ref 81, PySem.Value.int 306 0, PySem.Value.int 36 0, PySem.Value.str (PySem.Str.ofString "/claim/cut.py") 307]) #[]
noncomputable def hob9 (i : Nat) (P : PySem.Params) : PySem.Obj :=
  bif Nat.beq i 83 then PySem.Obj.mk (PySem.Value.type "function") Option.none (PySem.Data.func (PySem.FuncData.mk (PySem.Str.ofString "many") (PySem.Str.ofString "Facts.many") (PySem.Arguments.mk [] [PySem.Arg.mk (PySem.Str.ofString "self") Option.none (PySem.Pos.mk 36 13 36 17), PySem.Arg.mk (PySem.Str.ofString "word") Option.none (PySem.Pos.mk 36 19 36 23), PySem.Arg.mk (PySem.Str.ofString "choice") Option.none (PySem.Pos.mk 36 25 36 31), PySem.Arg.mk (PySem.Str.ofString "name") Option.none (PySem.Pos.mk 36 33 36 37)] Option.none [] [] Option.none []) (PySem.FuncBody.stmts [PySem.Stmt.Expr (PySem.Expr.Call (PySem.Expr.Name (PySem.Str.ofString "_wall") (PySem.Pos.mk 37 8 37 13)) [PySem.Expr.Constant (PySem.Const.int 3) 0 (PySem.Pos.mk 37 14 37 15)] [] (PySem.Pos.mk 37 8 37 16)) (PySem.Pos.mk 37 8 37 16)]) (PySem.Scope.mk PySem.ScopeKind.function [(PySem.Str.ofString "self", PySem.NameKind.local), (PySem.Str.ofString "word", PySem.NameKind.local), (PySem.Str.ofString "choice", PySem.NameKind.local), (PySem.Str.ofString "name", PySem.NameKind.local), (PySem.Str.ofString "_wall", PySem.NameKind.globalImplicit)] Bool.false Bool.false []) 3 [] PySem.Value.none PySem.Value.none PySem.Value.none (PySem.Value.str (PySem.Str.ofString "nonebetter.facts") 237) Option.none (PySem.Value.ref 82) PySem.Value.none 0)) #[] else
  bif Nat.beq i 84 then PySem.Obj.mk (PySem.Value.type "tuple") Option.none (PySem.Data.seq #[]) #[] else
  bif Nat.beq i 86 then PySem.Obj.mk (PySem.Value.type "tuple") Option.none (PySem.Data.seq #[PySem.Value.str (PySem.Str.ofString "self") 312, PySem.Value.str (PySem.Str.ofString "choice") 313, PySem.Value.str (PySem.Str.ofString "bench") 314, PySem.Value.str (PySem.Str.ofString "day") 315]) #[] else
  bif Nat.beq i 87 then PySem.Obj.mk (PySem.Value.type "tuple") Option.none (PySem.Data.seq #[]) #[] else
  PySem.Obj.mk (PySem.Value.type "code") Option.none (PySem.Data.fields #[PySem.Value.str (PySem.Str.ofString "used_by") 309, PySem.Value.str (PySem.Str.ofString "Facts.used_by") 310, PySem.Value.str (PySem.Str.ofString "/claim/cut.py") 311, PySem.Value.int 39 0, PySem.Value.int 4 0, PySem.Value.int 0 0, PySem.Value.int 0 0, PySem.Value.int 3 0, PySem.Value.ref 84, PySem.Value.bool Bool.true, PySem.Value.int 181 0, PySem.Value.ref 85, PySem.Value.none, PySem.Value.ref 86, PySem.Value.ref 87, PySem.Value.ref 88, PySem.Value.int 316 0, PySem.Value.int 39 0, PySem.Value.str (PySem.Str.ofString "/claim/cut.py") 317]) #[]
noncomputable def hob10 (i : Nat) (P : PySem.Params) : PySem.Obj :=
  bif Nat.beq i 90 then PySem.Obj.mk (PySem.Value.type "function") Option.none (PySem.Data.func (PySem.FuncData.mk (PySem.Str.ofString "used_by") (PySem.Str.ofString "Facts.used_by") (PySem.Arguments.mk [] [PySem.Arg.mk (PySem.Str.ofString "self") Option.none (PySem.Pos.mk 39 16 39 20), PySem.Arg.mk (PySem.Str.ofString "choice") Option.none (PySem.Pos.mk 39 22 39 28), PySem.Arg.mk (PySem.Str.ofString "bench") Option.none (PySem.Pos.mk 39 30 39 35), PySem.Arg.mk (PySem.Str.ofString "day") Option.none (PySem.Pos.mk 39 37 39 40)] Option.none [] [] Option.none []) (PySem.FuncBody.stmts [PySem.Stmt.Expr (PySem.Expr.Call (PySem.Expr.Name (PySem.Str.ofString "_wall") (PySem.Pos.mk 40 8 40 13)) [PySem.Expr.Constant (PySem.Const.int 4) 0 (PySem.Pos.mk 40 14 40 15)] [] (PySem.Pos.mk 40 8 40 16)) (PySem.Pos.mk 40 8 40 16)]) (PySem.Scope.mk PySem.ScopeKind.function [(PySem.Str.ofString "self", PySem.NameKind.local), (PySem.Str.ofString "choice", PySem.NameKind.local), (PySem.Str.ofString "bench", PySem.NameKind.local), (PySem.Str.ofString "day", PySem.NameKind.local), (PySem.Str.ofString "_wall", PySem.NameKind.globalImplicit)] Bool.false Bool.false []) 3 [] PySem.Value.none PySem.Value.none PySem.Value.none (PySem.Value.str (PySem.Str.ofString "nonebetter.facts") 237) Option.none (PySem.Value.ref 89) PySem.Value.none 0)) #[] else
  bif Nat.beq i 91 then PySem.Obj.mk (PySem.Value.type "tuple") Option.none (PySem.Data.seq #[]) #[] else
  bif Nat.beq i 93 then PySem.Obj.mk (PySem.Value.type "tuple") Option.none (PySem.Data.seq #[PySem.Value.str (PySem.Str.ofString "self") 322, PySem.Value.str (PySem.Str.ofString "choice") 323, PySem.Value.str (PySem.Str.ofString "store") 324, PySem.Value.str (PySem.Str.ofString "day") 325]) #[] else
  bif Nat.beq i 94 then PySem.Obj.mk (PySem.Value.type "tuple") Option.none (PySem.Data.seq #[]) #[] else
  PySem.Obj.mk (PySem.Value.type "code") Option.none (PySem.Data.fields #[PySem.Value.str (PySem.Str.ofString "gain_by") 319, PySem.Value.str (PySem.Str.ofString "Facts.gain_by") 320, PySem.Value.str (PySem.Str.ofString "/claim/cut.py") 321, PySem.Value.int 42 0, PySem.Value.int 4 0, PySem.Value.int 0 0, PySem.Value.int 0 0, PySem.Value.int 3 0, PySem.Value.ref 91, PySem.Value.bool Bool.true, PySem.Value.int 181 0, PySem.Value.ref 92, PySem.Value.none, PySem.Value.ref 93, PySem.Value.ref 94, PySem.Value.ref 95, PySem.Value.int 326 0, PySem.Value.int 42 0, PySem.Value.str (PySem.Str.ofString "/claim/cut.py") 327]) #[]
noncomputable def hob11 (i : Nat) (P : PySem.Params) : PySem.Obj :=
  bif Nat.beq i 97 then PySem.Obj.mk (PySem.Value.type "function") Option.none (PySem.Data.func (PySem.FuncData.mk (PySem.Str.ofString "gain_by") (PySem.Str.ofString "Facts.gain_by") (PySem.Arguments.mk [] [PySem.Arg.mk (PySem.Str.ofString "self") Option.none (PySem.Pos.mk 42 16 42 20), PySem.Arg.mk (PySem.Str.ofString "choice") Option.none (PySem.Pos.mk 42 22 42 28), PySem.Arg.mk (PySem.Str.ofString "store") Option.none (PySem.Pos.mk 42 30 42 35), PySem.Arg.mk (PySem.Str.ofString "day") Option.none (PySem.Pos.mk 42 37 42 40)] Option.none [] [] Option.none []) (PySem.FuncBody.stmts [PySem.Stmt.Expr (PySem.Expr.Call (PySem.Expr.Name (PySem.Str.ofString "_wall") (PySem.Pos.mk 43 8 43 13)) [PySem.Expr.Constant (PySem.Const.int 5) 0 (PySem.Pos.mk 43 14 43 15)] [] (PySem.Pos.mk 43 8 43 16)) (PySem.Pos.mk 43 8 43 16)]) (PySem.Scope.mk PySem.ScopeKind.function [(PySem.Str.ofString "self", PySem.NameKind.local), (PySem.Str.ofString "choice", PySem.NameKind.local), (PySem.Str.ofString "store", PySem.NameKind.local), (PySem.Str.ofString "day", PySem.NameKind.local), (PySem.Str.ofString "_wall", PySem.NameKind.globalImplicit)] Bool.false Bool.false []) 3 [] PySem.Value.none PySem.Value.none PySem.Value.none (PySem.Value.str (PySem.Str.ofString "nonebetter.facts") 237) Option.none (PySem.Value.ref 96) PySem.Value.none 0)) #[] else
  bif Nat.beq i 98 then PySem.Obj.mk (PySem.Value.type "tuple") Option.none (PySem.Data.seq #[]) #[] else
  bif Nat.beq i 100 then PySem.Obj.mk (PySem.Value.type "tuple") Option.none (PySem.Data.seq #[PySem.Value.str (PySem.Str.ofString "self") 332, PySem.Value.str (PySem.Str.ofString "bench") 333, PySem.Value.str (PySem.Str.ofString "day") 334]) #[] else
  bif Nat.beq i 101 then PySem.Obj.mk (PySem.Value.type "tuple") Option.none (PySem.Data.seq #[]) #[] else
  PySem.Obj.mk (PySem.Value.type "code") Option.none (PySem.Data.fields #[PySem.Value.str (PySem.Str.ofString "room_of") 329, PySem.Value.str (PySem.Str.ofString "Facts.room_of") 330, PySem.Value.str (PySem.Str.ofString "/claim/cut.py") 331, PySem.Value.int 45 0, PySem.Value.int 3 0, PySem.Value.int 0 0, PySem.Value.int 0 0, PySem.Value.int 3 0, PySem.Value.ref 98, PySem.Value.bool Bool.true, PySem.Value.int 181 0, PySem.Value.ref 99, PySem.Value.none, PySem.Value.ref 100, PySem.Value.ref 101, PySem.Value.ref 102, PySem.Value.int 335 0, PySem.Value.int 45 0, PySem.Value.str (PySem.Str.ofString "/claim/cut.py") 336]) #[]
noncomputable def hob12 (i : Nat) (P : PySem.Params) : PySem.Obj :=
  bif Nat.beq i 104 then PySem.Obj.mk (PySem.Value.type "function") Option.none (PySem.Data.func (PySem.FuncData.mk (PySem.Str.ofString "room_of") (PySem.Str.ofString "Facts.room_of") (PySem.Arguments.mk [] [PySem.Arg.mk (PySem.Str.ofString "self") Option.none (PySem.Pos.mk 45 16 45 20), PySem.Arg.mk (PySem.Str.ofString "bench") Option.none (PySem.Pos.mk 45 22 45 27), PySem.Arg.mk (PySem.Str.ofString "day") Option.none (PySem.Pos.mk 45 29 45 32)] Option.none [] [] Option.none []) (PySem.FuncBody.stmts [PySem.Stmt.Expr (PySem.Expr.Call (PySem.Expr.Name (PySem.Str.ofString "_wall") (PySem.Pos.mk 46 8 46 13)) [PySem.Expr.Constant (PySem.Const.int 6) 0 (PySem.Pos.mk 46 14 46 15)] [] (PySem.Pos.mk 46 8 46 16)) (PySem.Pos.mk 46 8 46 16)]) (PySem.Scope.mk PySem.ScopeKind.function [(PySem.Str.ofString "self", PySem.NameKind.local), (PySem.Str.ofString "bench", PySem.NameKind.local), (PySem.Str.ofString "day", PySem.NameKind.local), (PySem.Str.ofString "_wall", PySem.NameKind.globalImplicit)] Bool.false Bool.false []) 3 [] PySem.Value.none PySem.Value.none PySem.Value.none (PySem.Value.str (PySem.Str.ofString "nonebetter.facts") 237) Option.none (PySem.Value.ref 103) PySem.Value.none 0)) #[] else
  bif Nat.beq i 105 then PySem.Obj.mk (PySem.Value.type "tuple") Option.none (PySem.Data.seq #[PySem.Value.str (PySem.Str.ofString "afters") 338, PySem.Value.str (PySem.Str.ofString "benches") 339, PySem.Value.str (PySem.Str.ofString "days") 340, PySem.Value.str (PySem.Str.ofString "said") 341, PySem.Value.str (PySem.Str.ofString "shuts") 342, PySem.Value.str (PySem.Str.ofString "stores") 343, PySem.Value.str (PySem.Str.ofString "works") 344]) #[] else
  bif Nat.beq i 106 then PySem.Obj.mk (PySem.Value.type "dict") Option.none (PySem.Data.dict #[PySem.DictEntry.mk (PySem.PyData.keyHash P (PySem.Str.ofString "__module__")) (PySem.Value.str (PySem.Str.ofString "__module__") 246) (PySem.Value.str (PySem.Str.ofString "nonebetter.facts") 237), PySem.DictEntry.mk (PySem.PyData.keyHash P (PySem.Str.ofString "__firstlineno__")) (PySem.Value.str (PySem.Str.ofString "__firstlineno__") 250) (PySem.Value.int 9 249), PySem.DictEntry.mk (PySem.PyData.keyHash P (PySem.Str.ofString "__init__")) (PySem.Value.str (PySem.Str.ofString "__init__") 256) (PySem.Value.ref 41), PySem.DictEntry.mk (PySem.PyData.keyHash P (PySem.Str.ofString "is_way")) (PySem.Value.str (PySem.Str.ofString "is_way") 265) (PySem.Value.ref 48), PySem.DictEntry.mk (PySem.PyData.keyHash P (PySem.Str.ofString "last_begin")) (PySem.Value.str (PySem.Str.ofString "last_begin") 274) (PySem.Value.ref 55), PySem.DictEntry.mk (PySem.PyData.keyHash P (PySem.Str.ofString "all_choices")) (PySem.Value.str (PySem.Str.ofString "all_choices") 281) (PySem.Value.ref 62), PySem.DictEntry.mk (PySem.PyData.keyHash P (PySem.Str.ofString "end_of")) (PySem.Value.str (PySem.Str.ofString "end_of") 289) (PySem.Value.ref 69), PySem.DictEntry.mk (PySem.PyData.keyHash P (PySem.Str.ofString "price_of")) (PySem.Value.str (PySem.Str.ofString "price_of") 298) (PySem.Value.ref 76), PySem.DictEntry.mk (PySem.PyData.keyHash P (PySem.Str.ofString "many")) (PySem.Value.str (PySem.Str.ofString "many") 308) (PySem.Value.ref 83), PySem.DictEntry.mk (PySem.PyData.keyHash P (PySem.Str.ofString "used_by")) (PySem.Value.str (PySem.Str.ofString "used_by") 318) (PySem.Value.ref 90), PySem.DictEntry.mk (PySem.PyData.keyHash P (PySem.Str.ofString "gain_by")) (PySem.Value.str (PySem.Str.ofString "gain_by") 328) (PySem.Value.ref 97), PySem.DictEntry.mk (PySem.PyData.keyHash P (PySem.Str.ofString "room_of")) (PySem.Value.str (PySem.Str.ofString "room_of") 337) (PySem.Value.ref 104), PySem.DictEntry.mk (PySem.PyData.keyHash P (PySem.Str.ofString "__static_attributes__")) (PySem.Value.str (PySem.Str.ofString "__static_attributes__") 345) (PySem.Value.ref 105), PySem.DictEntry.mk (PySem.PyData.keyHash P (PySem.Str.ofString "__dict__")) (PySem.Value.str (PySem.Str.ofString "__dict__") 347) (PySem.Value.ref 108), PySem.DictEntry.mk (PySem.PyData.keyHash P (PySem.Str.ofString "__weakref__")) (PySem.Value.str (PySem.Str.ofString "__weakref__") 349) (PySem.Value.ref 109), PySem.DictEntry.mk (PySem.PyData.keyHash P (PySem.Str.ofString "__doc__")) (PySem.Value.str (PySem.Str.ofString "__doc__") 350) PySem.Value.none] 4) #[] else
  bif Nat.beq i 107 then PySem.Obj.mk (PySem.Value.type "type") Option.none (PySem.Data.cls (PySem.ClassData.mk (PySem.Str.ofString "Facts") [PySem.Value.type "object"] [PySem.Value.ref 107, PySem.Value.type "object"] 106 (PySem.Str.ofString "Facts") Bool.true [] [] Bool.false Option.none Bool.false)) #[Option.none, Option.none, Option.some (PySem.Value.str (PySem.Str.ofString "Facts") 239), Option.some (PySem.Value.str (PySem.Str.ofString "Facts") 247), Option.some (PySem.Value.builtin "object.__new__"), Option.some (PySem.Value.bool Bool.true)] else
  PySem.Obj.mk (PySem.Value.type "getset_descriptor") Option.none (PySem.Data.fields #[PySem.Value.str (PySem.Str.ofString "__dict__") 346, PySem.Value.ref 107, PySem.Value.builtin "function.__dict__", PySem.Value.builtin "function.__dict__#set"]) #[]
noncomputable def hob13 (i : Nat) (P : PySem.Params) : PySem.Obj :=
  bif Nat.beq i 109 then PySem.Obj.mk (PySem.Value.type "getset_descriptor") Option.none (PySem.Data.fields #[PySem.Value.str (PySem.Str.ofString "__weakref__") 348, PySem.Value.ref 107, PySem.Value.builtin "ExceptionGroup.__weakref__", PySem.Value.none]) #[] else
  bif Nat.beq i 112 then PySem.Obj.mk (PySem.Value.type "tuple") Option.none (PySem.Data.seq #[]) #[] else
  bif Nat.beq i 115 then PySem.Obj.mk (PySem.Value.type "code") Option.none (PySem.Data.fields #[PySem.Value.str (PySem.Str.ofString "choices_taken") 355, PySem.Value.str (PySem.Str.ofString "choices_taken") 356, PySem.Value.str (PySem.Str.ofString "/claim/cut.py") 357, PySem.Value.int 48 0, PySem.Value.int 2 0, PySem.Value.int 0 0, PySem.Value.int 0 0, PySem.Value.int 3 0, PySem.Value.ref 112, PySem.Value.bool Bool.true, PySem.Value.int 181 0, PySem.Value.ref 113, PySem.Value.none, PySem.Value.none, PySem.Value.none, PySem.Value.ref 114, PySem.Value.int 358 0, PySem.Value.int 48 0, PySem.Value.str (PySem.Str.ofString "/claim/cut.py") 359]) #[] else
  bif Nat.beq i 116 then PySem.Obj.mk (PySem.Value.type "function") (Option.none) (PySem.Data.func (PySem.FuncData.mk (PySem.Str.ofString "choices_taken") (PySem.Str.ofString "choices_taken") (L2.defArgs (htop 7)) (PySem.FuncBody.stmts (L2.defBody (htop 7))) (L2.defScope (htop 7)) (3) ([]) (PySem.Value.none) (PySem.Value.none) (PySem.Value.none) (PySem.Value.str (PySem.Str.ofString "nonebetter.plans") 353) (Option.none) (PySem.Value.ref 115) (PySem.Value.none) (0))) (#[]) else
  PySem.Obj.mk (PySem.Value.type "tuple") Option.none (PySem.Data.seq #[]) #[]
noncomputable def hob14 (i : Nat) (P : PySem.Params) : PySem.Obj :=
  bif Nat.beq i 120 then PySem.Obj.mk (PySem.Value.type "code") Option.none (PySem.Data.fields #[PySem.Value.str (PySem.Str.ofString "cost_of_plan") 361, PySem.Value.str (PySem.Str.ofString "cost_of_plan") 362, PySem.Value.str (PySem.Str.ofString "/claim/cut.py") 363, PySem.Value.int 50 0, PySem.Value.int 2 0, PySem.Value.int 0 0, PySem.Value.int 0 0, PySem.Value.int 3 0, PySem.Value.ref 117, PySem.Value.bool Bool.true, PySem.Value.int 181 0, PySem.Value.ref 118, PySem.Value.none, PySem.Value.none, PySem.Value.none, PySem.Value.ref 119, PySem.Value.int 364 0, PySem.Value.int 50 0, PySem.Value.str (PySem.Str.ofString "/claim/cut.py") 365]) #[] else
  bif Nat.beq i 121 then PySem.Obj.mk (PySem.Value.type "function") (Option.none) (PySem.Data.func (PySem.FuncData.mk (PySem.Str.ofString "cost_of_plan") (PySem.Str.ofString "cost_of_plan") (L2.defArgs (htop 8)) (PySem.FuncBody.stmts (L2.defBody (htop 8))) (L2.defScope (htop 8)) (3) ([]) (PySem.Value.none) (PySem.Value.none) (PySem.Value.none) (PySem.Value.str (PySem.Str.ofString "nonebetter.plans") 353) (Option.none) (PySem.Value.ref 120) (PySem.Value.none) (0))) (#[]) else
  bif Nat.beq i 129 then PySem.Obj.mk (PySem.Value.type "tuple") Option.none (PySem.Data.seq #[]) #[] else
  bif Nat.beq i 131 then PySem.Obj.mk (PySem.Value.type "tuple") Option.none (PySem.Data.seq #[PySem.Value.str (PySem.Str.ofString "_law_found") 380]) #[] else
  PySem.Obj.mk (PySem.Value.type "tuple") Option.none (PySem.Data.seq #[]) #[]
noncomputable def hob15 (i : Nat) (P : PySem.Params) : PySem.Obj :=
  bif Nat.beq i 134 then PySem.Obj.mk (PySem.Value.type "code") Option.none (PySem.Data.fields #[PySem.Value.str (PySem.Str.ofString "_law_whole") 377, PySem.Value.str (PySem.Str.ofString "_law_whole") 378, PySem.Value.str (PySem.Str.ofString "/claim/cut.py") 379, PySem.Value.int 58 0, PySem.Value.int 1 0, PySem.Value.int 0 0, PySem.Value.int 0 0, PySem.Value.int 3 0, PySem.Value.ref 129, PySem.Value.bool Bool.true, PySem.Value.int 181 0, PySem.Value.ref 130, PySem.Value.none, PySem.Value.ref 131, PySem.Value.ref 132, PySem.Value.ref 133, PySem.Value.int 381 0, PySem.Value.int 58 0, PySem.Value.str (PySem.Str.ofString "/claim/cut.py") 382]) #[] else
  bif Nat.beq i 135 then PySem.Obj.mk (PySem.Value.type "function") (Option.none) (PySem.Data.func (PySem.FuncData.mk (PySem.Str.ofString "_law_whole") (PySem.Str.ofString "_law_whole") (L2.defArgs (htop 11)) (PySem.FuncBody.stmts (L2.defBody (htop 11))) (L2.defScope (htop 11)) (3) ([]) (PySem.Value.none) (PySem.Value.none) (PySem.Value.none) (PySem.Value.str (PySem.Str.ofString "law_nonebetter_k60_costs_of_plans") 367) (Option.none) (PySem.Value.ref 134) (PySem.Value.none) (0))) (#[]) else
  bif Nat.beq i 136 then PySem.Obj.mk (PySem.Value.type "tuple") Option.none (PySem.Data.seq #[]) #[] else
  bif Nat.beq i 138 then PySem.Obj.mk (PySem.Value.type "tuple") Option.none (PySem.Data.seq #[PySem.Value.str (PySem.Str.ofString "_law_script") 387, PySem.Value.str (PySem.Str.ofString "_law_k") 388, PySem.Value.str (PySem.Str.ofString "_law_cell") 389, PySem.Value.str (PySem.Str.ofString "_law_j") 390]) #[] else
  PySem.Obj.mk (PySem.Value.type "tuple") Option.none (PySem.Data.seq #[]) #[]
noncomputable def hob16 (i : Nat) (P : PySem.Params) : PySem.Obj :=
  bif Nat.beq i 141 then PySem.Obj.mk (PySem.Value.type "code") Option.none (PySem.Data.fields #[PySem.Value.str (PySem.Str.ofString "_law_block") 384, PySem.Value.str (PySem.Str.ofString "_law_block") 385, PySem.Value.str (PySem.Str.ofString "/claim/cut.py") 386, PySem.Value.int 60 0, PySem.Value.int 2 0, PySem.Value.int 0 0, PySem.Value.int 0 0, PySem.Value.int 3 0, PySem.Value.ref 136, PySem.Value.bool Bool.true, PySem.Value.int 181 0, PySem.Value.ref 137, PySem.Value.none, PySem.Value.ref 138, PySem.Value.ref 139, PySem.Value.ref 140, PySem.Value.int 391 0, PySem.Value.int 60 0, PySem.Value.str (PySem.Str.ofString "/claim/cut.py") 392]) #[] else
  bif Nat.beq i 142 then PySem.Obj.mk (PySem.Value.type "function") (Option.none) (PySem.Data.func (PySem.FuncData.mk (PySem.Str.ofString "_law_block") (PySem.Str.ofString "_law_block") (L2.defArgs (htop 12)) (PySem.FuncBody.stmts (L2.defBody (htop 12))) (L2.defScope (htop 12)) (3) ([]) (PySem.Value.none) (PySem.Value.none) (PySem.Value.none) (PySem.Value.str (PySem.Str.ofString "law_nonebetter_k60_costs_of_plans") 367) (Option.none) (PySem.Value.ref 141) (PySem.Value.none) (0))) (#[]) else
  bif Nat.beq i 143 then PySem.Obj.mk (PySem.Value.type "tuple") Option.none (PySem.Data.seq #[]) #[] else
  bif Nat.beq i 145 then PySem.Obj.mk (PySem.Value.type "tuple") Option.none (PySem.Data.seq #[PySem.Value.str (PySem.Str.ofString "_law_script") 397, PySem.Value.str (PySem.Str.ofString "_law_k") 398, PySem.Value.str (PySem.Str.ofString "_law_cell") 399, PySem.Value.str (PySem.Str.ofString "_law_number") 400]) #[] else
  PySem.Obj.mk (PySem.Value.type "tuple") Option.none (PySem.Data.seq #[]) #[]
noncomputable def hob17 (i : Nat) (P : PySem.Params) : PySem.Obj :=
  bif Nat.beq i 148 then PySem.Obj.mk (PySem.Value.type "code") Option.none (PySem.Data.fields #[PySem.Value.str (PySem.Str.ofString "_law_mixed") 394, PySem.Value.str (PySem.Str.ofString "_law_mixed") 395, PySem.Value.str (PySem.Str.ofString "/claim/cut.py") 396, PySem.Value.int 67 0, PySem.Value.int 2 0, PySem.Value.int 0 0, PySem.Value.int 0 0, PySem.Value.int 3 0, PySem.Value.ref 143, PySem.Value.bool Bool.true, PySem.Value.int 181 0, PySem.Value.ref 144, PySem.Value.none, PySem.Value.ref 145, PySem.Value.ref 146, PySem.Value.ref 147, PySem.Value.int 401 0, PySem.Value.int 67 0, PySem.Value.str (PySem.Str.ofString "/claim/cut.py") 402]) #[] else
  bif Nat.beq i 149 then PySem.Obj.mk (PySem.Value.type "function") (Option.none) (PySem.Data.func (PySem.FuncData.mk (PySem.Str.ofString "_law_mixed") (PySem.Str.ofString "_law_mixed") (L2.defArgs (htop 13)) (PySem.FuncBody.stmts (L2.defBody (htop 13))) (L2.defScope (htop 13)) (3) ([]) (PySem.Value.none) (PySem.Value.none) (PySem.Value.none) (PySem.Value.str (PySem.Str.ofString "law_nonebetter_k60_costs_of_plans") 367) (Option.none) (PySem.Value.ref 148) (PySem.Value.none) (0))) (#[]) else
  bif Nat.beq i 150 then PySem.Obj.mk (PySem.Value.type "tuple") Option.none (PySem.Data.seq #[]) #[] else
  bif Nat.beq i 152 then PySem.Obj.mk (PySem.Value.type "tuple") Option.none (PySem.Data.seq #[PySem.Value.str (PySem.Str.ofString "_law_script") 407, PySem.Value.str (PySem.Str.ofString "_law_k") 408, PySem.Value.str (PySem.Str.ofString "_law_first") 409, PySem.Value.str (PySem.Str.ofString "_law_number") 410, PySem.Value.str (PySem.Str.ofString "_law_found") 411, PySem.Value.str (PySem.Str.ofString "_law_j") 412]) #[] else
  PySem.Obj.mk (PySem.Value.type "tuple") Option.none (PySem.Data.seq #[]) #[]
noncomputable def hob18 (i : Nat) (P : PySem.Params) : PySem.Obj :=
  bif Nat.beq i 155 then PySem.Obj.mk (PySem.Value.type "code") Option.none (PySem.Data.fields #[PySem.Value.str (PySem.Str.ofString "_law_name") 404, PySem.Value.str (PySem.Str.ofString "_law_name") 405, PySem.Value.str (PySem.Str.ofString "/claim/cut.py") 406, PySem.Value.int 78 0, PySem.Value.int 3 0, PySem.Value.int 0 0, PySem.Value.int 0 0, PySem.Value.int 3 0, PySem.Value.ref 150, PySem.Value.bool Bool.true, PySem.Value.int 181 0, PySem.Value.ref 151, PySem.Value.none, PySem.Value.ref 152, PySem.Value.ref 153, PySem.Value.ref 154, PySem.Value.int 413 0, PySem.Value.int 78 0, PySem.Value.str (PySem.Str.ofString "/claim/cut.py") 414]) #[] else
  bif Nat.beq i 156 then PySem.Obj.mk (PySem.Value.type "function") (Option.none) (PySem.Data.func (PySem.FuncData.mk (PySem.Str.ofString "_law_name") (PySem.Str.ofString "_law_name") (L2.defArgs (htop 14)) (PySem.FuncBody.stmts (L2.defBody (htop 14))) (L2.defScope (htop 14)) (3) ([]) (PySem.Value.none) (PySem.Value.none) (PySem.Value.none) (PySem.Value.str (PySem.Str.ofString "law_nonebetter_k60_costs_of_plans") 367) (Option.none) (PySem.Value.ref 155) (PySem.Value.none) (0))) (#[]) else
  bif Nat.beq i 157 then PySem.Obj.mk (PySem.Value.type "tuple") Option.none (PySem.Data.seq #[]) #[] else
  bif Nat.beq i 159 then PySem.Obj.mk (PySem.Value.type "tuple") Option.none (PySem.Data.seq #[PySem.Value.str (PySem.Str.ofString "_law_script") 419, PySem.Value.str (PySem.Str.ofString "_law_days") 420, PySem.Value.str (PySem.Str.ofString "_law_found") 421, PySem.Value.str (PySem.Str.ofString "_law_number") 422, PySem.Value.str (PySem.Str.ofString "_law_k") 423, PySem.Value.str (PySem.Str.ofString "_law_bench") 424, PySem.Value.str (PySem.Str.ofString "_law_more") 425, PySem.Value.str (PySem.Str.ofString "_law_j") 426, PySem.Value.str (PySem.Str.ofString "_law_end") 427, PySem.Value.str (PySem.Str.ofString "_law_most") 428]) #[] else
  PySem.Obj.mk (PySem.Value.type "tuple") Option.none (PySem.Data.seq #[]) #[]
noncomputable def hob19 (i : Nat) (P : PySem.Params) : PySem.Obj :=
  bif Nat.beq i 162 then PySem.Obj.mk (PySem.Value.type "code") Option.none (PySem.Data.fields #[PySem.Value.str (PySem.Str.ofString "_law_things") 416, PySem.Value.str (PySem.Str.ofString "_law_things") 417, PySem.Value.str (PySem.Str.ofString "/claim/cut.py") 418, PySem.Value.int 85 0, PySem.Value.int 2 0, PySem.Value.int 0 0, PySem.Value.int 0 0, PySem.Value.int 3 0, PySem.Value.ref 157, PySem.Value.bool Bool.true, PySem.Value.int 181 0, PySem.Value.ref 158, PySem.Value.none, PySem.Value.ref 159, PySem.Value.ref 160, PySem.Value.ref 161, PySem.Value.int 429 0, PySem.Value.int 85 0, PySem.Value.str (PySem.Str.ofString "/claim/cut.py") 430]) #[] else
  bif Nat.beq i 163 then PySem.Obj.mk (PySem.Value.type "function") (Option.none) (PySem.Data.func (PySem.FuncData.mk (PySem.Str.ofString "_law_things") (PySem.Str.ofString "_law_things") (L2.defArgs (htop 15)) (PySem.FuncBody.stmts (L2.defBody (htop 15))) (L2.defScope (htop 15)) (3) ([]) (PySem.Value.none) (PySem.Value.none) (PySem.Value.none) (PySem.Value.str (PySem.Str.ofString "law_nonebetter_k60_costs_of_plans") 367) (Option.none) (PySem.Value.ref 162) (PySem.Value.none) (0))) (#[]) else
  bif Nat.beq i 164 then PySem.Obj.mk (PySem.Value.type "tuple") Option.none (PySem.Data.seq #[]) #[] else
  bif Nat.beq i 166 then PySem.Obj.mk (PySem.Value.type "tuple") Option.none (PySem.Data.seq #[PySem.Value.str (PySem.Str.ofString "_law_script") 435, PySem.Value.str (PySem.Str.ofString "_law_start") 436, PySem.Value.str (PySem.Str.ofString "_law_days") 437, PySem.Value.str (PySem.Str.ofString "_law_work") 438, PySem.Value.str (PySem.Str.ofString "_law_way_here") 439, PySem.Value.str (PySem.Str.ofString "_law_things_here") 440, PySem.Value.str (PySem.Str.ofString "_law_number") 441, PySem.Value.str (PySem.Str.ofString "_law_length_here") 442, PySem.Value.str (PySem.Str.ofString "_law_found") 443, PySem.Value.str (PySem.Str.ofString "_law_thing") 444, PySem.Value.str (PySem.Str.ofString "_law_many_here") 445]) #[] else
  PySem.Obj.mk (PySem.Value.type "tuple") Option.none (PySem.Data.seq #[]) #[]
noncomputable def hob20 (i : Nat) (P : PySem.Params) : PySem.Obj :=
  bif Nat.beq i 169 then PySem.Obj.mk (PySem.Value.type "code") Option.none (PySem.Data.fields #[PySem.Value.str (PySem.Str.ofString "_law_way") 432, PySem.Value.str (PySem.Str.ofString "_law_way") 433, PySem.Value.str (PySem.Str.ofString "/claim/cut.py") 434, PySem.Value.int 100 0, PySem.Value.int 6 0, PySem.Value.int 0 0, PySem.Value.int 0 0, PySem.Value.int 3 0, PySem.Value.ref 164, PySem.Value.bool Bool.true, PySem.Value.int 181 0, PySem.Value.ref 165, PySem.Value.none, PySem.Value.ref 166, PySem.Value.ref 167, PySem.Value.ref 168, PySem.Value.int 446 0, PySem.Value.int 100 0, PySem.Value.str (PySem.Str.ofString "/claim/cut.py") 447]) #[] else
  bif Nat.beq i 170 then PySem.Obj.mk (PySem.Value.type "function") (Option.none) (PySem.Data.func (PySem.FuncData.mk (PySem.Str.ofString "_law_way") (PySem.Str.ofString "_law_way") (L2.defArgs (htop 16)) (PySem.FuncBody.stmts (L2.defBody (htop 16))) (L2.defScope (htop 16)) (3) ([]) (PySem.Value.none) (PySem.Value.none) (PySem.Value.none) (PySem.Value.str (PySem.Str.ofString "law_nonebetter_k60_costs_of_plans") 367) (Option.none) (PySem.Value.ref 169) (PySem.Value.none) (0))) (#[]) else
  bif Nat.beq i 171 then PySem.Obj.mk (PySem.Value.type "tuple") Option.none (PySem.Data.seq #[]) #[] else
  bif Nat.beq i 173 then PySem.Obj.mk (PySem.Value.type "tuple") Option.none (PySem.Data.seq #[PySem.Value.str (PySem.Str.ofString "_law_script") 452, PySem.Value.str (PySem.Str.ofString "_law_days") 453, PySem.Value.str (PySem.Str.ofString "_law_things_here") 454, PySem.Value.str (PySem.Str.ofString "_law_found") 455, PySem.Value.str (PySem.Str.ofString "_law_names") 456, PySem.Value.str (PySem.Str.ofString "_law_many_here") 457, PySem.Value.str (PySem.Str.ofString "_law_k") 458, PySem.Value.str (PySem.Str.ofString "_law_work") 459, PySem.Value.str (PySem.Str.ofString "_law_number") 460, PySem.Value.str (PySem.Str.ofString "_law_j") 461, PySem.Value.str (PySem.Str.ofString "_law_rows") 462, PySem.Value.str (PySem.Str.ofString "_law_pair") 463]) #[] else
  PySem.Obj.mk (PySem.Value.type "tuple") Option.none (PySem.Data.seq #[]) #[]
noncomputable def hob21 (i : Nat) (P : PySem.Params) : PySem.Obj :=
  bif Nat.beq i 176 then PySem.Obj.mk (PySem.Value.type "code") Option.none (PySem.Data.fields #[PySem.Value.str (PySem.Str.ofString "_law_works") 449, PySem.Value.str (PySem.Str.ofString "_law_works") 450, PySem.Value.str (PySem.Str.ofString "/claim/cut.py") 451, PySem.Value.int 114 0, PySem.Value.int 3 0, PySem.Value.int 0 0, PySem.Value.int 0 0, PySem.Value.int 3 0, PySem.Value.ref 171, PySem.Value.bool Bool.true, PySem.Value.int 181 0, PySem.Value.ref 172, PySem.Value.none, PySem.Value.ref 173, PySem.Value.ref 174, PySem.Value.ref 175, PySem.Value.int 464 0, PySem.Value.int 114 0, PySem.Value.str (PySem.Str.ofString "/claim/cut.py") 465]) #[] else
  bif Nat.beq i 177 then PySem.Obj.mk (PySem.Value.type "function") (Option.none) (PySem.Data.func (PySem.FuncData.mk (PySem.Str.ofString "_law_works") (PySem.Str.ofString "_law_works") (L2.defArgs (htop 17)) (PySem.FuncBody.stmts (L2.defBody (htop 17))) (L2.defScope (htop 17)) (3) ([]) (PySem.Value.none) (PySem.Value.none) (PySem.Value.none) (PySem.Value.str (PySem.Str.ofString "law_nonebetter_k60_costs_of_plans") 367) (Option.none) (PySem.Value.ref 176) (PySem.Value.none) (0))) (#[]) else
  bif Nat.beq i 178 then PySem.Obj.mk (PySem.Value.type "tuple") Option.none (PySem.Data.seq #[]) #[] else
  bif Nat.beq i 180 then PySem.Obj.mk (PySem.Value.type "tuple") Option.none (PySem.Data.seq #[PySem.Value.str (PySem.Str.ofString "_law_rows") 470, PySem.Value.str (PySem.Str.ofString "_law_row") 471, PySem.Value.str (PySem.Str.ofString "_law_number") 472, PySem.Value.str (PySem.Str.ofString "_law_least") 473, PySem.Value.str (PySem.Str.ofString "_law_k") 474, PySem.Value.str (PySem.Str.ofString "_law_at") 475]) #[] else
  PySem.Obj.mk (PySem.Value.type "tuple") Option.none (PySem.Data.seq #[]) #[]
noncomputable def hob22 (i : Nat) (P : PySem.Params) : PySem.Obj :=
  bif Nat.beq i 183 then PySem.Obj.mk (PySem.Value.type "code") Option.none (PySem.Data.fields #[PySem.Value.str (PySem.Str.ofString "_law_put") 467, PySem.Value.str (PySem.Str.ofString "_law_put") 468, PySem.Value.str (PySem.Str.ofString "/claim/cut.py") 469, PySem.Value.int 136 0, PySem.Value.int 3 0, PySem.Value.int 0 0, PySem.Value.int 0 0, PySem.Value.int 3 0, PySem.Value.ref 178, PySem.Value.bool Bool.true, PySem.Value.int 181 0, PySem.Value.ref 179, PySem.Value.none, PySem.Value.ref 180, PySem.Value.ref 181, PySem.Value.ref 182, PySem.Value.int 476 0, PySem.Value.int 136 0, PySem.Value.str (PySem.Str.ofString "/claim/cut.py") 477]) #[] else
  bif Nat.beq i 184 then PySem.Obj.mk (PySem.Value.type "function") (Option.none) (PySem.Data.func (PySem.FuncData.mk (PySem.Str.ofString "_law_put") (PySem.Str.ofString "_law_put") (L2.defArgs (htop 18)) (PySem.FuncBody.stmts (L2.defBody (htop 18))) (L2.defScope (htop 18)) (3) ([]) (PySem.Value.none) (PySem.Value.none) (PySem.Value.none) (PySem.Value.str (PySem.Str.ofString "law_nonebetter_k60_costs_of_plans") 367) (Option.none) (PySem.Value.ref 183) (PySem.Value.none) (0))) (#[]) else
  bif Nat.beq i 185 then PySem.Obj.mk (PySem.Value.type "tuple") Option.none (PySem.Data.seq #[]) #[] else
  bif Nat.beq i 187 then PySem.Obj.mk (PySem.Value.type "tuple") Option.none (PySem.Data.seq #[PySem.Value.str (PySem.Str.ofString "_law_script") 482, PySem.Value.str (PySem.Str.ofString "_law_days") 483, PySem.Value.str (PySem.Str.ofString "_law_things_here") 484, PySem.Value.str (PySem.Str.ofString "_law_rows") 485, PySem.Value.str (PySem.Str.ofString "_law_mixed_here") 486, PySem.Value.str (PySem.Str.ofString "_law_k") 487, PySem.Value.str (PySem.Str.ofString "_law_row") 488]) #[] else
  PySem.Obj.mk (PySem.Value.type "tuple") Option.none (PySem.Data.seq #[]) #[]
noncomputable def hob23 (i : Nat) (P : PySem.Params) : PySem.Obj :=
  bif Nat.beq i 190 then PySem.Obj.mk (PySem.Value.type "code") Option.none (PySem.Data.fields #[PySem.Value.str (PySem.Str.ofString "_law_book") 479, PySem.Value.str (PySem.Str.ofString "_law_book") 480, PySem.Value.str (PySem.Str.ofString "/claim/cut.py") 481, PySem.Value.int 145 0, PySem.Value.int 1 0, PySem.Value.int 0 0, PySem.Value.int 0 0, PySem.Value.int 3 0, PySem.Value.ref 185, PySem.Value.bool Bool.true, PySem.Value.int 181 0, PySem.Value.ref 186, PySem.Value.none, PySem.Value.ref 187, PySem.Value.ref 188, PySem.Value.ref 189, PySem.Value.int 489 0, PySem.Value.int 145 0, PySem.Value.str (PySem.Str.ofString "/claim/cut.py") 490]) #[] else
  bif Nat.beq i 191 then PySem.Obj.mk (PySem.Value.type "function") (Option.none) (PySem.Data.func (PySem.FuncData.mk (PySem.Str.ofString "_law_book") (PySem.Str.ofString "_law_book") (L2.defArgs (htop 19)) (PySem.FuncBody.stmts (L2.defBody (htop 19))) (L2.defScope (htop 19)) (3) ([]) (PySem.Value.none) (PySem.Value.none) (PySem.Value.none) (PySem.Value.str (PySem.Str.ofString "law_nonebetter_k60_costs_of_plans") 367) (Option.none) (PySem.Value.ref 190) (PySem.Value.none) (0))) (#[]) else
  bif Nat.beq i 192 then PySem.Obj.mk (PySem.Value.type "tuple") Option.none (PySem.Data.seq #[]) #[] else
  bif Nat.beq i 195 then PySem.Obj.mk (PySem.Value.type "code") Option.none (PySem.Data.fields #[PySem.Value.str (PySem.Str.ofString "_law_ways") 492, PySem.Value.str (PySem.Str.ofString "_law_ways") 493, PySem.Value.str (PySem.Str.ofString "/claim/cut.py") 494, PySem.Value.int 156 0, PySem.Value.int 2 0, PySem.Value.int 0 0, PySem.Value.int 0 0, PySem.Value.int 3 0, PySem.Value.ref 192, PySem.Value.bool Bool.true, PySem.Value.int 181 0, PySem.Value.ref 193, PySem.Value.none, PySem.Value.none, PySem.Value.none, PySem.Value.ref 194, PySem.Value.int 495 0, PySem.Value.int 156 0, PySem.Value.str (PySem.Str.ofString "/claim/cut.py") 496]) #[] else
  PySem.Obj.mk (PySem.Value.type "function") (Option.none) (PySem.Data.func (PySem.FuncData.mk (PySem.Str.ofString "_law_ways") (PySem.Str.ofString "_law_ways") (L2.defArgs (htop 20)) (PySem.FuncBody.stmts (L2.defBody (htop 20))) (L2.defScope (htop 20)) (3) ([]) (PySem.Value.none) (PySem.Value.none) (PySem.Value.none) (PySem.Value.str (PySem.Str.ofString "law_nonebetter_k60_costs_of_plans") 367) (Option.none) (PySem.Value.ref 195) (PySem.Value.none) (0))) (#[])
noncomputable def hob24 (i : Nat) (P : PySem.Params) : PySem.Obj :=
  bif Nat.beq i 197 then PySem.Obj.mk (PySem.Value.type "tuple") Option.none (PySem.Data.seq #[]) #[] else
  bif Nat.beq i 200 then PySem.Obj.mk (PySem.Value.type "code") Option.none (PySem.Data.fields #[PySem.Value.str (PySem.Str.ofString "_law_plan") 498, PySem.Value.str (PySem.Str.ofString "_law_plan") 499, PySem.Value.str (PySem.Str.ofString "/claim/cut.py") 500, PySem.Value.int 158 0, PySem.Value.int 3 0, PySem.Value.int 0 0, PySem.Value.int 0 0, PySem.Value.int 3 0, PySem.Value.ref 197, PySem.Value.bool Bool.true, PySem.Value.int 181 0, PySem.Value.ref 198, PySem.Value.none, PySem.Value.none, PySem.Value.none, PySem.Value.ref 199, PySem.Value.int 501 0, PySem.Value.int 158 0, PySem.Value.str (PySem.Str.ofString "/claim/cut.py") 502]) #[] else
  bif Nat.beq i 201 then PySem.Obj.mk (PySem.Value.type "function") (Option.none) (PySem.Data.func (PySem.FuncData.mk (PySem.Str.ofString "_law_plan") (PySem.Str.ofString "_law_plan") (L2.defArgs (htop 21)) (PySem.FuncBody.stmts (L2.defBody (htop 21))) (L2.defScope (htop 21)) (3) ([]) (PySem.Value.none) (PySem.Value.none) (PySem.Value.none) (PySem.Value.str (PySem.Str.ofString "law_nonebetter_k60_costs_of_plans") 367) (Option.none) (PySem.Value.ref 200) (PySem.Value.none) (0))) (#[]) else
  bif Nat.beq i 202 then PySem.Obj.mk (PySem.Value.type "tuple") Option.none (PySem.Data.seq #[]) #[] else
  PySem.Obj.mk (PySem.Value.type "code") Option.none (PySem.Data.fields #[PySem.Value.str (PySem.Str.ofString "_law_length") 504, PySem.Value.str (PySem.Str.ofString "_law_length") 505, PySem.Value.str (PySem.Str.ofString "/claim/cut.py") 506, PySem.Value.int 168 0, PySem.Value.int 3 0, PySem.Value.int 0 0, PySem.Value.int 0 0, PySem.Value.int 3 0, PySem.Value.ref 202, PySem.Value.bool Bool.true, PySem.Value.int 181 0, PySem.Value.ref 203, PySem.Value.none, PySem.Value.none, PySem.Value.none, PySem.Value.ref 204, PySem.Value.int 507 0, PySem.Value.int 168 0, PySem.Value.str (PySem.Str.ofString "/claim/cut.py") 508]) #[]
noncomputable def hob25 (i : Nat) (P : PySem.Params) : PySem.Obj :=
  bif Nat.beq i 206 then PySem.Obj.mk (PySem.Value.type "function") (Option.none) (PySem.Data.func (PySem.FuncData.mk (PySem.Str.ofString "_law_length") (PySem.Str.ofString "_law_length") (L2.defArgs (htop 22)) (PySem.FuncBody.stmts (L2.defBody (htop 22))) (L2.defScope (htop 22)) (3) ([]) (PySem.Value.none) (PySem.Value.none) (PySem.Value.none) (PySem.Value.str (PySem.Str.ofString "law_nonebetter_k60_costs_of_plans") 367) (Option.none) (PySem.Value.ref 205) (PySem.Value.none) (0))) (#[]) else
  bif Nat.beq i 212 then PySem.Obj.mk (PySem.Value.type "tuple") Option.none (PySem.Data.seq #[]) #[] else
  bif Nat.beq i 214 then PySem.Obj.mk (PySem.Value.type "tuple") Option.none (PySem.Data.seq #[PySem.Value.str (PySem.Str.ofString "_law_book_here") 519, PySem.Value.str (PySem.Str.ofString "_law_plan_here") 520, PySem.Value.str (PySem.Str.ofString "_law_total") 521, PySem.Value.str (PySem.Str.ofString "_law_row") 522, PySem.Value.str (PySem.Str.ofString "_law_way_here") 523, PySem.Value.str (PySem.Str.ofString "_law_begin") 524, PySem.Value.str (PySem.Str.ofString "_law_end") 525]) #[] else
  bif Nat.beq i 215 then PySem.Obj.mk (PySem.Value.type "tuple") Option.none (PySem.Data.seq #[]) #[] else
  PySem.Obj.mk (PySem.Value.type "code") Option.none (PySem.Data.fields #[PySem.Value.str (PySem.Str.ofString "_law_cost") 516, PySem.Value.str (PySem.Str.ofString "_law_cost") 517, PySem.Value.str (PySem.Str.ofString "/claim/cut.py") 518, PySem.Value.int 172 0, PySem.Value.int 2 0, PySem.Value.int 0 0, PySem.Value.int 0 0, PySem.Value.int 3 0, PySem.Value.ref 212, PySem.Value.bool Bool.true, PySem.Value.int 181 0, PySem.Value.ref 213, PySem.Value.none, PySem.Value.ref 214, PySem.Value.ref 215, PySem.Value.ref 216, PySem.Value.int 526 0, PySem.Value.int 172 0, PySem.Value.str (PySem.Str.ofString "/claim/cut.py") 527]) #[]
noncomputable def hob26 (i : Nat) (P : PySem.Params) : PySem.Obj :=
  bif Nat.beq i 218 then PySem.Obj.mk (PySem.Value.type "function") (Option.none) (PySem.Data.func (PySem.FuncData.mk (PySem.Str.ofString "_law_cost") (PySem.Str.ofString "_law_cost") (L2.defArgs (htop 24)) (PySem.FuncBody.stmts (L2.defBody (htop 24))) (L2.defScope (htop 24)) (3) ([]) (PySem.Value.none) (PySem.Value.none) (PySem.Value.none) (PySem.Value.str (PySem.Str.ofString "law_nonebetter_k60_costs_of_plans") 367) (Option.none) (PySem.Value.ref 217) (PySem.Value.none) (0))) (#[]) else
  bif Nat.beq i 219 then PySem.Obj.mk (PySem.Value.type "tuple") Option.none (PySem.Data.seq #[]) #[] else
  bif Nat.beq i 222 then PySem.Obj.mk (PySem.Value.type "code") Option.none (PySem.Data.fields #[PySem.Value.str (PySem.Str.ofString "_law_all_done") 529, PySem.Value.str (PySem.Str.ofString "_law_all_done") 530, PySem.Value.str (PySem.Str.ofString "/claim/cut.py") 531, PySem.Value.int 183 0, PySem.Value.int 1 0, PySem.Value.int 0 0, PySem.Value.int 0 0, PySem.Value.int 3 0, PySem.Value.ref 219, PySem.Value.bool Bool.true, PySem.Value.int 181 0, PySem.Value.ref 220, PySem.Value.none, PySem.Value.none, PySem.Value.none, PySem.Value.ref 221, PySem.Value.int 532 0, PySem.Value.int 183 0, PySem.Value.str (PySem.Str.ofString "/claim/cut.py") 533]) #[] else
  bif Nat.beq i 223 then PySem.Obj.mk (PySem.Value.type "function") (Option.none) (PySem.Data.func (PySem.FuncData.mk (PySem.Str.ofString "_law_all_done") (PySem.Str.ofString "_law_all_done") (L2.defArgs (htop 25)) (PySem.FuncBody.stmts (L2.defBody (htop 25))) (L2.defScope (htop 25)) (3) ([]) (PySem.Value.none) (PySem.Value.none) (PySem.Value.none) (PySem.Value.str (PySem.Str.ofString "law_nonebetter_k60_costs_of_plans") 367) (Option.none) (PySem.Value.ref 222) (PySem.Value.none) (0))) (#[]) else
  PySem.Obj.mk (PySem.Value.type "tuple") Option.none (PySem.Data.seq #[]) #[]
noncomputable def hob27 (i : Nat) (P : PySem.Params) : PySem.Obj :=
  bif Nat.beq i 227 then PySem.Obj.mk (PySem.Value.type "code") Option.none (PySem.Data.fields #[PySem.Value.str (PySem.Str.ofString "law") 535, PySem.Value.str (PySem.Str.ofString "law") 536, PySem.Value.str (PySem.Str.ofString "/claim/cut.py") 537, PySem.Value.int 195 0, PySem.Value.int 1 0, PySem.Value.int 0 0, PySem.Value.int 0 0, PySem.Value.int 3 0, PySem.Value.ref 224, PySem.Value.bool Bool.true, PySem.Value.int 181 0, PySem.Value.ref 225, PySem.Value.none, PySem.Value.none, PySem.Value.none, PySem.Value.ref 226, PySem.Value.int 538 0, PySem.Value.int 195 0, PySem.Value.str (PySem.Str.ofString "/claim/cut.py") 539]) #[] else
  PySem.Obj.mk (PySem.Value.type "function") (Option.none) (PySem.Data.func (PySem.FuncData.mk (PySem.Str.ofString "law") (PySem.Str.ofString "law") (L2.defArgs (htop 26)) (PySem.FuncBody.stmts (L2.defBody (htop 26))) (L2.defScope (htop 26)) (3) ([]) (PySem.Value.none) (PySem.Value.none) (PySem.Value.none) (PySem.Value.str (PySem.Str.ofString "law_nonebetter_k60_costs_of_plans") 367) (Option.none) (PySem.Value.ref 227) (PySem.Value.none) (0))) (#[])
noncomputable def hob (i : Nat) (P : PySem.Params) : PySem.Obj := (bif Nat.ble i 117 then (bif Nat.ble i 68 then (bif Nat.ble i 40 then (bif Nat.ble i 18 then hob0 i P else (bif Nat.ble i 25 then hob1 i P else hob2 i P)) else (bif Nat.ble i 54 then (bif Nat.ble i 47 then hob3 i P else hob4 i P) else (bif Nat.ble i 61 then hob5 i P else hob6 i P))) else (bif Nat.ble i 89 then (bif Nat.ble i 75 then hob7 i P else (bif Nat.ble i 82 then hob8 i P else hob9 i P)) else (bif Nat.ble i 103 then (bif Nat.ble i 96 then hob10 i P else hob11 i P) else (bif Nat.ble i 108 then hob12 i P else hob13 i P)))) else (bif Nat.ble i 174 then (bif Nat.ble i 146 then (bif Nat.ble i 132 then hob14 i P else (bif Nat.ble i 139 then hob15 i P else hob16 i P)) else (bif Nat.ble i 160 then (bif Nat.ble i 153 then hob17 i P else hob18 i P) else (bif Nat.ble i 167 then hob19 i P else hob20 i P))) else (bif Nat.ble i 196 then (bif Nat.ble i 181 then hob21 i P else (bif Nat.ble i 188 then hob22 i P else hob23 i P)) else (bif Nat.ble i 217 then (bif Nat.ble i 205 then hob24 i P else hob25 i P) else (bif Nat.ble i 224 then hob26 i P else hob27 i P)))))
noncomputable def heapK : PySem.Params → PySem.W.Frag := fun P => (nat_lit 2, hob (nat_lit 2) P) :: (nat_lit 3, hob (nat_lit 3) P) :: (nat_lit 15, hob (nat_lit 15) P) :: (nat_lit 17, hob (nat_lit 17) P) :: (nat_lit 18, hob (nat_lit 18) P) :: (nat_lit 20, hob (nat_lit 20) P) :: (nat_lit 21, hob (nat_lit 21) P) :: (nat_lit 22, hob (nat_lit 22) P) :: (nat_lit 23, hob (nat_lit 23) P) :: (nat_lit 25, hob (nat_lit 25) P) :: (nat_lit 26, hob (nat_lit 26) P) :: (nat_lit 28, hob (nat_lit 28) P) :: (nat_lit 29, hob (nat_lit 29) P) :: (nat_lit 37, hob (nat_lit 37) P) :: (nat_lit 40, hob (nat_lit 40) P) :: (nat_lit 41, hob (nat_lit 41) P) :: (nat_lit 42, hob (nat_lit 42) P) :: (nat_lit 44, hob (nat_lit 44) P) :: (nat_lit 45, hob (nat_lit 45) P) :: (nat_lit 47, hob (nat_lit 47) P) :: (nat_lit 48, hob (nat_lit 48) P) :: (nat_lit 49, hob (nat_lit 49) P) :: (nat_lit 51, hob (nat_lit 51) P) :: (nat_lit 52, hob (nat_lit 52) P) :: (nat_lit 54, hob (nat_lit 54) P) :: (nat_lit 55, hob (nat_lit 55) P) :: (nat_lit 56, hob (nat_lit 56) P) :: (nat_lit 58, hob (nat_lit 58) P) :: (nat_lit 59, hob (nat_lit 59) P) :: (nat_lit 61, hob (nat_lit 61) P) :: (nat_lit 62, hob (nat_lit 62) P) :: (nat_lit 63, hob (nat_lit 63) P) :: (nat_lit 65, hob (nat_lit 65) P) :: (nat_lit 66, hob (nat_lit 66) P) :: (nat_lit 68, hob (nat_lit 68) P) :: (nat_lit 69, hob (nat_lit 69) P) :: (nat_lit 70, hob (nat_lit 70) P) :: (nat_lit 72, hob (nat_lit 72) P) :: (nat_lit 73, hob (nat_lit 73) P) :: (nat_lit 75, hob (nat_lit 75) P) :: (nat_lit 76, hob (nat_lit 76) P) :: (nat_lit 77, hob (nat_lit 77) P) :: (nat_lit 79, hob (nat_lit 79) P) :: (nat_lit 80, hob (nat_lit 80) P) :: (nat_lit 82, hob (nat_lit 82) P) :: (nat_lit 83, hob (nat_lit 83) P) :: (nat_lit 84, hob (nat_lit 84) P) :: (nat_lit 86, hob (nat_lit 86) P) :: (nat_lit 87, hob (nat_lit 87) P) :: (nat_lit 89, hob (nat_lit 89) P) :: (nat_lit 90, hob (nat_lit 90) P) :: (nat_lit 91, hob (nat_lit 91) P) :: (nat_lit 93, hob (nat_lit 93) P) :: (nat_lit 94, hob (nat_lit 94) P) :: (nat_lit 96, hob (nat_lit 96) P) :: (nat_lit 97, hob (nat_lit 97) P) :: (nat_lit 98, hob (nat_lit 98) P) :: (nat_lit 100, hob (nat_lit 100) P) :: (nat_lit 101, hob (nat_lit 101) P) :: (nat_lit 103, hob (nat_lit 103) P) :: (nat_lit 104, hob (nat_lit 104) P) :: (nat_lit 105, hob (nat_lit 105) P) :: (nat_lit 106, hob (nat_lit 106) P) :: (nat_lit 107, hob (nat_lit 107) P) :: (nat_lit 108, hob (nat_lit 108) P) :: (nat_lit 109, hob (nat_lit 109) P) :: (nat_lit 112, hob (nat_lit 112) P) :: (nat_lit 115, hob (nat_lit 115) P) :: (nat_lit 116, hob (nat_lit 116) P) :: (nat_lit 117, hob (nat_lit 117) P) :: (nat_lit 120, hob (nat_lit 120) P) :: (nat_lit 121, hob (nat_lit 121) P) :: (nat_lit 129, hob (nat_lit 129) P) :: (nat_lit 131, hob (nat_lit 131) P) :: (nat_lit 132, hob (nat_lit 132) P) :: (nat_lit 134, hob (nat_lit 134) P) :: (nat_lit 135, hob (nat_lit 135) P) :: (nat_lit 136, hob (nat_lit 136) P) :: (nat_lit 138, hob (nat_lit 138) P) :: (nat_lit 139, hob (nat_lit 139) P) :: (nat_lit 141, hob (nat_lit 141) P) :: (nat_lit 142, hob (nat_lit 142) P) :: (nat_lit 143, hob (nat_lit 143) P) :: (nat_lit 145, hob (nat_lit 145) P) :: (nat_lit 146, hob (nat_lit 146) P) :: (nat_lit 148, hob (nat_lit 148) P) :: (nat_lit 149, hob (nat_lit 149) P) :: (nat_lit 150, hob (nat_lit 150) P) :: (nat_lit 152, hob (nat_lit 152) P) :: (nat_lit 153, hob (nat_lit 153) P) :: (nat_lit 155, hob (nat_lit 155) P) :: (nat_lit 156, hob (nat_lit 156) P) :: (nat_lit 157, hob (nat_lit 157) P) :: (nat_lit 159, hob (nat_lit 159) P) :: (nat_lit 160, hob (nat_lit 160) P) :: (nat_lit 162, hob (nat_lit 162) P) :: (nat_lit 163, hob (nat_lit 163) P) :: (nat_lit 164, hob (nat_lit 164) P) :: (nat_lit 166, hob (nat_lit 166) P) :: (nat_lit 167, hob (nat_lit 167) P) :: (nat_lit 169, hob (nat_lit 169) P) :: (nat_lit 170, hob (nat_lit 170) P) :: (nat_lit 171, hob (nat_lit 171) P) :: (nat_lit 173, hob (nat_lit 173) P) :: (nat_lit 174, hob (nat_lit 174) P) :: (nat_lit 176, hob (nat_lit 176) P) :: (nat_lit 177, hob (nat_lit 177) P) :: (nat_lit 178, hob (nat_lit 178) P) :: (nat_lit 180, hob (nat_lit 180) P) :: (nat_lit 181, hob (nat_lit 181) P) :: (nat_lit 183, hob (nat_lit 183) P) :: (nat_lit 184, hob (nat_lit 184) P) :: (nat_lit 185, hob (nat_lit 185) P) :: (nat_lit 187, hob (nat_lit 187) P) :: (nat_lit 188, hob (nat_lit 188) P) :: (nat_lit 190, hob (nat_lit 190) P) :: (nat_lit 191, hob (nat_lit 191) P) :: (nat_lit 192, hob (nat_lit 192) P) :: (nat_lit 195, hob (nat_lit 195) P) :: (nat_lit 196, hob (nat_lit 196) P) :: (nat_lit 197, hob (nat_lit 197) P) :: (nat_lit 200, hob (nat_lit 200) P) :: (nat_lit 201, hob (nat_lit 201) P) :: (nat_lit 202, hob (nat_lit 202) P) :: (nat_lit 205, hob (nat_lit 205) P) :: (nat_lit 206, hob (nat_lit 206) P) :: (nat_lit 212, hob (nat_lit 212) P) :: (nat_lit 214, hob (nat_lit 214) P) :: (nat_lit 215, hob (nat_lit 215) P) :: (nat_lit 217, hob (nat_lit 217) P) :: (nat_lit 218, hob (nat_lit 218) P) :: (nat_lit 219, hob (nat_lit 219) P) :: (nat_lit 222, hob (nat_lit 222) P) :: (nat_lit 223, hob (nat_lit 223) P) :: (nat_lit 224, hob (nat_lit 224) P) :: (nat_lit 227, hob (nat_lit 227) P) :: (nat_lit 228, hob (nat_lit 228) P) :: []
theorem all_ok {P : Program} {w : World} {K : PySem.W.Frag} {mg : Str → Option Value} {base : Heap} (M : Mg mg) {C fI fE fP aN : Addr} {fdI fdE fdP : FuncData} {fN : Str → Option Value} (T : FcTxt K mg C) (TN : Tab w K mg "NAMES" aN fN) (hN : NamesOk fN) (mkI : Mk K C fI) (FI : Fun K "__init__" "Facts.__init__" sFcInit fI fdI) (bI : Binds K fdI ["self", "book"] []) (FE : Fun K "end_of" "Facts.end_of" sFcEnd fE fdE) (bE : Binds K fdE ["self", "choice"] []) (mE : Meth K C "end_of" fE) (FP : Fun K "price_of" "Facts.price_of" sFcPrice fP fdP) (bP : Binds K fdP ["self", "choice"] []) (mP : Meth K C "price_of" fP) (F1 : Fn K mg "_law_block" sBlock) (F2 : Fn K mg "_law_mixed" sMixed) (F3 : Fn K mg "_law_whole" sWhole) (F4 : Fn K mg "_law_name" sName) (F5 : Fn K mg "_law_things" sThings) (F6 : Fn K mg "_law_way" sWay) (F7 : Fn K mg "_law_put" sPut) (F8 : Fn K mg "_law_works" sWorks) (F9 : Fn K mg "_law_book" sBook) (F10 : Fn K mg "_law_ways" sWays) (F11 : Fn K mg "_law_length" sLength) (F12 : Fn K mg "_law_all_done" sDone) (F13 : Fn K mg "_law_plan" sPlan) (F14 : Fn K mg "_law_cost" sCost) (F15 : Fn K mg "said_by" sSaid) (F16 : Fn K mg "choices_taken" sTaken) (F17 : Fn K mg "cost_of_plan" sCostP) {f : Addr} {fd : FuncData} (F18 : Fun K "law" "law" sLaw f fd) : FnOk P w K mg base CX0 6 f fd ["_law_script"] (spLaw K) := by
  have h_cl_block := okBlock (P := P) (w := w) (base := base) F1 M
  have h_cl_mixed := okMixed (P := P) (w := w) (base := base) F2 M h_cl_block
  have h_cl_whole := okWhole (P := P) (w := w) (base := base) F3 M
  have h_cl_name := okName (P := P) (w := w) (base := base) F4 M h_cl_mixed
  have h_cl_things := okThings (P := P) (w := w) (base := base) F5 M h_cl_mixed h_cl_name
  have h_cl_way := okWay (P := P) (w := w) (base := base) F6 M h_cl_mixed
  have h_cl_put := okPut (P := P) (w := w) (base := base) F7 M
  have h_cl_works := okWorks (P := P) (w := w) (base := base) F8 M h_cl_mixed h_cl_name h_cl_way
  have h_cl_book := okBook (P := P) (w := w) (base := base) F9 M h_cl_mixed h_cl_things h_cl_works h_cl_put
  have h_cl_ways := okWays (P := P) (w := w) (base := base) F10 M
  have h_cl_length := okLength (P := P) (w := w) (base := base) F11 M
  have h_cl_all_done := okDone (P := P) (w := w) (base := base) F12 M h_cl_ways
  have h_cl_plan := okPlan (P := P) (w := w) (base := base) F13 M h_cl_mixed h_cl_ways
  have h_cl_cost := okCost (P := P) (w := w) (base := base) F14 M h_cl_length
  have h_c_said_by := okSaid (P := P) (w := w) (base := base) F15 M TN hN
  have h_c_choices_taken := okTaken (P := P) (w := w) (base := base) F16 T
  have h_c_cost_of_plan := okCostP (P := P) (w := w) (base := base) F17 M T mkI (okFcI FI M T h_c_said_by) bI (okFcP FP M T (okFcE FE T) bE mE) bP mP h_c_choices_taken
  have h_c_law := okLaw (P := P) (w := w) (base := base) F18 M h_cl_book h_cl_all_done h_cl_plan h_c_cost_of_plan h_cl_whole h_cl_cost
  exact h_c_law
theorem walk {l : PySem.W.OpenLaw} {q : Program} {loose : List Str} {XP : (Str → Option Value) → Heap → Prop} {YP : World → Heap → Prop} {d : DefRec} {K : Params → PySem.W.Frag} (hn : l.most = some 63) (hdf : d.params.defaults = [])
    (hY : ∀ (w : World) (h : Heap), YP w h → (K w.params).In h)
    (F : ∀ (w : World) (mg : Str → Option Value) (fa : Addr) (h : Heap), (K w.params).In h → h.Ns mainGlobals mg → mg d.name = some (.ref fa) →
      ∃ fd : FuncData, (∀ (s : Shared) (u : Value), BindsTo s fd ⟨[u], []⟩ [("_law_script", u)]) ∧ ∀ base : Heap, (K w.params).In base → base.Ns mainGlobals mg → FnOk l.prog w (K w.params) mg base CX0 6 fa fd ["_law_script"] (spLaw (K w.params))) :
    PySem.W.WalkO q loose XP YP l.row.toRowW d [] (fun f vs => PySem.call f vs) :=
  L2.walk_of (n := 63) (k := 6) (x := "_law_script") (CX := fun _ => CX0) (sp := fun w => spLaw (K w.params)) hn (by decide) hdf ⟨rfl, by decide, by decide⟩ hY F (fun _ _ a ns hl hb hS => ⟨a, ns, rfl, hS, hl, fun _ => rfl⟩) fun _ _ _ _ _ z => z
end Nb
open PySem PySem.W PyProof.Rows
set_option maxRecDepth 100000 in
set_option maxHeartbeats 0 in
theorem PySem.Challenge.cw_nonebetter_k60_costs_of_plans_holds : PySem.Challenge.rw_nonebetter_k60_costs_of_plans.Holds := by
  w_on; refine PySem.W.holds_law (by kernel_rfl) fun said => ?_; o_head (PySem.W.kHook Nb.heapK (nat_lit 2 :: nat_lit 3 :: nat_lit 15 :: nat_lit 17 :: nat_lit 18 :: nat_lit 20 :: nat_lit 21 :: nat_lit 22 :: nat_lit 23 :: nat_lit 25 :: nat_lit 26 :: nat_lit 28 :: nat_lit 29 :: nat_lit 37 :: nat_lit 40 :: nat_lit 41 :: nat_lit 42 :: nat_lit 44 :: nat_lit 45 :: nat_lit 47 :: nat_lit 48 :: nat_lit 49 :: nat_lit 51 :: nat_lit 52 :: nat_lit 54 :: nat_lit 55 :: nat_lit 56 :: nat_lit 58 :: nat_lit 59 :: nat_lit 61 :: nat_lit 62 :: nat_lit 63 :: nat_lit 65 :: nat_lit 66 :: nat_lit 68 :: nat_lit 69 :: nat_lit 70 :: nat_lit 72 :: nat_lit 73 :: nat_lit 75 :: nat_lit 76 :: nat_lit 77 :: nat_lit 79 :: nat_lit 80 :: nat_lit 82 :: nat_lit 83 :: nat_lit 84 :: nat_lit 86 :: nat_lit 87 :: nat_lit 89 :: nat_lit 90 :: nat_lit 91 :: nat_lit 93 :: nat_lit 94 :: nat_lit 96 :: nat_lit 97 :: nat_lit 98 :: nat_lit 100 :: nat_lit 101 :: nat_lit 103 :: nat_lit 104 :: nat_lit 105 :: nat_lit 106 :: nat_lit 107 :: nat_lit 108 :: nat_lit 109 :: nat_lit 112 :: nat_lit 115 :: nat_lit 116 :: nat_lit 117 :: nat_lit 120 :: nat_lit 121 :: nat_lit 129 :: nat_lit 131 :: nat_lit 132 :: nat_lit 134 :: nat_lit 135 :: nat_lit 136 :: nat_lit 138 :: nat_lit 139 :: nat_lit 141 :: nat_lit 142 :: nat_lit 143 :: nat_lit 145 :: nat_lit 146 :: nat_lit 148 :: nat_lit 149 :: nat_lit 150 :: nat_lit 152 :: nat_lit 153 :: nat_lit 155 :: nat_lit 156 :: nat_lit 157 :: nat_lit 159 :: nat_lit 160 :: nat_lit 162 :: nat_lit 163 :: nat_lit 164 :: nat_lit 166 :: nat_lit 167 :: nat_lit 169 :: nat_lit 170 :: nat_lit 171 :: nat_lit 173 :: nat_lit 174 :: nat_lit 176 :: nat_lit 177 :: nat_lit 178 :: nat_lit 180 :: nat_lit 181 :: nat_lit 183 :: nat_lit 184 :: nat_lit 185 :: nat_lit 187 :: nat_lit 188 :: nat_lit 190 :: nat_lit 191 :: nat_lit 192 :: nat_lit 195 :: nat_lit 196 :: nat_lit 197 :: nat_lit 200 :: nat_lit 201 :: nat_lit 202 :: nat_lit 205 :: nat_lit 206 :: nat_lit 212 :: nat_lit 214 :: nat_lit 215 :: nat_lit 217 :: nat_lit 218 :: nat_lit 219 :: nat_lit 222 :: nat_lit 223 :: nat_lit 224 :: nat_lit 227 :: nat_lit 228 :: []) (fun _ => by kernel_rfl)); (case hw => w_witness2)
  k_fill
  refine Nb.walk (l := PySem.Challenge.rw_nonebetter_k60_costs_of_plans) rfl rfl (fun w h Y => PySem.W.kIn_of Y) ?F
  case F =>
    intro w mg fa h KX G hmg
    have F1 : L2.Fn (L2.KOf KX) mg "_law_block" Nb.sBlock := by
      dsimp only [L2.KOf]
      refine' L2.fn_mk KX G ?a ?l ?c ?k
      (case a => k_is); (case l => k_is); (case c => k_is); (case k => k_is)
    have F2 : L2.Fn (L2.KOf KX) mg "_law_mixed" Nb.sMixed := by
      dsimp only [L2.KOf]
      refine' L2.fn_mk KX G ?a ?l ?c ?k
      (case a => k_is); (case l => k_is); (case c => k_is); (case k => k_is)
    have F3 : L2.Fn (L2.KOf KX) mg "_law_whole" Nb.sWhole := by
      dsimp only [L2.KOf]
      refine' L2.fn_mk KX G ?a ?l ?c ?k
      (case a => k_is); (case l => k_is); (case c => k_is); (case k => k_is)
    have F4 : L2.Fn (L2.KOf KX) mg "_law_name" Nb.sName := by
      dsimp only [L2.KOf]
      refine' L2.fn_mk KX G ?a ?l ?c ?k
      (case a => k_is); (case l => k_is); (case c => k_is); (case k => k_is)
    have F5 : L2.Fn (L2.KOf KX) mg "_law_things" Nb.sThings := by
      dsimp only [L2.KOf]
      refine' L2.fn_mk KX G ?a ?l ?c ?k
      (case a => k_is); (case l => k_is); (case c => k_is); (case k => k_is)
    have F6 : L2.Fn (L2.KOf KX) mg "_law_way" Nb.sWay := by
      dsimp only [L2.KOf]
      refine' L2.fn_mk KX G ?a ?l ?c ?k
      (case a => k_is); (case l => k_is); (case c => k_is); (case k => k_is)
    have F7 : L2.Fn (L2.KOf KX) mg "_law_put" Nb.sPut := by
      dsimp only [L2.KOf]
      refine' L2.fn_mk KX G ?a ?l ?c ?k
      (case a => k_is); (case l => k_is); (case c => k_is); (case k => k_is)
    have F8 : L2.Fn (L2.KOf KX) mg "_law_works" Nb.sWorks := by
      dsimp only [L2.KOf]
      refine' L2.fn_mk KX G ?a ?l ?c ?k
      (case a => k_is); (case l => k_is); (case c => k_is); (case k => k_is)
    have F9 : L2.Fn (L2.KOf KX) mg "_law_book" Nb.sBook := by
      dsimp only [L2.KOf]
      refine' L2.fn_mk KX G ?a ?l ?c ?k
      (case a => k_is); (case l => k_is); (case c => k_is); (case k => k_is)
    have F10 : L2.Fn (L2.KOf KX) mg "_law_ways" Nb.sWays := by
      dsimp only [L2.KOf]
      refine' L2.fn_mk KX G ?a ?l ?c ?k
      (case a => k_is); (case l => k_is); (case c => k_is); (case k => k_is)
    have F11 : L2.Fn (L2.KOf KX) mg "_law_length" Nb.sLength := by
      dsimp only [L2.KOf]
      refine' L2.fn_mk KX G ?a ?l ?c ?k
      (case a => k_is); (case l => k_is); (case c => k_is); (case k => k_is)
    have F12 : L2.Fn (L2.KOf KX) mg "_law_all_done" Nb.sDone := by
      dsimp only [L2.KOf]
      refine' L2.fn_mk KX G ?a ?l ?c ?k
      (case a => k_is); (case l => k_is); (case c => k_is); (case k => k_is)
    have F13 : L2.Fn (L2.KOf KX) mg "_law_plan" Nb.sPlan := by
      dsimp only [L2.KOf]
      refine' L2.fn_mk KX G ?a ?l ?c ?k
      (case a => k_is); (case l => k_is); (case c => k_is); (case k => k_is)
    have F14 : L2.Fn (L2.KOf KX) mg "_law_cost" Nb.sCost := by
      dsimp only [L2.KOf]
      refine' L2.fn_mk KX G ?a ?l ?c ?k
      (case a => k_is); (case l => k_is); (case c => k_is); (case k => k_is)
    have F15 : L2.Fn (L2.KOf KX) mg "said_by" Nb.sSaid := by
      dsimp only [L2.KOf]
      refine' L2.fn_mk KX G ?a ?l ?c ?k
      (case a => k_is); (case l => k_is); (case c => k_is); (case k => k_is)
    have F16 : L2.Fn (L2.KOf KX) mg "choices_taken" Nb.sTaken := by
      dsimp only [L2.KOf]
      refine' L2.fn_mk KX G ?a ?l ?c ?k
      (case a => k_is); (case l => k_is); (case c => k_is); (case k => k_is)
    have F17 : L2.Fn (L2.KOf KX) mg "cost_of_plan" Nb.sCostP := by
      dsimp only [L2.KOf]
      refine' L2.fn_mk KX G ?a ?l ?c ?k
      (case a => k_is); (case l => k_is); (case c => k_is); (case k => k_is)
    have F18 : L2.Fn (L2.KOf KX) mg "law" Nb.sLaw := by
      dsimp only [L2.KOf]
      refine' L2.fn_mk KX G ?a ?l ?c ?k
      (case a => k_is); (case l => k_is); (case c => k_is); (case k => k_is)
    have M : Nb.Mg mg := by
      refine' ⟨PySem.W.mg_none_of KX G ?m_len, PySem.W.mg_none_of KX G ?m_min, PySem.W.mg_none_of KX G ?m_max, PySem.W.mg_none_of KX G ?m_sum, PySem.W.mg_none_of KX G ?m_all, PySem.W.mg_none_of KX G ?m_any, PySem.W.mg_none_of KX G ?m_abs, PySem.W.mg_none_of KX G ?m_isinstance, PySem.W.mg_none_of KX G ?m_sorted, PySem.W.mg_none_of KX G ?m_range_, PySem.W.mg_none_of KX G ?m_zip_, PySem.W.mg_none_of KX G ?m_tuple_, PySem.W.mg_none_of KX G ?m_list_, PySem.W.mg_none_of KX G ?m_int_, PySem.W.mg_none_of KX G ?m_bool_, PySem.W.mg_none_of KX G ?m_dict_, PySem.W.mg_none_of KX G ?m_enumerate_, PySem.W.mg_none_of KX G ?m_reversed_, PySem.W.mg_none_of KX G ?m_ValueError_, PySem.W.mg_none_of KX G ?m_set_, PySem.W.mg_none_of KX G ?m_str_⟩
      (case m_len => k_is)
      (case m_min => k_is)
      (case m_max => k_is)
      (case m_sum => k_is)
      (case m_all => k_is)
      (case m_any => k_is)
      (case m_abs => k_is)
      (case m_isinstance => k_is)
      (case m_sorted => k_is)
      (case m_range_ => k_is)
      (case m_zip_ => k_is)
      (case m_tuple_ => k_is)
      (case m_list_ => k_is)
      (case m_int_ => k_is)
      (case m_bool_ => k_is)
      (case m_dict_ => k_is)
      (case m_enumerate_ => k_is)
      (case m_reversed_ => k_is)
      (case m_ValueError_ => k_is)
      (case m_set_ => k_is)
      (case m_str_ => k_is)
    have CL : ∃ (C fI fE fP : Addr) (fdI fdE fdP : FuncData), Nb.FcTxt (L2.KOf KX) mg C ∧ L2.Mk (L2.KOf KX) C fI ∧ L2.Fun (L2.KOf KX) "__init__" "Facts.__init__" Nb.sFcInit fI fdI ∧ L2.Fun (L2.KOf KX) "end_of" "Facts.end_of" Nb.sFcEnd fE fdE ∧ L2.Meth (L2.KOf KX) C "end_of" fE ∧ L2.Fun (L2.KOf KX) "price_of" "Facts.price_of" Nb.sFcPrice fP fdP ∧ L2.Meth (L2.KOf KX) C "price_of" fP := by
      dsimp only [L2.KOf]
      refine' ⟨_, _, _, _, _, _, _, ⟨⟨?pg, ?hd, ?po, ?sa⟩, ?n1, ?n2, ?n3, ?n4, ?n5, ?n6, ?n7, PySem.W.mg_of KX G ?aC⟩, ⟨?mk, ?a1, ?i1, ?kc⟩, L2.fun_mk (st := Nb.sFcInit) ?l1 ?c1 ?k1, L2.fun_mk (st := Nb.sFcEnd) ?l2 ?c2 ?k2, ⟨?a2, ?i2, ?m2⟩, L2.fun_mk (st := Nb.sFcPrice) ?l3 ?c3 ?k3, ⟨?a3, ?i3, ?m3⟩⟩
      (case aC => k_is); (case a1 => k_is); (case i1 => k_is); (case l1 => k_is); (case c1 => k_is); (case k1 => k_is)
      (case a2 => k_is); (case i2 => k_is); (case l2 => k_is); (case c2 => k_is); (case k2 => k_is); (case m2 => k_is)
      (case a3 => k_is); (case i3 => k_is); (case l3 => k_is); (case c3 => k_is); (case k3 => k_is); (case m3 => k_is)
      (case pg => k_is); (case hd => k_is); (case po => k_is); (case sa => k_is); (case mk => k_is); (case kc => k_is)
      (case n1 => unfold L2.NoAttr; k_is); (case n2 => unfold L2.NoAttr; k_is); (case n3 => unfold L2.NoAttr; k_is); (case n4 => unfold L2.NoAttr; k_is); (case n5 => unfold L2.NoAttr; k_is); (case n6 => unfold L2.NoAttr; k_is); (case n7 => unfold L2.NoAttr; k_is)
    obtain ⟨C, fI, fE, fP, fdI, fdE, fdP, T, mkI, FI, FE, mE, FP, mP⟩ := CL
    have TNN : ∃ aN fN, L2.Tab w (L2.KOf KX) mg "NAMES" aN fN ∧ Nb.NamesOk fN := by
      dsimp only [L2.KOf]
      refine' ⟨_, Nb.names_tab (PySem.W.mg_of KX G ?b1) ?l1 ?k1 ?o1 ?e1⟩
      (case b1 => k_is); (case l1 => k_is); (case k1 => k_keys); (case o1 => decide); (case e1 => exact rfl)
    obtain ⟨aN, fN, TN, hN⟩ := TNN
    have bI := FI.binds (ps := ["self", "book"]) fun _ _ _ _ _ _ us hl => match us, hl with | [_, _], _ => rfl
    have bE := FE.binds (ps := ["self", "choice"]) fun _ _ _ _ _ _ us hl => match us, hl with | [_, _], _ => rfl
    have bP := FP.binds (ps := ["self", "choice"]) fun _ _ _ _ _ _ us hl => match us, hl with | [_, _], _ => rfl
    obtain ⟨f, fd, FF, hm⟩ := F18
    have e0 := hmg.symm.trans hm
    cases e0
    refine' ⟨fd, ?b, fun base kb nb => Nb.all_ok M T TN hN mkI FI bI FE bE mE FP bP mP F1 F2 F3 F4 F5 F6 F7 F8 F9 F10 F11 F12 F13 F14 F15 F16 F17 FF⟩
    obtain ⟨oc, od, kV, doc, pm, an, cdv, ct, osl, rfl, lk, hcd⟩ := FF.ex
    exact fun s u => .of_eq rfl

