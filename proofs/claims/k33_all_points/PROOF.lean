import PyProof.Rows.All
import Wide.All
import OpenK.AllK
import Wide.FinOn
import Lean
import PyProof.EqAt
import PyProof.EqKinds
import PyProof.TupleCall
import KE.KDictOf
import KE.KRevIter
import KE.KMinKey
import KE.KTryDeep
import KE.KIsAll
import KE.KSortTup
import OpenK.KTop
import PySem.Challenge.RW_nonebetter_k33_all_points_told
set_option Elab.async false
set_option linter.all false
set_option maxRecDepth 100000
set_option maxHeartbeats 4000000
set_option bootstrap.genMatcherCode false
set_option compiler.extract_closed false
namespace L2
theorem aRfl (h : True := by rfl) : True := h
theorem aDec (h : True := by decide) : True := h
theorem aFst (h : True := by first | exact .inl rfl | exact .inr rfl | assumption) : True := h
theorem aIrf (h : True := by intro _; rfl) : True := h
end L2
namespace L2
open PySem PySem.Spec PyProof.Rows
noncomputable abbrev Key := Sum Int Str
noncomputable def keyIs : Key → Value → Bool
  | .inl k, v => Value.isInt k v
  | .inr x, v => Value.isStrOf x v
noncomputable def keyH (w : World) : Key → Int
  | .inl k => hashInt k
  | .inr x => hashStr w x
theorem keyIs_shape : ∀ {k : Key} {v : Value}, keyIs k v = true → (∃ i t, k = Sum.inl i ∧ v = Value.int i t) ∨ (∃ x t, k = Sum.inr x ∧ v = Value.str x t)
  | .inl i, v, h => by
    obtain ⟨t, e⟩ := Value.isInt_shape (k := i) (v := v) h
    exact .inl ⟨i, t, rfl, e⟩
  | .inr x, v, h => by
    obtain ⟨t, e⟩ := Value.isStrOf_shape (x := x) (v := v) h
    exact .inr ⟨x, t, rfl, e⟩
theorem keyIs_int (i : Int) (t : Tok) : keyIs (.inl i) (.int i t) = true := by simp [keyIs, Value.isInt]
theorem keyIs_str (x : Str) (t : Tok) : keyIs (.inr x) (.str x t) = true := by simp [keyIs, Value.isStrOf]
theorem key_ll (a b : Int) : decide ((Sum.inl a : Key) = Sum.inl b) = (a == b) := by
  by_cases e : a = b
  · subst e; simp
  · have h : ¬ (Sum.inl a : Key) = Sum.inl b := fun q => e (Sum.inl.inj q)
    rw [decide_eq_false h]
    exact (beq_eq_false_iff_ne.mpr e).symm
theorem key_rr (a b : Str) : decide ((Sum.inr a : Key) = Sum.inr b) = decide (a = b) := by
  by_cases e : a = b
  · subst e; simp
  · have h : ¬ (Sum.inr a : Key) = Sum.inr b := fun q => e (Sum.inr.inj q)
    rw [decide_eq_false h, decide_eq_false e]
theorem key_lr (a : Int) (b : Str) : decide ((Sum.inl a : Key) = Sum.inr b) = false := decide_eq_false (fun q => nomatch q)
theorem key_rl (a : Str) (b : Int) : decide ((Sum.inr a : Key) = Sum.inl b) = false := decide_eq_false (fun q => nomatch q)
noncomputable def mixKind (prog : Program) (w : World) : PySem.KeyKind prog w Key where
  is := keyIs
  hash := keyH w
  inj := fun v a b ha hb => by
    rcases keyIs_shape ha with ⟨i, t, rfl, rfl⟩ | ⟨x, t, rfl, rfl⟩
    · rcases keyIs_shape hb with ⟨j, u, rfl, e⟩ | ⟨y, u, rfl, e⟩
      · injection e with e1 _; rw [e1]
      · exact nomatch e
    · rcases keyIs_shape hb with ⟨j, u, rfl, e⟩ | ⟨y, u, rfl, e⟩
      · exact nomatch e
      · injection e with e1 _; rw [e1]
  byValue := fun k v h => by
    rcases keyIs_shape h with ⟨i, t, rfl, rfl⟩ | ⟨x, t, rfl, rfl⟩ <;> rfl
  pyHash := fun hv h => by
    rcases keyIs_shape hv with ⟨i, t, rfl, rfl⟩ | ⟨x, t, rfl, rfl⟩
    · exact wpAny_pyHash_int h
    · exact wpAny_pyHash_str h
  eqBool := fun hu hv h => by
    rcases keyIs_shape hu with ⟨i, t, rfl, rfl⟩ | ⟨x, t, rfl, rfl⟩
    · rcases keyIs_shape hv with ⟨j, u, rfl, rfl⟩ | ⟨y, u, rfl, rfl⟩
      · rw [key_ll] at h; exact wpAny_eqBool_int h
      · rw [key_lr] at h; exact SeqAt.EqAt.int_str i t y u _ _ _ _ h
    · rcases keyIs_shape hv with ⟨j, u, rfl, rfl⟩ | ⟨y, u, rfl, rfl⟩
      · rw [key_rl] at h; exact SeqAt.EqAt.str_int x t j u _ _ _ _ h
      · rw [key_rr] at h; exact wpAny_eqBool_str h
  «strs» := fun k x t v h => by
    rcases keyIs_shape h with ⟨i, u, rfl, e⟩ | ⟨y, u, rfl, e⟩
    · exact nomatch e
    · injection e with e1 _
      subst e1
      cases v <;> rfl
theorem mixKind_int (prog : Program) (w : World) (i : Int) (t : Tok) : (mixKind prog w).is (.inl i) (.int i t) = true := keyIs_int i t
theorem mixKind_str (prog : Program) (w : World) (x : Str) (t : Tok) : (mixKind prog w).is (.inr x) (.str x t) = true := keyIs_str x t
end L2
namespace L2
open PySem PySem.Spec PyProof.Rows
inductive V where
  | non | bl (b : Bool) | int (i : Int) | str (x : Str) | byt (b : Array UInt8) | flt (b : UInt64) | ref (a : Addr) | ty (n : String)
  deriving DecidableEq
noncomputable def RelV : V → Value → Prop
  | .non, u => u = Value.none
  | .bl b, u => u = Value.bool b
  | .int i, u => ∃ t, u = Value.int i t
  | .str x, u => ∃ t, u = Value.str x t
  | .byt b, u => ∃ t, u = Value.bytes b t
  | .flt b, u => ∃ t, u = Value.float b t
  | .ref a, u => u = Value.ref a
  | .ty n, u => u = Value.type n
noncomputable abbrev Vals : List V → List Value → Prop := Paired RelV
theorem Vals.length {xs : List V} {us : List Value} (r : Vals xs us) : xs.length = us.length := Paired.length r
theorem Vals.get : ∀ {xs : List V} {us : List Value} {i : Nat} {x : V}, Vals xs us → xs[i]? = some x → ∃ u, us[i]? = some u ∧ RelV x u
  | _, _, _, _, .nil, e => by simp at e
  | _, _, 0, _, .cons r _, e => by simp at e; subst e; exact ⟨_, rfl, r⟩
  | _, _, i + 1, x, .cons _ t, e => by
    obtain ⟨u, h1, h2⟩ := Vals.get (i := i) (x := x) t (by simpa using e)
    exact ⟨u, by simpa using h1, h2⟩
theorem Vals.append {xs ys : List V} {us ws : List Value} (h : Vals xs us) (g : Vals ys ws) : Vals (xs ++ ys) (us ++ ws) := by
  induction h with
  | nil => exact g
  | cons r t ih => exact .cons r ih
noncomputable def RelO : Option V → Option Value → Prop
  | some v, some u => RelV v u
  | none, none => True
  | _, _ => False
noncomputable def KV {κ : Type} : List (κ × V) → List (κ × Value) → Prop := Paired fun (p : κ × V) (q : κ × Value) => p.1 = q.1 ∧ RelV p.2 q.2
noncomputable def kV : Key → V
  | .inl i => .int i
  | .inr x => .str x
inductive HO where
  /-- a list -/
  | lst (xs : List V)
  /-- a tuple (never changes) -/
  | tup (xs : List V)
  /-- a dict whose keys are ints and texts; one whose keys are tuples of ints and texts (the empty one is both) -/
  | dK (kvs : List (Key × V)) | dT (kvs : List (List Key × V))
  /-- a set of ints: its members, its size -/
  | set (S : Int → Bool) (n : Nat)
  /-- an instance of the class at C, its dict at dx, its attributes -/
  | ins (C dx : Addr) (fs : List (Str × V))
  /-- the dict of the instance at x -/
  | own (x : Addr)
  /-- the dict of an exception -/
  | xd (fs : List (Str × V))
  /-- a bound method, f of x -/
  | met (f x : Addr)
  /-- a range object lo, lo + 1, .. below hi -/
  | rng (lo hi : Int)
  /-- a thing that is known to the object (the script; a dict while a loop walks it): read, never written while it is so -/
  | frz (o : Obj) (u : HO)
  /-- a code object's table -/
  | tbl (ps : Array Value)
  /-- any other thing, by what is true of its one object (a def of one's own: SetO a S n := HO.ext fun h => ..) -/
  | ext (φ : Heap → Prop)
noncomputable abbrev Hp := Addr → Option HO
noncomputable def upd (H : Hp) (a : Addr) (o : HO) : Hp := fun b => if b = a then some o else H b
theorem upd_same {H : Hp} {a : Addr} {o : HO} : upd H a o a = some o := by unfold upd; rw [if_pos rfl]
theorem upd_ne {H : Hp} {a b : Addr} {o : HO} (h : b ≠ a) : upd H a o b = H b := by unfold upd; rw [if_neg h]
theorem upd_upd {H : Hp} {a : Addr} {o u : HO} : upd (upd H a o) a u = upd H a u := by
  funext b; unfold upd; split <;> rfl
theorem ne_of {H : Hp} {a b : Addr} {o u : HO} (h : H a = some o) (h' : H b = some u) (d : o ≠ u) : a ≠ b := by
  intro e; subst e; rw [h] at h'; exact d (Option.some.inj h')
theorem ne_of_none {H : Hp} {a b : Addr} {o : HO} (h : H a = some o) (h' : H b = none) : a ≠ b := by
  intro e; subst e; rw [h] at h'; cases h'
section
variable (P : Program) (w : World)
noncomputable def ObjOk (H : Hp) (h : Heap) (a : Addr) : HO → Prop
  | .lst xs => xs.length ≤ sizeLine ∧ ∃ (its : List Value) (n : Nat), Vals xs its ∧ h.get? a = some { cls := .type "list", data := .seq its.toArray n }
  | .tup xs => xs.length ≤ sizeLine ∧ ∃ its : List Value, Vals xs its ∧ IsTup h a its.toArray
  | .dK kvs => kvs.length ≤ sizeLine ∧ (a == sysModules) = false ∧ ∃ vs, KV kvs vs ∧ h.DictOf (mixKind P w) a vs
  | .dT kvs => kvs.length ≤ sizeLine ∧ (a == sysModules) = false ∧ ∃ xs : List (List Key × Addr × Value),
      Paired (fun (p : List Key × V) (q : List Key × Addr × Value) => p.1 = q.1 ∧ H q.2.1 = some (.tup (p.1.map kV)) ∧ RelV p.2 q.2.2) kvs xs ∧
      ∃ o es ep, h.get? a = some o ∧ o.ExactDict ∧ o.data = .dict es ep ∧ es.toList = xs.map (entryOfKey (tupleKind (mixKind P w))) ∧ (xs.map (·.1)).Nodup
  | .set S n => h.SetOf (intKind P w) a S n
  | .ins C dx fs => H dx = some (.own a) ∧ fs.length ≤ 1000 ∧ dx ≠ a ∧ h.get? a = some (PySem.W.instObj C dx) ∧
      ∃ mA, h.Ns1 dx mA ∧ (∀ f, RelO (fs.lookup f) (mA f)) ∧ PySem.Within mA (fs.map (·.1))
  | .own _ => ∃ o, h.get? a = some o
  | .xd fs => ∃ mA, h.Ns1 a mA ∧ ∀ f, RelO (fs.lookup f) (mA f)
  | .rng lo hi => ∃ t u v, h.get? a = some { cls := .type "range", data := .fields #[.int lo t, .int hi u, .int 1 v] }
  | .frz o u => h.get? a = some o ∧ ObjOk H h a u
  | .tbl ps => h.get? a = some { cls := .none, data := .fields ps }
  | .met f x => h.get? a = some (PySem.W.methodObj (.ref f) (.ref x))
  | .ext φ => φ h ∧ (∃ o, h.get? a = some o) ∧ ∀ h1 h2 : Heap, φ h1 → (∀ o, h1.get? a = some o → h2.get? a = some o) → φ h2
noncomputable def HOk (H : Hp) (h : Heap) : Prop := ∀ a o, H a = some o → ObjOk P w H h a o
end
section
variable {P : Program} {w : World} {H H' : Hp} {h h' : Heap} {a : Addr} {o : HO}
theorem ObjOk.lt (x : ObjOk P w H h a o) : a < h.objs.size := by
  cases o with
  | lst xs => obtain ⟨_, _, _, _, e⟩ := x; exact Heap.lt_size e
  | tup xs => obtain ⟨_, _, _, p⟩ := x; exact p.lt
  | dK kvs => obtain ⟨_, _, _, _, o, _, _, e, _⟩ := x; exact Heap.lt_size e
  | dT kvs => obtain ⟨_, _, _, _, o, _, _, e, _⟩ := x; exact Heap.lt_size e
  | set S n => obtain ⟨o, _, _, _, e, _⟩ := x; exact Heap.lt_size e
  | ins C dx fs => obtain ⟨_, _, _, e, _⟩ := x; exact Heap.lt_size e
  | own y => obtain ⟨_, e⟩ := x; exact Heap.lt_size e
  | xd fs => obtain ⟨_, ⟨_, _, _, e, _⟩, _⟩ := x; exact Heap.lt_size e
  | rng lo hi => obtain ⟨_, _, _, e⟩ := x; exact Heap.lt_size e
  | frz ob u => obtain ⟨e, _⟩ := x; exact Heap.lt_size e
  | tbl ps => exact Heap.lt_size (show h.get? a = some _ from x)
  | met f y => exact Heap.lt_size (show h.get? a = some _ from x)
  | ext φ => obtain ⟨_, ⟨_, e⟩, _⟩ := x; exact Heap.lt_size e
theorem Paired.mapP {α β : Type} {F G : α → β → Prop} {l₁ : List α} {l₂ : List β} (h : Paired F l₁ l₂) (f : ∀ a b, F a b → G a b) : Paired G l₁ l₂ := by
  induction h with
  | nil => exact .nil
  | cons r t ih => exact .cons (f _ _ r) ih
theorem ObjOk.stay (x : ObjOk P w H h a o) (k : ∀ b u, (b = a ∨ H b = some (.own a)) → h.get? b = some u → h'.get? b = some u)
    (ho : ∀ b, H b = some (.own a) → H' b = some (.own a)) (ht : ∀ b xs, H b = some (.tup xs) → H' b = some (.tup xs)) : ObjOk P w H' h' a o := by
  induction o with
  | lst xs => obtain ⟨z, its, n, r, e⟩ := x; exact ⟨z, its, n, r, k _ _ (.inl rfl) e⟩
  | tup xs => obtain ⟨z, its, r, ob, e, c⟩ := x; exact ⟨z, its, r, ob, k _ _ (.inl rfl) e, c⟩
  | dK kvs => obtain ⟨z, y, vs, r, ob, es, ep, e, c⟩ := x; exact ⟨z, y, vs, r, ob, es, ep, k _ _ (.inl rfl) e, c⟩
  | dT kvs =>
    obtain ⟨z, y, xs, r, ob, es, ep, e, c⟩ := x
    exact ⟨z, y, xs, Paired.mapP r fun p q z => ⟨z.1, ht _ _ z.2.1, z.2.2⟩, ob, es, ep, k _ _ (.inl rfl) e, c⟩
  | set S n => obtain ⟨ob, es, ep, t, e, c⟩ := x; exact ⟨ob, es, ep, t, k _ _ (.inl rfl) e, c⟩
  | ins C dx fs =>
    obtain ⟨d, z, ne, e, mA, ⟨od, es, ep, e2, c⟩, r⟩ := x
    exact ⟨ho _ d, z, ne, k _ _ (.inl rfl) e, mA, ⟨od, es, ep, k _ _ (.inr d) e2, c⟩, r⟩
  | own y => obtain ⟨ob, e⟩ := x; exact ⟨ob, k _ _ (.inl rfl) e⟩
  | xd fs => obtain ⟨mA, ⟨od, es, ep, e, c⟩, r⟩ := x; exact ⟨mA, ⟨od, es, ep, k _ _ (.inl rfl) e, c⟩, r⟩
  | rng lo hi => obtain ⟨t, u, v, e⟩ := x; exact ⟨t, u, v, k _ _ (.inl rfl) e⟩
  | frz ob u ih => obtain ⟨e, q⟩ := x; exact ⟨k _ _ (.inl rfl) e, ih q⟩
  | tbl ps =>
    have e : h.get? a = some { cls := .none, data := .fields ps } := x
    show h'.get? a = some { cls := .none, data := .fields ps }
    exact k a _ (.inl rfl) e
  | met f y =>
    have e : h.get? a = some (PySem.W.methodObj (.ref f) (.ref y)) := x
    show h'.get? a = some (PySem.W.methodObj (.ref f) (.ref y))
    exact k a _ (.inl rfl) e
  | ext φ => obtain ⟨p, ⟨o, e⟩, st⟩ := x; exact ⟨st _ _ p fun o q => k _ _ (.inl rfl) q, ⟨o, k _ _ (.inl rfl) e⟩, st⟩
theorem HOk.lt (x : HOk P w H h) (e : H a = some o) : a < h.objs.size := (x a o e).lt
theorem HOk.fresh (x : HOk P w H h) (e : h.objs.size ≤ a) : H a = none := by
  cases q : H a with
  | none => rfl
  | some u => exact absurd (Nat.lt_of_lt_of_le (x.lt q) e) (Nat.lt_irrefl _)
theorem HOk.kept (x : HOk P w H h) (k : ∀ b u, h.get? b = some u → h'.get? b = some u) : HOk P w H h' := fun a o e =>
  (x a o e).stay (fun b u _ q => k b u q) (fun _ q => q) fun _ _ q => q
theorem HOk.laid (x : HOk P w H h) (k : ∀ b u, h.get? b = some u → h'.get? b = some u) (hp : h.objs.size ≤ a) (new : ObjOk P w (upd H a o) h' a o) : HOk P w (upd H a o) h' := fun b u e => by
  have hn := x.fresh hp
  by_cases hb : b = a
  · subst hb; rw [upd_same] at e; cases e; exact new
  · rw [upd_ne hb] at e
    exact (x b u e).stay (fun c v _ q => k c v q) (fun c q => by rw [upd_ne (ne_of_none q hn)]; exact q) fun c xs q => by rw [upd_ne (ne_of_none q hn)]; exact q
end
noncomputable def Rd (H : Hp) (a : Addr) (u : HO) : Prop := H a = some u ∨ ∃ o, H a = some (.frz o u)
theorem Rd.ok {P : Program} {w : World} {H : Hp} {h : Heap} {a : Addr} {u : HO} (r : Rd H a u) (x : HOk P w H h) : ObjOk P w H h a u := by
  rcases r with r | ⟨o, r⟩
  · exact x a u r
  · obtain ⟨_, q⟩ := x a _ r
    exact q
noncomputable def Mut : Option HO → Prop
  | some (.lst _) => True
  | some (.dK _) => True
  | some (.dT _) => True
  | some (.set _ _) => True
  | some (.ins _ _ _) => True
  | some (.ext _) => True
  | _ => False
section
variable {P : Program} {w : World} {H : Hp} {h h' : Heap} {x e : Addr} {o' : HO}
theorem HOk.write (ok : HOk P w H h) (mu : Mut (H x)) (he : e = x ∨ H e = some (.own x)) (k : ∀ b u, b ≠ e → h.get? b = some u → h'.get? b = some u) (heo : ∃ u, h'.get? e = some u)
    (new : ObjOk P w (upd H x o') h' x o') : HOk P w (upd H x o') h' := fun b u q => by
  have nown : ∀ c y, H c = some (.own y) → c ≠ x := fun c y r z => by subst z; rw [r] at mu; exact mu
  have ntup : ∀ c xs, H c = some (.tup xs) → c ≠ x := fun c xs r z => by subst z; rw [r] at mu; exact mu
  by_cases hb : b = x
  · subst hb; rw [upd_same] at q; cases q; exact new
  · rw [upd_ne hb] at q
    by_cases hbe : b = e
    · have q' : H b = some (.own x) := by
        rcases he with z | z
        · exact absurd (hbe.trans z) hb
        · rw [hbe]; exact z
      rw [q] at q'; cases q'
      obtain ⟨v, hv⟩ := heo
      exact ⟨v, by rw [hbe]; exact hv⟩
    · refine (ok b u q).stay (fun c v hc r => k c v ?_ r) (fun c r => by rw [upd_ne (nown c b r)]; exact r) fun c xs r => by rw [upd_ne (ntup c xs r)]; exact r
      rcases hc with rfl | hc
      · exact hbe
      · rintro rfl
        rcases he with z | z
        · exact nown c b hc z
        · rw [hc] at z; cases z; exact hb rfl
end
structure Un (fs ex : List Addr) (H H' : Hp) (h h' : Heap) : Prop where
  keep : ∀ b o, h.get? b = some o → H b = none → b ∉ fs → b ∉ ex → h'.get? b = some o
  slot : ∀ b o, h.get? b = some o → H b = none → b ∈ fs → b ∉ ex → ∃ sl, h'.get? b = some { o with slots := sl }
  free : ∀ b o, h.get? b = some o → H b = none → b ∉ ex → H' b = none
  there : ∀ b o, h.get? b = some o → b ∉ ex → ∃ o', h'.get? b = some o'
  tups : ∀ b xs, H b = some (.tup xs) → H' b = some (.tup xs)
  frzs : ∀ b o u, H b = some (.frz o u) → H' b = some (.frz o u)
  tbls : ∀ b ps, H b = some (.tbl ps) → ∃ more, H' b = some (.tbl (ps ++ more))
section
variable {fs fs' ex ex' : List Addr} {H H1 H2 : Hp} {h h1 h2 h' : Heap} {a x e : Addr} {o : HO}
theorem Un.any (u : Un fs ex H H1 h h1) {b : Addr} {ob : Obj} (q : h.get? b = some ob) (n : H b = none) (hx : b ∉ ex) : ∃ sl, h1.get? b = some { ob with slots := sl } := by
  by_cases hb : b ∈ fs
  · exact u.slot b ob q n hb hx
  · exact ⟨ob.slots, u.keep b ob q n hb hx⟩
theorem Un.kept (k : ∀ b u, h.get? b = some u → h'.get? b = some u) : Un fs ex H H h h' :=
  ⟨fun b ob q _ _ _ => k b ob q, fun b ob q _ _ _ => ⟨ob.slots, k b ob q⟩, fun _ _ _ n _ => n, fun b ob q _ => ⟨ob, k b ob q⟩, fun _ _ q => q, fun _ _ _ q => q, fun _ ps q => ⟨#[], by rw [q]; simp⟩⟩
theorem Un.refl : Un fs ex H H h h := Un.kept fun _ _ q => q
theorem Un.laid (k : ∀ b u, h.get? b = some u → h'.get? b = some u) (hp : h.objs.size ≤ a) (hn : H a = none) : Un fs ex H (upd H a o) h h' where
  keep := fun b u q _ _ _ => k b u q
  slot := fun b u q _ _ _ => ⟨u.slots, k b u q⟩
  free := fun b u q n _ => by rw [upd_ne (Nat.ne_of_lt (Nat.lt_of_lt_of_le (Heap.lt_size q) hp))]; exact n
  there := fun b u q _ => ⟨u, k b u q⟩
  tups := fun b xs q => by rw [upd_ne (ne_of_none q hn)]; exact q
  frzs := fun b u xs q => by rw [upd_ne (ne_of_none q hn)]; exact q
  tbls := fun b ps q => ⟨#[], by rw [upd_ne (ne_of_none q hn), q]; simp⟩
theorem Un.write (mu : Mut (H x)) (he : e = x ∨ H e = some (.own x)) (k : ∀ b u, b ≠ e → h.get? b = some u → h'.get? b = some u) (heo : ∃ u, h'.get? e = some u) : Un fs ex H (upd H x o) h h' := by
  have hx : ∀ b, H b = none → b ≠ x := fun b n z => by subst z; rw [n] at mu; exact mu
  have hb : ∀ b, H b = none → b ≠ e := fun b n z => by
    subst z
    rcases he with r | r
    · exact hx b n r
    · rw [n] at r; cases r
  have hm : ∀ b u, H b = some u → ¬ Mut (some u) → b ≠ x := fun b u q nm z => by subst z; rw [q] at mu; exact nm mu
  refine ⟨fun b u q n _ _ => k b u (hb b n) q, fun b u q n _ _ => ⟨u.slots, k b u (hb b n) q⟩, fun b u q n _ => by rw [upd_ne (hx b n)]; exact n, fun b u q _ => ?_,
    fun b xs q => by rw [upd_ne (hm b _ q fun z => z)]; exact q, fun b u xs q => by rw [upd_ne (hm b _ q fun z => z)]; exact q, fun b ps q => ⟨#[], by rw [upd_ne (hm b _ q fun z => z), q]; simp⟩⟩
  by_cases hbe : b = e
  · subst hbe; exact heo
  · exact ⟨u, k b u hbe q⟩
end
noncomputable def trk (h : Heap) (H : Hp) : List Addr := (List.range h.objs.size).filter fun a => (H a).isSome
noncomputable def hidT (h : Heap) (H : Hp) : Heap := PySem.W.hideAll h (trk h H)
theorem hidT_size (h : Heap) (H : Hp) : (hidT h H).objs.size = h.objs.size := PySem.W.hideAll_size _ _
theorem hidT_get {h : Heap} {H : Hp} {b : Addr} {o : Obj} (e : h.get? b = some o) (n : H b = none) : (hidT h H).get? b = some o :=
  PySem.W.hideAll_get _ e fun hm => by
    have q : (H b).isSome = true := (List.mem_filter.mp hm).2
    rw [n] at q; simp at q
theorem of_hidT {h : Heap} {H : Hp} {b : Addr} {o : Obj} (e : (hidT h H).get? b = some o) : h.get? b = some o ∧ H b = none := by
  have e' : h.get? b = some o := PySem.W.of_hideAll (trk h H) e
  refine ⟨e', ?_⟩
  cases q : H b with
  | none => rfl
  | some x =>
    have hm : b ∈ trk h H := List.mem_filter.mpr ⟨List.mem_range.mpr (Heap.lt_size e'), by simp [q]⟩
    have z : (hidT h H).get? b = none := PySem.W.hideAll_none (trk h H) hm
    rw [z] at e; cases e
end L2
namespace L2
open PySem PySem.Spec PyProof.Rows
structure Mod (K : PySem.W.Frag) (mg : Str → Option Value) (base : Heap) : Prop where
  kin : K.In base
  glob : base.Ns mainGlobals mg
  blt : ∃ mb, base.Ns builtinsNs mb ∧ ∀ x : Str, x ≠ "__name__" → mb x = bootBuiltins x
  nolimit : base.NoLimit
structure Cx where
  prog : Program
  w : World
  K : PySem.W.Frag
  mg : Str → Option Value
  base : Heap
  A : Around
  N : List Str
  s₀ : Shared
  H₀ : Hp
  env : Env
  outer : List Env
  stack : List Env
  ex : List Addr
  fn : Str → Bool
  calm : Bool
  pn : List (Addr × Obj)
  xe : Value → Shared → Prop
noncomputable def frs (l : List Env) : List Addr := l.filterMap (·.frame)
noncomputable abbrev Cx.fs (X : Cx) : List Addr := frs X.outer
noncomputable def Vis (sc : Scope) (x : Str) : Prop := sc.names.lookup x = some .local ∨ sc.names.lookup x = some .cell ∨ sc.names.lookup x = some .free
noncomputable def Loc (sc : Scope) (x : Str) : Prop := sc.names.lookup x = some .local ∨ sc.names.lookup x = some .cell
noncomputable def Look (env : Env) (h : Heap) (m : Str → Option Value) (x : Str) (u : Value) : Prop :=
  (env.kindOf x = some .local ∧ m x = some u) ∨ ((env.kindOf x = some .cell ∨ env.kindOf x = some .free) ∧ ∃ c, env.cells.lookup x = some c ∧ h.IsCell c (some u))
structure Cx.Ok (X : Cx) : Prop where
  mod : Mod X.K X.mg X.base
  kind : X.env.scope.kind = .function
  glob : X.env.globals = mainGlobals
  blt : X.env.builtins = builtinsNs
  above : X.s₀.heap.objs.size ≤ X.env.locals
  inj : ∀ x y c, X.env.cells.lookup x = some c → X.env.cells.lookup y = some c → x = y
  has : ∀ x, (X.env.kindOf x = some .cell ∨ X.env.kindOf x = some .free) → ∃ c, X.env.cells.lookup x = some c
  cab : ∀ x c, X.fn x = true → X.env.cells.lookup x = some c → X.s₀.heap.objs.size ≤ c
  hd : X.calm = true → X.A.handled = none
  frames : X.A.frames = some X.stack
  stk : X.stack = X.outer ∨ (X.stack = X.env :: X.outer ∧ X.env.frame = some X.env.locals)
  exf : ∀ b ∈ X.ex, b ≠ X.env.locals ∧ ∀ x c, X.env.cells.lookup x = some c → c ≠ b
  bs : ∀ b o, X.base.get? b = some o → X.s₀.heap.get? b = some o ∧ X.H₀ b = none
  bsz : X.base.objs.size ≤ X.s₀.heap.objs.size
  noex : ∀ b o, X.base.get? b = some o → b ∉ X.ex
  exfs : ∀ b ∈ X.ex, b ∉ X.fs
  funs : X.s₀.heap.FunFrames X.base X.outer
  frf : ∀ b ∈ X.fs, X.H₀ b = none
structure Inv (X : Cx) (pins : List (Addr × Obj)) (σ : List (Option V)) (H : Hp) (s : Shared) : Prop where
  ok : X.Ok
  os : s.os = X.s₀.os
  bare : AllBare s.gens
  base : Un X.fs X.ex X.H₀ H X.s₀.heap s.heap
  loc : ∃ m, s.heap.Ns X.env.locals m ∧ ∀ (i : Nat) (x : Str) (v : V), X.N[i]? = some x → σ[i]? = some (some v) → Vis X.env.scope x → ∃ u, RelV v u ∧ Look X.env s.heap m x u
  cell : ∀ x c, X.env.cells.lookup x = some c → ∃ v, s.heap.IsCell c v
  free : H X.env.locals = none
  freeC : ∀ x c, X.env.cells.lookup x = some c → H c = none
  pin : ∀ p ∈ X.pn ++ pins, s.heap.get? p.1 = some p.2 ∧ H p.1 = none ∧ p.1 ≠ X.env.locals ∧ p.1 ∉ X.fs ∧ ∀ v, p.2.data ≠ .cell v
  hok : HOk X.prog X.w H s.heap
  len : σ.length = X.N.length
section
variable {X : Cx} {pins : List (Addr × Obj)} {σ : List (Option V)} {H H' : Hp} {s : Shared} {h' : Heap}
theorem Cx.Ok.nofr (ok : X.Ok) {b : Addr} {o : Obj} (e : X.base.get? b = some o) : b ∉ X.fs := fun hb => by
  have := (ok.funs.mem hb).1
  rw [e] at this; cases this
theorem Inv.bs (I : Inv X pins σ H s) : ∀ b o, X.base.get? b = some o → s.heap.get? b = some o ∧ H b = none := fun b o e =>
  ⟨I.base.keep b o (I.ok.bs b o e).1 (I.ok.bs b o e).2 (I.ok.nofr e) (I.ok.noex b o e), I.base.free b o (I.ok.bs b o e).1 (I.ok.bs b o e).2 (I.ok.noex b o e)⟩
theorem Inv.bk (I : Inv X pins σ H s) : ∀ b o, X.base.get? b = some o → s.heap.get? b = some o := fun b o e => (I.bs b o e).1
theorem Inv.mod (I : Inv X pins σ H s) : Mod X.K X.mg X.base := I.ok.mod
theorem Inv.kIn (I : Inv X pins σ H s) : X.K.In s.heap := I.ok.mod.kin.keeps I.bk
theorem Inv.lt (I : Inv X pins σ H s) : X.env.locals < s.heap.objs.size := let ⟨_, hn, _⟩ := I.loc; hn.lt
theorem Inv.sz (I : Inv X pins σ H s) : X.s₀.heap.objs.size ≤ s.heap.objs.size := Nat.le_trans I.ok.above (Nat.le_of_lt I.lt)
theorem Inv.nofs (I : Inv X pins σ H s) {a : Addr} (h : s.heap.objs.size ≤ a) : a ∉ X.fs := fun hb => by
  obtain ⟨_, o, ho, _⟩ := I.ok.funs.mem hb
  exact absurd (Nat.lt_of_lt_of_le (Heap.lt_size ho) (Nat.le_trans I.sz h)) (Nat.lt_irrefl _)
theorem Inv.cne (I : Inv X pins σ H s) : ∀ x c, X.env.cells.lookup x = some c → c ≠ X.env.locals := fun x c e z => by
  obtain ⟨v, o, ho, hd⟩ := I.cell x c e
  obtain ⟨m, ⟨o', es, ep, ho', hd', _⟩, _⟩ := I.loc
  rw [z, ho'] at ho; cases ho; rw [hd'] at hd; cases hd
theorem Inv.funs (I : Inv X pins σ H s) : s.heap.FunFrames X.base X.outer := by
  have all : ∀ (l : List Env), (∀ b ∈ frs l, b ∈ X.fs) → X.s₀.heap.FunFrames X.base l → s.heap.FunFrames X.base l := by
    intro l
    induction l with
    | nil => intro _ _; trivial
    | cons env r ih =>
      intro hs hl
      obtain ⟨hk, ⟨L, o, hf, hn, ho, hd⟩, hr⟩ := hl
      have hL : L ∈ X.fs := hs L (by unfold frs; rw [List.filterMap_cons, hf]; exact List.mem_cons_self)
      obtain ⟨sl, e⟩ := I.base.slot L o ho (I.ok.frf L hL) hL fun z => I.ok.exfs L z hL
      exact ⟨hk, ⟨L, _, hf, hn, e, hd⟩, ih (fun b hb => hs b (by unfold frs; rw [List.filterMap_cons, hf]; exact List.mem_cons_of_mem _ hb)) hr⟩
  exact all X.outer (fun _ hb => hb) I.ok.funs
theorem Inv.stack (I : Inv X pins σ H s) : s.heap.FunFrames X.base X.stack := by
  rcases I.ok.stk with e | ⟨e, hf⟩
  · rw [e]; exact I.funs
  · rw [e]
    obtain ⟨m, hn, _⟩ := I.loc
    refine .cons (by rw [I.ok.kind]; decide) hf hn ?_ I.funs
    exact Heap.get?_none_of_le (Nat.le_trans I.ok.bsz I.ok.above)
theorem Inv.stkSub (I : Inv X pins σ H s) : ∀ b ∈ frs X.stack, b ∈ X.env.locals :: X.fs := fun b hb => by
  rcases I.ok.stk with e | ⟨e, hf⟩
  · rw [e] at hb; exact List.mem_cons_of_mem _ hb
  · rw [e] at hb
    unfold frs at hb
    rw [List.filterMap_cons, hf] at hb
    exact hb
theorem Inv.stkFree (I : Inv X pins σ H s) : ∀ b ∈ frs X.stack, H b = none := fun b hb => by
  rcases List.mem_cons.mp (I.stkSub b hb) with e | hb
  · rw [e]; exact I.free
  · obtain ⟨_, o, ho, _⟩ := I.ok.funs.mem hb
    exact I.base.free b o ho (I.ok.frf b hb) fun z => I.ok.exfs b z hb
theorem Inv.step {g' : Array GenState} {t' : Nat} {d' : Drawn} {ch : List Addr} (I : Inv X pins σ H s)
    (hch : ∀ b ∈ ch, (b ∈ X.ex ∨ X.s₀.heap.objs.size ≤ b) ∧ b ≠ X.env.locals ∧ (∀ x c, X.env.cells.lookup x = some c → c ≠ b) ∧ ∀ p ∈ X.pn ++ pins, p.1 ≠ b)
    (keep : ∀ b o, b ≠ X.env.locals → b ∉ X.fs → b ∉ ch → s.heap.get? b = some o → H b = none → h'.get? b = some o)
    (slot : ∀ b o, b ≠ X.env.locals → b ∈ X.fs → b ∉ ch → s.heap.get? b = some o → H b = none → ∃ sl, h'.get? b = some { o with slots := sl }) (free : ∀ b o, b ∉ ch → s.heap.get? b = some o → H b = none → H' b = none)
    (there : ∀ b o, b ∉ ch → s.heap.get? b = some o → ∃ o', h'.get? b = some o')
    (tups : ∀ b xs, H b = some (.tup xs) → H' b = some (.tup xs)) (frzs : ∀ b o u, H b = some (.frz o u) → H' b = some (.frz o u)) (tbls : ∀ b ps, H b = some (.tbl ps) → ∃ more, H' b = some (.tbl (ps ++ more)))
    (ns : ∀ m, s.heap.Ns X.env.locals m → h'.Ns X.env.locals m) (hok : HOk X.prog X.w H' h') (hg : AllBare g') :
    Inv X pins σ H' { s with heap := h', gens := g', drawn := d', toks := t' } := by
  have neL : ∀ b o, X.s₀.heap.get? b = some o → b ≠ X.env.locals := fun b o e => Nat.ne_of_lt (Nat.lt_of_lt_of_le (Heap.lt_size e) I.ok.above)
  have neC : ∀ b o, X.s₀.heap.get? b = some o → b ∉ X.ex → b ∉ ch := fun b o e hx hb => by
    rcases (hch b hb).1 with z | z
    · exact hx z
    · exact absurd (Nat.lt_of_lt_of_le (Heap.lt_size e) z) (Nat.lt_irrefl _)
  have cellK : ∀ x c, X.env.cells.lookup x = some c → ∀ v, s.heap.IsCell c v → h'.IsCell c v := fun x c e v ⟨o, ho, hd⟩ => by
    have nch : c ∉ ch := fun z => (hch c z).2.2.1 x c e rfl
    by_cases hc : c ∈ X.fs
    · obtain ⟨sl, q⟩ := slot c o (I.cne x c e) hc nch ho (I.freeC x c e)
      exact ⟨_, q, hd⟩
    · exact ⟨o, keep c o (I.cne x c e) hc nch ho (I.freeC x c e), hd⟩
  refine ⟨I.ok, I.os, hg, ⟨fun b o e n hb hx => ?_, fun b o e n hb hx => ?_, fun b o e n hx => ?_, fun b o e hx => ?_, fun b xs e => tups b xs (I.base.tups b xs e), fun b o xs e => frzs b o xs (I.base.frzs b o xs e), fun b ps e => ?_⟩, ?_, fun x c e => ?_, ?_, fun x c e => ?_, fun p hp => ?_, hok, I.len⟩
  · exact keep b o (neL b o e) hb (neC b o e hx) (I.base.keep b o e n hb hx) (I.base.free b o e n hx)
  · obtain ⟨sl, e1⟩ := I.base.slot b o e n hb hx
    obtain ⟨sl', e2⟩ := slot b _ (neL b o e) hb (neC b o e hx) e1 (I.base.free b o e n hx)
    exact ⟨sl', e2⟩
  · obtain ⟨o', e1⟩ := I.base.there b o e hx
    exact free b o' (neC b o e hx) e1 (I.base.free b o e n hx)
  · obtain ⟨o', e1⟩ := I.base.there b o e hx
    exact there b o' (neC b o e hx) e1
  · obtain ⟨m1, e1⟩ := I.base.tbls b ps e
    obtain ⟨m2, e2⟩ := tbls b _ e1
    exact ⟨m1 ++ m2, by rw [e2, Array.append_assoc]⟩
  · obtain ⟨m, hn, hl⟩ := I.loc
    refine ⟨m, ns m hn, fun i x v e1 e2 e3 => ?_⟩
    obtain ⟨u, r, l⟩ := hl i x v e1 e2 e3
    refine ⟨u, r, ?_⟩
    rcases l with l | ⟨k, c, e, z⟩
    · exact .inl l
    · exact .inr ⟨k, c, e, cellK x c e _ z⟩
  · obtain ⟨v, z⟩ := I.cell x c e
    exact ⟨v, cellK x c e v z⟩
  · obtain ⟨m, ⟨o, _, _, ho, _⟩, _⟩ := I.loc
    exact free _ o (fun z => (hch _ z).2.1 rfl) ho I.free
  · obtain ⟨v, o, ho, hd⟩ := I.cell x c e
    exact free c o (fun z => (hch c z).2.2.1 x c e rfl) ho (I.freeC x c e)
  · obtain ⟨e, n, ne, nf, d⟩ := I.pin p hp
    have nch : p.1 ∉ ch := fun z => (hch p.1 z).2.2.2 p hp rfl
    exact ⟨keep p.1 p.2 ne nf nch e n, free p.1 p.2 nch e n, ne, nf, d⟩
theorem Inv.un {t' : Nat} (I : Inv X pins σ H s) (u : Un X.fs [] H H' s.heap h') (hok : HOk X.prog X.w H' h') : Inv X pins σ H' { s with heap := h', toks := t' } := by
  obtain ⟨m, ⟨o, es, ep, ho, r⟩, _⟩ := id I.loc
  obtain ⟨sl, hL⟩ := u.any ho I.free (by simp)
  exact I.step (g' := s.gens) (d' := s.drawn) (ch := []) (fun _ z => nomatch z) (fun b o _ hb _ e n => u.keep b o e n hb (by simp)) (fun b o _ hb _ e n => u.slot b o e n hb (by simp)) (fun b o _ e n => u.free b o e n (by simp)) (fun b o _ e => u.there b o e (by simp)) u.tups u.frzs u.tbls (fun m' hm => by
    obtain ⟨o', es', ep', ho', r'⟩ := hm
    rw [ho] at ho'; cases ho'
    exact ⟨_, es', ep', hL, r'⟩) hok I.bare
theorem Inv.call {g' : Array GenState} {t' : Nat} {d' : Drawn} {ch : List Addr} (I : Inv X pins σ H s) (u : Un (frs X.stack) ch H H' s.heap h') (hok : HOk X.prog X.w H' h') (hg : AllBare g')
    (hch : ∀ b ∈ ch, (b ∈ X.ex ∨ X.s₀.heap.objs.size ≤ b) ∧ b ≠ X.env.locals ∧ (∀ x c, X.env.cells.lookup x = some c → c ≠ b) ∧ ∀ p ∈ X.pn ++ pins, p.1 ≠ b) :
    Inv X pins σ H' { s with heap := h', gens := g', drawn := d', toks := t' } := by
  obtain ⟨m, ⟨o, es, ep, ho, r⟩, _⟩ := id I.loc
  obtain ⟨sl, hL⟩ := u.any ho I.free fun z => (hch _ z).2.1 rfl
  exact I.step (ch := ch) hch (fun b o hL hb hc e n => u.keep b o e n (fun z => (List.mem_cons.mp (I.stkSub b z)).elim hL hb) hc) (fun b o _ _ hc e n => u.any e n hc) (fun b o hc e n => u.free b o e n hc) (fun b o hc e => u.there b o e hc) u.tups u.frzs u.tbls (fun m' hm => by
    obtain ⟨o', es', ep', ho', r'⟩ := hm
    rw [ho] at ho'; cases ho'
    exact ⟨_, es', ep', hL, r'⟩) hok hg
theorem Inv.turned {t' : Nat} {it : Addr} (I : Inv X pins σ H s) (k : ∀ b o, b ≠ it → s.heap.get? b = some o → h'.get? b = some o) (hn : H it = none) (hL : it ≠ X.env.locals)
    (h1 : it ∈ X.ex ∨ X.s₀.heap.objs.size ≤ it) (h2 : ∀ x c, X.env.cells.lookup x = some c → c ≠ it) (h3 : ∀ p ∈ X.pn ++ pins, p.1 ≠ it) : Inv X pins σ H { s with heap := h', toks := t' } := by
  have nit : ∀ b u, H b = some u → b ≠ it := fun b u e z => by rw [z, hn] at e; cases e
  refine I.step (g' := s.gens) (d' := s.drawn) (ch := [it]) (fun b hb => ?_) (fun b o _ _ hc e _ => k b o (fun z => hc (by simp [z])) e) (fun b o _ _ hc e _ => ⟨o.slots, k b o (fun z => hc (by simp [z])) e⟩) (fun _ _ _ _ n => n)
    (fun b o hc e => ⟨o, k b o (fun z => hc (by simp [z])) e⟩) (fun _ _ e => e) (fun _ _ _ e => e) (fun b ps e => ⟨#[], by rw [e]; simp⟩) (fun m hm => ?_) (fun b u e => ?_) I.bare
  · have e : b = it := by simpa using hb
    subst e
    exact ⟨h1, hL, h2, h3⟩
  · obtain ⟨o, es, ep, ho, r⟩ := hm
    exact ⟨o, es, ep, k _ o (Ne.symm hL) ho, r⟩
  · refine (I.hok b u e).stay (fun c v hc q => k c v ?_ q) (fun _ q => q) fun _ _ q => q
    rcases hc with z | z
    · rw [z]; exact nit b u e
    · exact nit c _ z
theorem Inv.tok (I : Inv X pins σ H s) (t : Nat) : Inv X pins σ H { s with toks := t } := I.un (h' := s.heap) (t' := t) Un.refl I.hok
theorem Inv.kept {t' : Nat} (I : Inv X pins σ H s) (k : ∀ b u, s.heap.get? b = some u → h'.get? b = some u) : Inv X pins σ H { s with heap := h', toks := t' } := I.un (Un.kept k) (I.hok.kept k)
theorem Inv.laid {a : Addr} {o : HO} {t' : Nat} (I : Inv X pins σ H s) (k : ∀ b u, s.heap.get? b = some u → h'.get? b = some u) (hp : s.heap.objs.size ≤ a) (new : ObjOk X.prog X.w (upd H a o) h' a o) :
    Inv X pins σ (upd H a o) { s with heap := h', toks := t' } := I.un (Un.laid k hp (I.hok.fresh hp)) (I.hok.laid k hp new)
theorem Inv.write {x e : Addr} {o : HO} {t' : Nat} (I : Inv X pins σ H s) (mu : Mut (H x)) (he : e = x ∨ H e = some (.own x)) (k : ∀ b u, b ≠ e → s.heap.get? b = some u → h'.get? b = some u) (heo : ∃ u, h'.get? e = some u)
    (new : ObjOk X.prog X.w (upd H x o) h' x o) : Inv X pins σ (upd H x o) { s with heap := h', toks := t' } := I.un (Un.write mu he k heo) (I.hok.write mu he k heo new)
theorem Inv.pins_of {pins' : List (Addr × Obj)} (I : Inv X pins σ H s) (h : ∀ p ∈ pins', s.heap.get? p.1 = some p.2 ∧ H p.1 = none ∧ p.1 ≠ X.env.locals ∧ p.1 ∉ X.fs ∧ ∀ v, p.2.data ≠ .cell v) : Inv X pins' σ H s :=
  ⟨I.ok, I.os, I.bare, I.base, I.loc, I.cell, I.free, I.freeC, fun p hp => (List.mem_append.mp hp).elim (fun z => I.pin p (List.mem_append_left _ z)) (h p), I.hok, I.len⟩
theorem nodup_ix {N : List Str} (hN : N.Nodup) {i j : Nat} {x : Str} (a : N[i]? = some x) (b : N[j]? = some x) : i = j := by
  obtain ⟨h1, e1⟩ := List.getElem?_eq_some_iff.mp a
  obtain ⟨h2, e2⟩ := List.getElem?_eq_some_iff.mp b
  exact (List.getElem_inj hN).mp (e1.trans e2.symm)
theorem store_ok2 {M : Model} {A : Around} {E : Value → Shared → Prop} {i : Nat} {x : Str} {v : V} {u : Value} {Q : Unit → Shared → Prop} (I : Inv X pins σ H s) (hN : X.N.Nodup) (hi : X.N[i]? = some x) (hx : Loc X.env.scope x) (r : RelV v u)
    (h : ∀ s', Inv X pins (σ.set i (some v)) H s' → (∃ a, Heap.SameBut a s.heap s'.heap ∧ (a = X.env.locals ∨ X.env.cells.lookup x = some a)) → Q () s') (hf : autoParam (X.fn x = true ∨ X.env.scope.names.lookup x = some .local) L2.aFst._auto_1) : wpAny M A (storeName X.env x u) Q E s := by
  obtain ⟨m, hn, hl⟩ := id I.loc
  have hcls : (X.env.scope.kind == .class || (X.env.scope.kind == .module && X.env.locals != X.env.globals)) = false := by rw [I.ok.kind]; rfl
  have hiσ : i < σ.length := by rw [I.len]; exact (List.getElem?_eq_some_iff.mp hi).1
  have cne := I.cne
  have tracked : ∀ {a : Addr} {h' : Heap}, (∃ o, s.heap.get? a = some o ∧ H a = none) → Heap.SameBut a s.heap h' → HOk X.prog X.w H h' := fun {a h'} ha hs b ob e => by
    obtain ⟨_, _, hfree⟩ := ha
    refine (I.hok b ob e).stay (fun c w' hc q => (hs.2 c ?_).trans q) (fun _ q => q) fun _ _ q => q
    rintro rfl
    rcases hc with rfl | hc
    · rw [hfree] at e; cases e
    · rw [hfree] at hc; cases hc
  rcases hx with hk | hk
  · refine wpAny_storeName_local hk hn (fun h' hn' hs => ?_) hcls
    obtain ⟨oL, _, _, hoL, _⟩ := id hn
    refine h _ ⟨I.ok, I.os, I.bare, ⟨fun b o e n hb hx => ?_, fun b o e n hb hx => ?_, I.base.free, fun b o e hx => ?_, I.base.tups, I.base.frzs, I.base.tbls⟩, ⟨_, hn', fun j y v' e1 e2 e3 => ?_⟩, fun y c e => ?_, I.free, I.freeC, fun p hp => ?_, tracked ⟨oL, hoL, I.free⟩ hs, by simpa using I.len⟩ ⟨_, hs, .inl rfl⟩
    · exact (hs.2 b (Nat.ne_of_lt (Nat.lt_of_lt_of_le (Heap.lt_size e) I.ok.above))).trans (I.base.keep b o e n hb hx)
    · obtain ⟨sl, e1⟩ := I.base.slot b o e n hb hx
      exact ⟨sl, (hs.2 b (Nat.ne_of_lt (Nat.lt_of_lt_of_le (Heap.lt_size e) I.ok.above))).trans e1⟩
    · obtain ⟨o', e1⟩ := I.base.there b o e hx
      exact ⟨o', (hs.2 b (Nat.ne_of_lt (Nat.lt_of_lt_of_le (Heap.lt_size e) I.ok.above))).trans e1⟩
    · by_cases hj : j = i
      · subst hj
        rw [hi] at e1; cases e1
        rw [List.getElem?_set_self hiσ] at e2
        cases e2
        exact ⟨u, r, .inl ⟨hk, by simp⟩⟩
      · rw [List.getElem?_set_ne (Ne.symm hj)] at e2
        obtain ⟨u', r', q⟩ := hl j y v' e1 e2 e3
        refine ⟨u', r', ?_⟩
        rcases q with ⟨k, e⟩ | ⟨k, c, e, z⟩
        · refine .inl ⟨k, ?_⟩
          have : y ≠ x := fun e => hj (nodup_ix hN e1 (e ▸ hi))
          simp [this, e]
        · exact .inr ⟨k, c, e, z.sameBut hs (cne y c e)⟩
    · obtain ⟨w', z⟩ := I.cell y c e
      exact ⟨w', z.sameBut hs (cne y c e)⟩
    · obtain ⟨e, n, ne, nf, d⟩ := I.pin p hp
      exact ⟨(hs.2 p.1 ne).trans e, n, ne, nf, d⟩
  · have hfn : X.fn x = true := by
      rcases hf with z | z
      · exact z
      · rw [z] at hk; cases hk
    obtain ⟨c, hc⟩ := I.ok.has x (.inl hk)
    obtain ⟨w', z⟩ := I.cell x c hc
    refine wpAny_storeName_cell I.ok.kind hk hc z (fun h' hc' hs => ?_)
    obtain ⟨oc, hoc, hocd⟩ := id z
    refine h { s with heap := h' } ⟨I.ok, I.os, I.bare, ⟨fun b o e n hb hx => ?_, fun b o e n hb hx => ?_, I.base.free, fun b o e hx => ?_, I.base.tups, I.base.frzs, I.base.tbls⟩, ⟨m, hn.sameBut hs (Ne.symm (cne x c hc)), fun j y v' e1 e2 e3 => ?_⟩, fun y c' e => ?_, I.free, I.freeC, fun p hp => ?_, tracked ⟨oc, hoc, I.freeC x c hc⟩ hs, by simpa using I.len⟩ ⟨c, hs, .inr hc⟩
    · exact (hs.2 b (Nat.ne_of_lt (Nat.lt_of_lt_of_le (Heap.lt_size e) (I.ok.cab x c hfn hc)))).trans (I.base.keep b o e n hb hx)
    · obtain ⟨sl, e1⟩ := I.base.slot b o e n hb hx
      exact ⟨sl, (hs.2 b (Nat.ne_of_lt (Nat.lt_of_lt_of_le (Heap.lt_size e) (I.ok.cab x c hfn hc)))).trans e1⟩
    · obtain ⟨o', e1⟩ := I.base.there b o e hx
      exact ⟨o', (hs.2 b (Nat.ne_of_lt (Nat.lt_of_lt_of_le (Heap.lt_size e) (I.ok.cab x c hfn hc)))).trans e1⟩
    · by_cases hj : j = i
      · subst hj
        rw [hi] at e1; cases e1
        rw [List.getElem?_set_self hiσ] at e2
        cases e2
        exact ⟨u, r, .inr ⟨.inl hk, c, hc, hc'⟩⟩
      · rw [List.getElem?_set_ne (Ne.symm hj)] at e2
        obtain ⟨u', r', q⟩ := hl j y v' e1 e2 e3
        refine ⟨u', r', ?_⟩
        rcases q with q | ⟨k, c', e, z'⟩
        · exact .inl q
        · refine .inr ⟨k, c', e, z'.sameBut hs ?_⟩
          rintro rfl
          exact hj (nodup_ix hN e1 (I.ok.inj _ _ _ e hc ▸ hi))
    · by_cases hcc : c' = c
      · subst hcc; exact ⟨_, hc'⟩
      · obtain ⟨w2, z2⟩ := I.cell y c' e
        exact ⟨w2, z2.sameBut hs hcc⟩
    · obtain ⟨e, n, ne, nf, d⟩ := I.pin p hp
      refine ⟨(hs.2 p.1 ?_).trans e, n, ne, nf, d⟩
      intro q
      rw [q, hoc] at e
      have q' : oc = p.2 := Option.some.inj e
      exact d w' (by rw [← q']; exact hocd)
theorem store_ok {M : Model} {A : Around} {E : Value → Shared → Prop} {i : Nat} {x : Str} {v : V} {u : Value} {Q : Unit → Shared → Prop} (I : Inv X pins σ H s) (hN : X.N.Nodup) (hi : X.N[i]? = some x) (hx : Loc X.env.scope x) (r : RelV v u)
    (h : ∀ s', Inv X pins (σ.set i (some v)) H s' → Q () s') (hf : autoParam (X.fn x = true ∨ X.env.scope.names.lookup x = some .local) L2.aFst._auto_1) : wpAny M A (storeName X.env x u) Q E s :=
  store_ok2 I hN hi hx r (fun s' I' _ => h s' I') hf
theorem Inv.call' {s' : Shared} {ch : List Addr} (I : Inv X pins σ H s) (ho : s'.os = s.os) (u : Un (frs X.stack) ch H H' s.heap s'.heap) (hok : HOk X.prog X.w H' s'.heap) (hg : AllBare s'.gens)
    (hch : ∀ b ∈ ch, (b ∈ X.ex ∨ X.s₀.heap.objs.size ≤ b) ∧ b ≠ X.env.locals ∧ (∀ x c, X.env.cells.lookup x = some c → c ≠ b) ∧ ∀ p ∈ X.pn ++ pins, p.1 ≠ b) : Inv X pins σ H' s' := by
  obtain ⟨h', g', d', t', o'⟩ := s'
  have e : o' = s.os := ho
  subst e
  exact I.call (g' := g') (t' := t') (d' := d') u hok hg hch
end
noncomputable abbrev XK := Value → Option Addr → Hp → Prop
noncomputable abbrev St := List (Option V)
noncomputable abbrev VK := V → Hp → Prop
noncomputable abbrev TE := St → Hp → VK → Prop
noncomputable abbrev TT := St → Hp → (Bool → Hp → Prop) → Prop
noncomputable abbrev TA := St → Hp → (List V → Hp → Prop) → Prop
structure Ends where
  nx : St → Hp → Prop
  rt : VK
  bk : St → Hp → Prop := fun _ _ => False
  ct : St → Hp → Prop := fun _ _ => False
noncomputable abbrev TS := Ends → St → Hp → Prop
noncomputable def EP (X : Cx) (pins : List (Addr × Obj)) (σ : St) (Q : VK) (u : Value) (s' : Shared) : Prop := ∃ v H', Inv X pins σ H' s' ∧ RelV v u ∧ Q v H'
noncomputable def TP (X : Cx) (pins : List (Addr × Obj)) (σ : St) (Q : Bool → Hp → Prop) (b : Bool) (s' : Shared) : Prop := ∃ H', Inv X pins σ H' s' ∧ Q b H'
noncomputable def AP (X : Cx) (pins : List (Addr × Obj)) (σ : St) (Q : List V → Hp → Prop) (us : List Value) (s' : Shared) : Prop := ∃ vs H', Inv X pins σ H' s' ∧ Vals vs us ∧ Q vs H'
noncomputable def SP (X : Cx) (pins : List (Addr × Obj)) (D : Ends) (f : Flow) (s' : Shared) : Prop :=
  match f with
  | .next => ∃ σ' H', Inv X pins σ' H' s' ∧ D.nx σ' H'
  | .brk => ∃ σ' H', Inv X pins σ' H' s' ∧ D.bk σ' H'
  | .cont => ∃ σ' H', Inv X pins σ' H' s' ∧ D.ct σ' H'
  | .ret u => ∃ v σ' H', Inv X pins σ' H' s' ∧ RelV v u ∧ D.rt v H'
noncomputable def PE (X : Cx) (e : Expr) (t : TE) : Prop :=
  ∀ (pins : List (Addr × Obj)) (s : Shared) (σ : St) (H : Hp) (Q : VK), Inv X pins σ H s → t σ H Q → wpAny (model X.prog X.w) X.A (eval e X.env) (EP X pins σ Q) X.xe s
noncomputable def PT (X : Cx) (e : Expr) (t : TT) : Prop :=
  ∀ (pins : List (Addr × Obj)) (s : Shared) (σ : St) (H : Hp) (Q : Bool → Hp → Prop), Inv X pins σ H s → t σ H Q → wpAny (model X.prog X.w) X.A (isTrue e X.env (eval e X.env)) (TP X pins σ Q) X.xe s
noncomputable def PW (X : Cx) (e : Expr) (t : TT) : Prop :=
  ∀ (whole : Sem Value) (pins : List (Addr × Obj)) (s : Shared) (σ : St) (H : Hp) (Q : Bool → Hp → Prop), Inv X pins σ H s → t σ H Q → wpAny (model X.prog X.w) X.A (isTrue e X.env whole) (TP X pins σ Q) X.xe s
theorem PW.pt {X : Cx} {e : Expr} {t : TT} (h : PW X e t) : PT X e t := h _
noncomputable def PA (X : Cx) (es : List Expr) (t : TA) : Prop :=
  ∀ (pos : Pos) (pins : List (Addr × Obj)) (s : Shared) (σ : St) (H : Hp) (Q : List V → Hp → Prop), Inv X pins σ H s → t σ H Q → wpAny (model X.prog X.w) X.A (spliced (backTo pos (starEach es X.env))) (AP X pins σ Q) X.xe s
noncomputable def PS (X : Cx) (st : Stmt) (t : TS) : Prop :=
  ∀ (pins : List (Addr × Obj)) (s : Shared) (σ : St) (H : Hp) (D : Ends), Inv X pins σ H s → t D σ H → wpAny (model X.prog X.w) X.A (exec st X.env) (SP X pins D) X.xe s
noncomputable def PSs (X : Cx) (st : List Stmt) (t : TS) : Prop :=
  ∀ (pins : List (Addr × Obj)) (s : Shared) (σ : St) (H : Hp) (D : Ends), Inv X pins σ H s → t D σ H → wpAny (model X.prog X.w) X.A (execs st X.env) (SP X pins D) X.xe s
theorem thn {α : Type} {t : Sem α} {Q Q' : α → Shared → Prop} {M : Model} {A : Around} {E : Value → Shared → Prop} {s : Shared} (h : wpAny M A t Q E s) (hQ : ∀ a s, Q a s → Q' a s) : wpAny M A t Q' E s := wpAny_mono h hQ fun _ _ x => x
end L2
namespace L2
open PySem PySem.Spec PyProof.Rows
section
variable {X : Cx}
noncomputable def tVar (i : Nat) : TE := fun σ H Q => ∃ v, σ[i]? = some (some v) ∧ Q v H
noncomputable def tC (v : V) : TE := fun _ H Q => Q v H
theorem pe_var {i : Nat} {x : Str} {pos : Pos} (hN : X.N[i]? = some x) (hv : Vis X.env.scope x) (hd : autoParam ((x == ("__debug__" : Str)) = false) L2.aDec._auto_1) (hcd : autoParam ((x == ("__classdict__" : Str)) = false) L2.aDec._auto_1) : PE X (.Name x pos) (tVar i) := by
  intro pins s σ H Q I h
  obtain ⟨v, e, h⟩ := h
  obtain ⟨m, hn, hl⟩ := I.loc
  obtain ⟨u, r, l⟩ := hl i x v hN e hv
  have fin : EP X pins σ Q u s := ⟨v, H, I, r, h⟩
  rcases l with ⟨hk, hm⟩ | ⟨hk, c, hc, hcell⟩
  · exact wpAny_Name (wpAny_loadName_local I.ok.kind hk hn hm fin) hd
  · rcases hk with hk | hk
    · exact wpAny_Name (wpAny_loadName_cell I.ok.kind hk hc hcell fin) hd
    · exact wpAny_Name (wpAny_loadName_free I.ok.kind hk hc hcell fin hcd) hd
theorem pe_int {i j pos} : PE X (.Constant (.int i) j pos) (tC (.int i)) := fun _ _ _ H _ I h => wpAny_Constant_int ⟨.int i, H, I.tok _, ⟨_, rfl⟩, h⟩
theorem pe_bl {b j pos} : PE X (.Constant (.bool b) j pos) (tC (.bl b)) := fun _ _ _ H _ I h => Constant_bool ⟨.bl b, H, I, rfl, h⟩
theorem pe_non {j pos} : PE X (.Constant .none j pos) (tC .non) := fun _ _ _ H _ I h => Constant_none ⟨.non, H, I, rfl, h⟩
noncomputable def Gl (X : Cx) (x : Str) : Prop := X.env.kindOf x = some .globalImplicit
theorem ld_glob {E : Value → Shared → Prop} {pins : List (Addr × Obj)} {s : Shared} {σ : St} {H : Hp} {x : Str} {u : Value} {pos : Pos} {Q : Value → Shared → Prop} (I : Inv X pins σ H s) (hg : Gl X x) (hm : X.mg x = some u) (h : Q u s)
    (hd : autoParam ((x == ("__debug__" : Str)) = false) L2.aDec._auto_1) : wpAny (model X.prog X.w) X.A (eval (.Name x pos) X.env) Q E s :=
  Calls.Name_function_global I.ok.kind hg (Calls.loadGlobal_global (by rw [I.ok.glob]; exact I.mod.glob.keeps I.bk) hm h) hd
theorem ld_blt {E : Value → Shared → Prop} {pins : List (Addr × Obj)} {s : Shared} {σ : St} {H : Hp} {x : Str} {u : Value} {pos : Pos} {Q : Value → Shared → Prop} (I : Inv X pins σ H s) (hg : Gl X x) (hm : X.mg x = none) (hv : bootBuiltins x = some u) (h : Q u s)
    (hn : autoParam (x ≠ "__name__") L2.aDec._auto_1) (hd : autoParam ((x == ("__debug__" : Str)) = false) L2.aDec._auto_1) : wpAny (model X.prog X.w) X.A (eval (.Name x pos) X.env) Q E s := by
  obtain ⟨mb, h1, h2⟩ := I.mod.blt
  exact Calls.Name_function_global I.ok.kind hg (Calls.loadGlobal_builtin (by rw [I.ok.glob]; exact I.mod.glob.keeps I.bk) hm (by rw [I.ok.blt]; exact h1.keeps I.bk) ((h2 x hn).trans hv) h) hd
theorem pe_bltn {x : Str} {v : V} {u : Value} {pos : Pos} (hg : Gl X x) (hm : X.mg x = none) (hv : bootBuiltins x = some u) (r : RelV v u) (hn : autoParam (x ≠ "__name__") L2.aDec._auto_1) (hd : autoParam ((x == ("__debug__" : Str)) = false) L2.aDec._auto_1) : PE X (.Name x pos) (tC v) :=
  fun _ _ _ H _ I h => ld_blt I hg hm hv ⟨v, H, I, r, h⟩ hn hd
variable {a b : Expr} {ta tb : TE} {pos : Pos}
noncomputable def tB (t : TE) : TT := fun σ H Q => t σ H fun x H1 => ∃ c, x = .bl c ∧ Q c H1
theorem pt_val {e : Expr} {t : TE} (h : PE X e t) (he : autoParam (∀ whole, isTrue e X.env whole = (do let v ← whole; standAt e.pos; holding [v] (truthy v))) L2.aIrf._auto_1) : PT X e (tB t) := by
  intro pins s σ H Q I hw
  refine isTrue_plain (thn (h pins s σ H _ I hw) fun v s1 ⟨x, H1, I1, r1, q1⟩ => ?_) (he _)
  obtain ⟨d, rfl, q⟩ := q1
  cases r1
  exact wpAny_truthy_bool ⟨H1, I1, q⟩
variable {tA tB' : TT} {rest : List Expr}
noncomputable def tAnd (t u : TT) : TT := fun σ H Q => t σ H fun c H1 => if c = true then u σ H1 Q else Q false H1
noncomputable def tOr (t u : TT) : TT := fun σ H Q => t σ H fun c H1 => if c = true then Q true H1 else u σ H1 Q
noncomputable def tNot (t : TT) : TT := fun σ H Q => t σ H fun c H1 => Q (!c) H1
theorem pw_and1 (ha : PT X a tA) : PW X (.BoolOp .And [a] pos) tA := by
  intro wh pins s σ H Q I h
  refine isTrue_and (thn (ha pins s σ H Q I h) fun c s1 e => ?_)
  cases c with
  | true => exact isTrue_and_nil e
  | false => exact e
theorem pw_or1 (ha : PT X a tA) : PW X (.BoolOp .Or [a] pos) tA := by
  intro wh pins s σ H Q I h
  refine isTrue_or (thn (ha pins s σ H Q I h) fun c s1 e => ?_)
  cases c with
  | false => exact isTrue_or_nil e
  | true => exact e
theorem pw_and (ha : PT X a tA) (hb : PW X (.BoolOp .And (b :: rest) pos) tB') : PW X (.BoolOp .And (a :: b :: rest) pos) (tAnd tA tB') := by
  intro wh pins s σ H Q I h
  refine isTrue_and (thn (ha pins s σ H _ I h) fun c s1 ⟨H1, I1, q1⟩ => ?_)
  cases c with
  | true => exact hb wh pins s1 σ H1 Q I1 q1
  | false => exact ⟨H1, I1, q1⟩
theorem pw_or (ha : PT X a tA) (hb : PW X (.BoolOp .Or (b :: rest) pos) tB') : PW X (.BoolOp .Or (a :: b :: rest) pos) (tOr tA tB') := by
  intro wh pins s σ H Q I h
  refine isTrue_or (thn (ha pins s σ H _ I h) fun c s1 ⟨H1, I1, q1⟩ => ?_)
  cases c with
  | true => exact ⟨H1, I1, q1⟩
  | false => exact hb wh pins s1 σ H1 Q I1 q1
theorem pt_not (ha : PT X a tA) : PT X (.UnaryOp .Not a pos) (tNot tA) := by
  intro pins s σ H Q I h
  exact isTrue_not (ha pins s σ H (fun c H1 => Q (!c) H1) I h)
noncomputable def tAndV (ta tb : TE) : TE := fun σ H Q => ta σ H fun x H1 => ∃ c, x = .bl c ∧ if c = true then tb σ H1 Q else Q (.bl false) H1
noncomputable def tNotV (ta : TE) : TE := fun σ H Q => ta σ H fun x H1 => ∃ c, x = .bl c ∧ Q (.bl (!c)) H1
theorem pe_one {op} {t : TE} (h : PE X a t) : PE X (.BoolOp op [a] pos) t := fun pins s σ H Q I hw => BoolOp_one (h pins s σ H Q I hw)
theorem pe_and (ha : PE X a ta) (hb : PE X (.BoolOp .And (b :: rest) pos) tb) : PE X (.BoolOp .And (a :: b :: rest) pos) (tAndV ta tb) := by
  intro pins s σ H Q I h
  refine BoolOp_and (thn (ha pins s σ H _ I h) fun v s1 ⟨x, H1, I1, r1, q1⟩ => ?_)
  obtain ⟨c, rfl, q1⟩ := q1
  cases r1
  refine wpAny_truthy_bool ?_
  cases c with
  | true => exact hb pins s1 σ H1 Q I1 q1
  | false => exact ⟨.bl false, H1, I1, rfl, q1⟩
theorem pe_not (ha : PE X a ta) : PE X (.UnaryOp .Not a pos) (tNotV ta) := by
  intro pins s σ H Q I h
  refine UnaryOp_ (thn (ha pins s σ H _ I h) fun v s1 ⟨x, H1, I1, r1, q1⟩ => ?_)
  obtain ⟨c, rfl, q1⟩ := q1
  cases r1
  exact not_of (wpAny_truthy_bool ⟨.bl (!c), H1, I1, rfl, q1⟩)
noncomputable def tIf (t : TT) (ta tb : TE) : TE := fun σ H Q => t σ H fun c H1 => if c = true then ta σ H1 Q else tb σ H1 Q
theorem pe_ifExp {c : Expr} (hc : PT X c tA) (ha : PE X a ta) (hb : PE X b tb) : PE X (.IfExp c a b pos) (tIf tA ta tb) := by
  intro pins s σ H Q I h
  refine wpAny_IfExp (thn (hc pins s σ H _ I h) fun d s1 ⟨H1, I1, q1⟩ => ?_)
  cases d with
  | true => exact ha pins s1 σ H1 Q I1 q1
  | false => exact hb pins s1 σ H1 Q I1 q1
end
end L2
namespace L2
open PySem PySem.Spec PyProof.Rows
noncomputable def SqL (K : PySem.W.Frag) (H : Hp) (a : Addr) (xs : List V) : Prop :=
  Rd H a (.lst xs) ∨
    ∃ (o : Obj) (its : Array Value) (n : Nat), K.lookup a = some o ∧ o.cls = .type "list" ∧ o.dict = none ∧ o.data = .seq its n ∧ its.size ≤ sizeLine ∧ Vals xs its.toList
noncomputable def SqT (K : PySem.W.Frag) (H : Hp) (a : Addr) (xs : List V) : Prop :=
  Rd H a (.tup xs) ∨
    ∃ (o : Obj) (its : Array Value) (n : Nat), K.lookup a = some o ∧ o.cls = .type "tuple" ∧ o.data = .seq its n ∧ its.size ≤ sizeLine ∧ Vals xs its.toList
noncomputable def absV : Value → Option V
  | .none => some .non
  | .bool b => some (.bl b)
  | .int i _ => some (.int i)
  | .str x _ => some (.str x)
  | .bytes b _ => some (.byt b)
  | .float b _ => some (.flt b)
  | .ref a => some (.ref a)
  | .type n => some (.ty n)
  | _ => none
theorem RelV.abs {x : V} {u : Value} (r : RelV x u) : absV u = some x := by
  cases x with
  | non => cases r; rfl
  | bl _ => cases r; rfl
  | int _ => obtain ⟨t, rfl⟩ := r; rfl
  | str _ => obtain ⟨t, rfl⟩ := r; rfl
  | byt _ => obtain ⟨t, rfl⟩ := r; rfl
  | flt _ => obtain ⟨t, rfl⟩ := r; rfl
  | ref _ => cases r; rfl
  | ty _ => cases r; rfl
theorem RelV.inj {x y : V} {u : Value} (r : RelV x u) (q : RelV y u) : x = y := Option.some.inj (r.abs.symm.trans q.abs)
theorem Vals.inj {xs ys : List V} {us : List Value} (h : Vals xs us) (g : Vals ys us) : xs = ys := by
  induction h generalizing ys with
  | nil => cases g; rfl
  | cons r t ih =>
    cases g with
    | cons r' t' => rw [r.inj r', ih t']
section
variable {X : Cx} {pins : List (Addr × Obj)} {σ : St} {H : Hp} {s : Shared} {a : Addr} {xs ys : List V}
theorem Inv.list (I : Inv X pins σ H s) (h : SqL X.K H a xs) : ∃ its : List Value, Vals xs its ∧ PlainL s.heap a its.toArray ∧ xs.length ≤ sizeLine := by
  rcases h with h | ⟨o, its, n, hk, hc, hd, hs, hz, r⟩
  · obtain ⟨z, its, n, r, e⟩ := h.ok I.hok
    exact ⟨its, r, ⟨_, n, e, rfl, rfl, rfl⟩, z⟩
  · refine ⟨its.toList, r, ⟨o, n, I.kIn a o hk, hc, hd, by simpa using hs⟩, ?_⟩
    have e := r.length
    simp only [Array.length_toList] at e
    omega
theorem Inv.tuple (I : Inv X pins σ H s) (h : SqT X.K H a xs) : ∃ its : List Value, Vals xs its ∧ IsTup s.heap a its.toArray ∧ xs.length ≤ sizeLine := by
  rcases h with h | ⟨o, its, n, hk, hc, hs, hz, r⟩
  · obtain ⟨z, its, r, p⟩ := h.ok I.hok
    exact ⟨its, r, p, z⟩
  · refine ⟨its.toList, r, ⟨o, I.kIn a o hk, hc, n, by simpa using hs⟩, ?_⟩
    have e := r.length
    simp only [Array.length_toList] at e
    omega
theorem Inv.list_inj (I : Inv X pins σ H s) (h : SqL X.K H a xs) (h' : SqL X.K H a ys) : xs = ys := by
  obtain ⟨its, r, ⟨o, n, e, _, _, d⟩, _⟩ := I.list h
  obtain ⟨its', r', ⟨o', n', e', _, _, d'⟩, _⟩ := I.list h'
  rw [e] at e'; cases e'
  rw [d] at d'
  injection d' with d1 _
  have : its = its' := by simpa using congrArg Array.toList d1
  subst this
  exact r.inj r'
theorem Inv.tuple_inj (I : Inv X pins σ H s) (h : SqT X.K H a xs) (h' : SqT X.K H a ys) : xs = ys := by
  obtain ⟨its, r, ⟨o, e, _, n, d⟩, _⟩ := I.tuple h
  obtain ⟨its', r', ⟨o', e', _, n', d'⟩, _⟩ := I.tuple h'
  rw [e] at e'; cases e'
  rw [d] at d'
  injection d' with d1 _
  have : its = its' := by simpa using congrArg Array.toList d1
  subst this
  exact r.inj r'
end
noncomputable abbrev Cx.wish (X : Cx) (E : Value → Shared → Prop) : Cx := { X with xe := E }
noncomputable abbrev Cx.nox (X : Cx) : Cx := X.wish fun _ _ => False
theorem Cx.Ok.wish {X : Cx} (ok : X.Ok) (E : Value → Shared → Prop) : (X.wish E).Ok :=
  ⟨ok.mod, ok.kind, ok.glob, ok.blt, ok.above, ok.inj, ok.has, ok.cab, ok.hd, ok.frames, ok.stk, ok.exf, ok.bs, ok.bsz, ok.noex, ok.exfs, ok.funs, ok.frf⟩
theorem Cx.Ok.unwish {X : Cx} {E : Value → Shared → Prop} (ok : (X.wish E).Ok) : X.Ok :=
  ⟨ok.mod, ok.kind, ok.glob, ok.blt, ok.above, ok.inj, ok.has, ok.cab, ok.hd, ok.frames, ok.stk, ok.exf, ok.bs, ok.bsz, ok.noex, ok.exfs, ok.funs, ok.frf⟩
section
variable {X : Cx} {pins : List (Addr × Obj)} {σ : St} {H : Hp} {s : Shared} {E : Value → Shared → Prop}
theorem Inv.wish (I : Inv X pins σ H s) (E : Value → Shared → Prop) : Inv (X.wish E) pins σ H s := ⟨I.ok.wish E, I.os, I.bare, I.base, I.loc, I.cell, I.free, I.freeC, I.pin, I.hok, I.len⟩
theorem Inv.unwish (I : Inv (X.wish E) pins σ H s) : Inv X pins σ H s := ⟨I.ok.unwish, I.os, I.bare, I.base, I.loc, I.cell, I.free, I.freeC, I.pin, I.hok, I.len⟩
theorem SP.unwish {D : Ends} {f : Flow} {s' : Shared} (h : SP (X.wish E) pins D f s') : SP X pins D f s' := by
  cases f with
  | next => obtain ⟨σ', H', I, q⟩ := h; exact ⟨σ', H', I.unwish, q⟩
  | brk => obtain ⟨σ', H', I, q⟩ := h; exact ⟨σ', H', I.unwish, q⟩
  | cont => obtain ⟨σ', H', I, q⟩ := h; exact ⟨σ', H', I.unwish, q⟩
  | ret u => obtain ⟨v, σ', H', I, r, q⟩ := h; exact ⟨v, σ', H', I.unwish, r, q⟩
theorem PSs.nox {st : List Stmt} {t : TS} (h : PSs X.nox st t) : PSs X st t := fun pins s σ H D I hw =>
  wpAny_mono (h pins s σ H D (I.wish _) hw) (fun _ _ q => q.unwish) fun _ _ z => False.elim z
end
section
variable {X : Cx} {st : Stmt} {rest : List Stmt} {t u : TS} {e : Expr} {te : TE} {pos : Pos}
noncomputable def tNext : TS := fun D σ H => D.nx σ H
noncomputable def tSeq (t u : TS) : TS := fun D σ H => t { D with nx := u D } σ H
theorem pss_nil : PSs X [] tNext := fun _ _ σ H _ I h => wpAny_execs_nil ⟨σ, H, I, h⟩
theorem pss_cons (h1 : PS X st t) (h2 : PSs X rest u) : PSs X (st :: rest) (tSeq t u) := by
  intro pins s σ H D I h
  refine wpAny_execs_cons (thn (h1 pins s σ H { D with nx := u D } I h) fun f s1 q => ?_)
  cases f with
  | next =>
    obtain ⟨σ', H', I', q⟩ := q
    exact h2 pins s1 σ' H' D I' q
  | ret v => exact q
  | brk => exact q
  | cont => exact q
theorem pss_one (h1 : PS X st t) : PSs X [st] t := by
  intro pins s σ H D I h
  refine wpAny_execs_cons (thn (h1 pins s σ H D I h) fun f s1 q => ?_)
  cases f with
  | next => exact wpAny_execs_nil q
  | ret v => exact q
  | brk => exact q
  | cont => exact q
theorem Inv.quiet {pins : List (Addr × Obj)} {σ : St} {H : Hp} {s : Shared} (I : Inv X pins σ H s) : interactive X.env = false := by simp [interactive, I.ok.kind]
noncomputable def tDrop (te : TE) : TS := fun D σ H => te σ H fun _ H1 => D.nx σ H1
theorem ps_expr (he : PE X e te) (hs : autoParam (swapsWith e none pos.line X.env = pure false) L2.aRfl._auto_1) : PS X (.Expr e pos) (tDrop te) := by
  intro pins s σ H D I h
  exact wpAny_Expr_any (thn (he pins s σ H _ I h) fun v s1 ⟨x, H1, I1, r1, q1⟩ => ⟨σ, H1, I1, q1⟩) I.quiet hs
noncomputable def tRet (te : TE) : TS := fun D σ H => te σ H D.rt
theorem ps_ret (he : PE X e te) : PS X (.Return (some e) pos) (tRet te) := by
  intro pins s σ H D I h
  exact wpAny_Return_some (thn (he pins s σ H _ I h) fun v s1 ⟨x, H1, I1, r1, q1⟩ => ⟨x, σ, H1, I1, r1, q1⟩)
noncomputable def tIfS (c : TT) (t u : TS) : TS := fun D σ H => c σ H fun b H1 => if b = true then t D σ H1 else u D σ H1
theorem ps_if {c : Expr} {a b : List Stmt} {tc : TT} (hc : PT X c tc) (ha : PSs X a t) (hb : PSs X b u) : PS X (.If c a b pos) (tIfS tc t u) := by
  intro pins s σ H D I h
  refine wpAny_If (thn (hc pins s σ H _ I h) fun d s1 ⟨H1, I1, q1⟩ => ?_)
  cases d with
  | true => exact ha pins s1 σ H1 D I1 q1
  | false => exact hb pins s1 σ H1 D I1 q1
end
noncomputable abbrev TG := V → St → Hp → (St → Hp → Prop) → Prop
noncomputable abbrev TGs := List V → St → Hp → (St → Hp → Prop) → Prop
noncomputable def PG (X : Cx) (target : Expr) (t : TG) : Prop :=
  ∀ (pins : List (Addr × Obj)) (s : Shared) (σ : St) (H : Hp) (v : V) (u : Value) (Q : St → Hp → Prop), Inv X pins σ H s → RelV v u → t v σ H Q →
    wpAny (model X.prog X.w) X.A (assign target X.env u) (fun _ s' => ∃ σ' H', Inv X pins σ' H' s' ∧ Q σ' H') X.xe s
noncomputable def PGs (X : Cx) (ts : List Expr) (t : TGs) : Prop :=
  ∀ (pins : List (Addr × Obj)) (s : Shared) (σ : St) (H : Hp) (vs : List V) (us : List Value) (Q : St → Hp → Prop), Inv X pins σ H s → Vals vs us → t vs σ H Q →
    wpAny (model X.prog X.w) X.A (assignInOrder ((assignEach ts X.env).map (·.2)) us) (fun _ s' => ∃ σ' H', Inv X pins σ' H' s' ∧ Q σ' H') X.xe s
noncomputable abbrev TIp := V → V → Hp → VK → Prop
noncomputable def PIp (X : Cx) (op : Operator) (t : TIp) : Prop :=
  ∀ (pins : List (Addr × Obj)) (s : Shared) (σ : St) (H : Hp) (x y : V) (v u : Value) (Q : VK), Inv X pins σ H s → RelV x v → RelV y u → t x y H Q →
    wpAny (model X.prog X.w) X.A (inplaceOp op v u) (EP X pins σ Q) X.xe s
section
variable {X : Cx} {pos : Pos}
noncomputable def gName (i : Nat) : TG := fun v σ H Q => Q (σ.set i (some v)) H
theorem pg_name {i : Nat} {x : Str} (hN : X.N.Nodup) (hi : X.N[i]? = some x) (hx : Loc X.env.scope x) (hf : autoParam (X.fn x = true ∨ X.env.scope.names.lookup x = some .local) L2.aFst._auto_1) : PG X (.Name x pos) (gName i) := by
  intro pins s σ H v u Q I r h
  exact wpAny_assign_Name (store_ok I hN hi hx r (fun s' I' => ⟨_, H, I', h⟩) hf)
noncomputable def gNil : TGs := fun vs σ H Q => vs = [] ∧ Q σ H
noncomputable def gCons (t : TG) (u : TGs) : TGs := fun vs σ H Q => ∃ v r, vs = v :: r ∧ t v σ H fun σ' H' => u r σ' H' Q
theorem pgs_nil : PGs X [] gNil := by
  intro pins s σ H vs us Q I r h
  obtain ⟨e, h⟩ := h
  subst e
  cases r
  exact assignInOrder_nil ⟨σ, H, I, h⟩
theorem pgs_cons {e : Expr} {es : List Expr} {t : TG} {u : TGs} (h1 : PG X e t) (h2 : PGs X es u)
    (hs : autoParam ((assignEach (e :: es) X.env).map (·.2) = assign e X.env :: (assignEach es X.env).map (·.2)) L2.aRfl._auto_1) : PGs X (e :: es) (gCons t u) := by
  intro pins s σ H vs us Q I r h
  obtain ⟨v, vr, e1, h⟩ := h
  subst e1
  cases r with
  | cons r rr =>
    rw [hs]
    refine assignInOrder_cons (thn (h1 pins s σ H _ _ _ I r h) fun _ s1 ⟨σ1, H1, I1, q1⟩ => ?_)
    exact h2 pins s1 σ1 H1 _ _ Q I1 rr q1
noncomputable def gTup (K : PySem.W.Frag) (n : Nat) (t : TGs) : TG := fun v σ H Q => ∃ a xs, v = .ref a ∧ SqT K H a xs ∧ xs.length = n ∧ t xs σ H Q
theorem pg_tup {es : List Expr} {k : Nat} {t : TGs} {n : Nat} (hc : X.calm = true) (h : PGs X es t)
    (hn : autoParam ((assignEach es X.env).length = n) L2.aRfl._auto_1) (hst : autoParam ((assignEach es X.env).findIdx? (·.1) = none) L2.aRfl._auto_1) : PG X (.Tuple es k pos) (gTup X.K n t) := by
  intro pins s σ H v u Q I r hw
  obtain ⟨a, xs, e1, hq, hl, hw⟩ := hw
  subst e1
  cases r
  obtain ⟨its, rv, ht, hz⟩ := I.tuple hq
  refine assign_Tuple_tuple (I.ok.hd hc) ht (by simp [hn, ← hl, rv.length]) hst fun h' hx => ?_
  have I1 : Inv X pins σ H { s with heap := h' } := I.kept (t' := s.toks) fun b o e => hx b o (Nat.ne_of_lt (Heap.lt_size e)) e
  exact h pins _ σ H xs _ Q I1 (by simpa using rv) hw
noncomputable def tAsg (te : TE) (g : TG) : TS := fun D σ H => te σ H fun x H1 => g x σ H1 D.nx
theorem ps_set {i : Nat} {x : Str} {e : Expr} {te : TE} {pos' : Pos} (hN : X.N.Nodup) (hi : X.N[i]? = some x) (hx : Loc X.env.scope x) (he : PE X e te) (hs : autoParam (swapsWith e (some (.Name x pos')) pos.line X.env = pure false) L2.aRfl._auto_1) (hf : autoParam (X.fn x = true ∨ X.env.scope.names.lookup x = some .local) L2.aFst._auto_1) :
    PS X (.Assign [.Name x pos'] e pos) (tAsg te (gName i)) := by
  intro pins s σ H D I h
  refine wpAny_Assign_Name (thn (he pins s σ H _ I h) fun v s1 ⟨y, H1, I1, r1, q1⟩ => ?_) hs
  exact store_ok I1 hN hi hx r1 (fun s2 I2 => ⟨_, H1, I2, q1⟩) hf
noncomputable def tAug (i : Nat) (te : TE) (ti : TIp) : TS := fun D σ H => ∃ x, σ[i]? = some (some x) ∧ te σ H fun y H1 => ti x y H1 fun z H2 => D.nx (σ.set i (some z)) H2
theorem ps_aug {i : Nat} {x : Str} {e : Expr} {te : TE} {op : Operator} {ti : TIp} {pos' : Pos} (hN : X.N.Nodup) (hi : X.N[i]? = some x) (hx : Loc X.env.scope x) (he : PE X e te) (ho : PIp X op ti) (hf : autoParam (X.fn x = true ∨ X.env.scope.names.lookup x = some .local) L2.aFst._auto_1) :
    PS X (.AugAssign (.Name x pos') op e pos) (tAug i te ti) := by
  intro pins s σ H D I h
  obtain ⟨v, e1, h⟩ := h
  obtain ⟨m, hn, hl⟩ := I.loc
  have vis : Vis X.env.scope x := by rcases hx with k | k; exact .inl k; exact .inr (.inl k)
  obtain ⟨u, r, l⟩ := hl i x v hi e1 vis
  refine wpAny_AugAssign_Name ?_
  have go : wpAny (model X.prog X.w) X.A (eval e X.env) (fun w s₂ => wpAny (model X.prog X.w) X.A (inplaceOp op u w) (fun r s₃ => wpAny (model X.prog X.w) X.A (storeName X.env x r) (fun _ => SP X pins D .next) X.xe s₃) X.xe s₂) X.xe s := by
    refine thn (he pins s σ H _ I h) fun w s1 ⟨y, H1, I1, r1, q1⟩ => ?_
    refine thn (ho pins s1 σ H1 v y u w _ I1 r r1 q1) fun z s2 ⟨zv, H2, I2, r2, q2⟩ => ?_
    exact store_ok I2 hN hi hx r2 (fun s3 I3 => ⟨_, H2, I3, q2⟩) hf
  rcases l with ⟨hk, hm⟩ | ⟨hk, c, hc, hcell⟩
  · exact wpAny_loadName_local I.ok.kind hk hn hm go
  · rcases hk with hk | hk
    · exact wpAny_loadName_cell I.ok.kind hk hc hcell go
    · rcases hx with k | k
      · have : X.env.scope.names.lookup x = some .free := hk
        rw [k] at this; cases this
      · have : X.env.scope.names.lookup x = some .free := hk
        rw [k] at this; cases this
noncomputable def ipI (f : Int → Int → Int) : TIp := fun x y H Q => ∃ i j, x = .int i ∧ y = .int j ∧ Q (.int (f i j)) H
theorem ip_add : PIp X .Add (ipI fun i j => i + j) := by
  intro pins s σ H x y v u Q I r1 r2 h
  obtain ⟨i, j, e1, e2, q⟩ := h
  subst e1; subst e2
  obtain ⟨t, rfl⟩ := r1
  obtain ⟨t', rfl⟩ := r2
  exact iadd_int ⟨.int _, H, I.tok _, ⟨_, rfl⟩, q⟩
end
section
variable {X : Cx} {pos : Pos}
end
structure It where
  go : Nat → Hp → Prop
  yld : Nat → Hp → V → Hp → Prop
  stop : Nat → Hp → Prop
noncomputable def FpOk (X : Cx) (pins : List (Addr × Obj)) (H : Hp) (b : Addr) : Prop :=
  H b = none ∧ b ≠ X.env.locals ∧ b ∉ X.fs ∧ (b ∈ X.ex ∨ X.s₀.heap.objs.size ≤ b) ∧ (∀ x c, X.env.cells.lookup x = some c → c ≠ b) ∧ ∀ p ∈ X.pn ++ pins, p.1 ≠ b
theorem Inv.fpOk {X : Cx} {pins : List (Addr × Obj)} {σ : St} {H H' : Hp} {s : Shared} {b : Addr} (I : Inv X pins σ H s) (hb : s.heap.objs.size ≤ b) (hn : H' b = none) : FpOk X pins H' b := by
  refine ⟨hn, Nat.ne_of_gt (Nat.lt_of_lt_of_le I.lt hb), I.nofs hb, .inr (Nat.le_trans I.sz hb), fun x c e z => ?_, fun p hp z => ?_⟩
  · obtain ⟨v, q⟩ := I.cell x c e
    exact absurd (Nat.lt_of_lt_of_le q.lt (by rw [z]; exact hb)) (Nat.lt_irrefl _)
  · exact absurd (Nat.lt_of_lt_of_le (Heap.lt_size (I.pin p hp).1) (by rw [z]; exact hb)) (Nat.lt_irrefl _)
structure Turn (P : Program) (w : World) (K : PySem.W.Frag) (tg : Expr) (J : It) (fp : List Addr) (it : Addr) (tn : Nat → Heap → Prop) : Prop where
  mem : it ∈ fp
  obj : ∀ i h, tn i h → ∀ b ∈ fp, ∃ o, h.get? b = some o ∧ ∀ v, o.data ≠ .cell v
  keep : ∀ i h h', tn i h → (∀ b ∈ fp, ∀ o, h.get? b = some o → h'.get? b = some o) → tn i h'
  item : ∀ (X : Cx), X.prog = P → X.w = w → X.K = K → X.calm = true → ∀ (i : Nat) (pins : List (Addr × Obj)) (s : Shared) (σ : St) (H : Hp) (E : Value → Shared → Prop), Inv X pins σ H s → (∀ b ∈ fp, FpOk X pins H b) → tn i s.heap → J.go i H →
    wpAny (model P w) X.A (pyNext (.ref it)) (fun r s1 => ∃ u, r = some u ∧
      wpAny (model P w) X.A (letOwnedTupleGo tg (.ref it) u) (fun _ s2 => ∃ x H', Inv X pins σ H' s2 ∧ RelV x u ∧ J.yld i H x H' ∧ tn (i + 1) s2.heap ∧ ∀ b ∈ fp, H' b = none) E s1) E s
  done : ∀ (X : Cx), X.prog = P → X.w = w → X.K = K → X.calm = true → ∀ (i : Nat) (pins : List (Addr × Obj)) (s : Shared) (σ : St) (H : Hp) (E : Value → Shared → Prop), Inv X pins σ H s → (∀ b ∈ fp, FpOk X pins H b) → tn i s.heap → J.stop i H →
    wpAny (model P w) X.A (pyNext (.ref it)) (fun r s1 => r = none ∧ Inv X pins σ H s1) E s
  self : ∀ (A : Around) (i : Nat) (s : Shared) (Q : Value → Shared → Prop) (E : Value → Shared → Prop), tn i s.heap → Q (.ref it) s → wpAny (model P w) A (pyIter (.ref it)) Q E s
noncomputable abbrev TI := St → Hp → (It → Hp → Prop) → Prop
noncomputable def PIE (X : Cx) (pins : List (Addr × Obj)) (σ : St) (tg : Expr) (R : It → Hp → Prop) (itv : Value) (s2 : Shared) : Prop :=
  ∃ (it : Addr) (fp : List Addr) (tn : Nat → Heap → Prop) (J : It) (H' : Hp), itv = .ref it ∧ Inv X pins σ H' s2 ∧ Turn X.prog X.w X.K tg J fp it tn ∧ tn 0 s2.heap ∧ (∀ b ∈ fp, FpOk X pins H' b) ∧ R J H'
noncomputable def PI (X : Cx) (tg iter : Expr) (wi : TI) : Prop :=
  ∀ (pins : List (Addr × Obj)) (s : Shared) (σ : St) (H : Hp) (R : It → Hp → Prop), Inv X pins σ H s → wi σ H R →
    wpAny (model X.prog X.w) X.A (eval iter X.env) (fun v s1 => wpAny (model X.prog X.w) X.A (pyIter v) (PIE X pins σ tg R) X.xe s1) X.xe s
theorem go_of {M : Model} {A : Around} {E : Value → Shared → Prop} {s : Shared} {tg : Expr} {it : Addr} {u : Value} {o : Obj} {n : String} {vs : Array Value} {Q : Unit → Shared → Prop} (ho : s.heap.get? it = some o) (hc : o.cls = .type n) (hd : o.data = .fields vs)
    (hn : ["enumerate", "zip", "dict_itemiterator", "dict_reverseitemiterator", "odict_iterator", "itertools.zip_longest", "itertools.pairwise"].contains n = false) (hQ : Q () s) : wpAny M A (letOwnedTupleGo tg (.ref it) u) Q E s := by
  unfold letOwnedTupleGo
  cases tg <;> first
    | exact wpAny_pure hQ
    | (cases u <;> first
        | exact wpAny_pure hQ
        | (refine wpAny_bind (wpAny_load ho ?_)
           rw [hc, hd]
           show wpAny M A (if (["enumerate", "zip", "dict_itemiterator", "dict_reverseitemiterator", "odict_iterator", "itertools.zip_longest", "itertools.pairwise"].contains n && vs[0]? == some (rawInt _)) = true then _ else _) Q E s
           rw [if_neg (by intro h; rw [hn, Bool.false_and] at h; cases h)]
           exact wpAny_pure hQ))
noncomputable def Itl (K : PySem.W.Frag) (a : Addr) : It :=
  ⟨fun i H => ∃ xs x, SqL K H a xs ∧ xs[i]? = some x, fun i H x H' => H' = H ∧ ∀ xs, SqL K H a xs → xs[i]? = some x, fun i H => ∃ xs, SqL K H a xs ∧ xs.length ≤ i⟩
noncomputable def Itt (K : PySem.W.Frag) (a : Addr) : It :=
  ⟨fun i H => ∃ xs x, SqT K H a xs ∧ xs[i]? = some x, fun i H x H' => H' = H ∧ ∀ xs, SqT K H a xs → xs[i]? = some x, fun i H => ∃ xs, SqT K H a xs ∧ xs.length ≤ i⟩
noncomputable def Itr (lo : Int) (n : Nat) : It := ⟨fun i _ => i < n, fun i H x H' => H' = H ∧ x = .int (lo + i), fun i _ => n ≤ i⟩
theorem turn_list {P : Program} {w : World} {K : PySem.W.Frag} {tg : Expr} (a it : Addr) : Turn P w K tg (Itl K a) [it] it (fun i h => h.IsListIter it a i) where
  mem := by simp
  obj := fun i h st b hb => by
    have e : b = it := by simpa using hb
    subst e
    obtain ⟨o, e, c, d⟩ := st
    exact ⟨o, e, fun v z => by rw [d] at z; cases z⟩
  keep := fun i h h' st k => st.at fun o e => k it (by simp) o e
  item := by
    intro X hP hw hK hc i pins s σ H E I hf st hg
    subst hP hw hK
    obtain ⟨xs, x, hq, hx⟩ := hg
    obtain ⟨its, rv, p, hz⟩ := I.list hq
    obtain ⟨u, hu, ru⟩ := rv.get hx
    obtain ⟨f0, f1, f2, f3, f4, f5⟩ := hf it (by simp)
    refine wpAny_pyNext_list_item st p.isList (x := u) (by simpa using hu) fun h' st' sb => ?_
    have I1 : Inv X pins σ H { s with heap := h' } := I.turned (t' := s.toks) (fun b o hb e => (sb.2 b hb).trans e) f0 f1 f3 f4 f5
    obtain ⟨o, e, c, d⟩ := id st'
    exact ⟨u, rfl, go_of (s := { s with heap := h' }) e c d (by decide) ⟨x, H, I1, ru, ⟨rfl, fun ys hy => by rw [I.list_inj hy hq]; exact hx⟩, st', fun b hb => (hf b hb).1⟩⟩
  done := by
    intro X hP hw hK hc i pins s σ H E I hf st hg
    subst hP hw hK
    obtain ⟨xs, hq, hx⟩ := hg
    obtain ⟨its, rv, p, hz⟩ := I.list hq
    obtain ⟨f0, f1, f2, f3, f4, f5⟩ := hf it (by simp)
    have hl := rv.length
    exact wpAny_pyNext_list_end (I.ok.hd hc) st p.isList (by simp; omega) fun h' eb => ⟨rfl, I.turned (t' := s.toks) (fun b o hb e => eb b o hb e) f0 f1 f3 f4 f5⟩
  self := fun _ _ _ _ _ st h => wpAny_pyIter_listiter st h
theorem turn_tuple {P : Program} {w : World} {K : PySem.W.Frag} {tg : Expr} (a it : Addr) : Turn P w K tg (Itt K a) [it] it (fun i h => h.IsTupleIter it a i) where
  mem := by simp
  obj := fun i h st b hb => by
    have e : b = it := by simpa using hb
    subst e
    obtain ⟨o, e, c, d⟩ := st
    exact ⟨o, e, fun v z => by rw [d] at z; cases z⟩
  keep := fun i h h' st k => st.at fun o e => k it (by simp) o e
  item := by
    intro X hP hw hK hc i pins s σ H E I hf st hg
    subst hP hw hK
    obtain ⟨xs, x, hq, hx⟩ := hg
    obtain ⟨its, rv, p, hz⟩ := I.tuple hq
    obtain ⟨u, hu, ru⟩ := rv.get hx
    obtain ⟨f0, f1, f2, f3, f4, f5⟩ := hf it (by simp)
    refine wpAny_pyNext_tuple_item st (show s.heap.IsTuple a its.toArray from p) (x := u) (by simpa using hu) fun h' st' sb => ?_
    have I1 : Inv X pins σ H { s with heap := h' } := I.turned (t' := s.toks) (fun b o hb e => (sb.2 b hb).trans e) f0 f1 f3 f4 f5
    obtain ⟨o, e, c, d⟩ := id st'
    exact ⟨u, rfl, go_of (s := { s with heap := h' }) e c d (by decide) ⟨x, H, I1, ru, ⟨rfl, fun ys hy => by rw [I.tuple_inj hy hq]; exact hx⟩, st', fun b hb => (hf b hb).1⟩⟩
  done := by
    intro X hP hw hK hc i pins s σ H E I hf st hg
    subst hP hw hK
    obtain ⟨xs, hq, hx⟩ := hg
    obtain ⟨its, rv, p, hz⟩ := I.tuple hq
    obtain ⟨f0, f1, f2, f3, f4, f5⟩ := hf it (by simp)
    have hl := rv.length
    exact wpAny_pyNext_tuple_end (I.ok.hd hc) st (show s.heap.IsTuple a its.toArray from p) (by simp; omega) fun h' eb => ⟨rfl, I.turned (t' := s.toks) (fun b o hb e => eb b o hb e) f0 f1 f3 f4 f5⟩
  self := fun _ _ _ _ _ st h => wpAny_pyIter_tupleiter st h
theorem turn_range {P : Program} {w : World} {K : PySem.W.Frag} {tg : Expr} (it : Addr) (lo : Int) (n : Nat) : Turn P w K tg (Itr lo n) [it] it (fun i h => IsRangeIter h it (lo + (i : Nat) * 1) ((n : Int) - (i : Nat)) 1) where
  mem := by simp
  obj := fun i h st b hb => by
    have e : b = it := by simpa using hb
    subst e
    exact ⟨_, st, fun v z => by
      have z' : Data.fields _ = Data.cell v := z
      cases z'⟩
  keep := fun i h h' st k => k it (by simp) _ st
  item := by
    intro X hP hw hK hc i pins s σ H E I hf st hg
    subst hP hw hK
    obtain ⟨f0, f1, f2, f3, f4, f5⟩ := hf it (by simp)
    have W := Walks.range (prog := X.prog) (w := X.w) (I.ok.hd hc) it lo 1 n
    refine W.item i s _ _ hg st fun v h' tk hv st' kk => ?_
    obtain ⟨t, rfl⟩ := hv
    have I1 : Inv X pins σ H { s with heap := h', toks := tk } := I.turned (fun b o hb e => kk b o (by simpa using hb) e) f0 f1 f3 f4 f5
    refine ⟨_, rfl, go_of (s := { s with heap := h', toks := tk }) (n := "range_iterator") st' rfl rfl (by decide) ⟨.int (lo + i), H, I1, ⟨t, ?_⟩, ⟨rfl, rfl⟩, st', fun b hb => (hf b hb).1⟩⟩
    rw [Int.mul_one]
  done := by
    intro X hP hw hK hc i pins s σ H E I hf st hg
    subst hP hw hK
    obtain ⟨f0, f1, f2, f3, f4, f5⟩ := hf it (by simp)
    exact wpAny_pyNext_range_end (I.ok.hd hc) st (by have : n ≤ i := hg; omega) fun h' eb => ⟨rfl, I.turned (t' := s.toks) (fun b o hb e => eb b o hb e) f0 f1 f3 f4 f5⟩
  self := fun _ _ _ _ _ st h => wpAny_pyIter_rangeiter st h
end L2
namespace L2
open PySem PySem.Spec PyProof.Rows
section
variable {X : Cx} {tg : Expr}
noncomputable def iList (K : PySem.W.Frag) (tl : TE) : TI := fun σ H R => tl σ H fun x H1 => ∃ a, x = .ref a ∧ (∃ xs, SqL K H1 a xs) ∧ R (Itl K a) H1
noncomputable def iTup (K : PySem.W.Frag) (tl : TE) : TI := fun σ H R => tl σ H fun x H1 => ∃ a, x = .ref a ∧ (∃ xs, SqT K H1 a xs) ∧ R (Itt K a) H1
theorem pi_list {l : Expr} {tl : TE} (hl : PE X l tl) : PI X tg l (iList X.K tl) := by
  intro pins s σ H R I h
  refine thn (hl pins s σ H _ I h) fun v s1 ⟨x, H1, I1, r1, q1⟩ => ?_
  obtain ⟨a, e, ⟨xs, hq⟩, q⟩ := q1
  subst e
  cases r1
  obtain ⟨its, rv, p, hz⟩ := I1.list hq
  refine wpAny_pyIter_list p.isList ?_
  refine ⟨s1.heap.objs.size, [s1.heap.objs.size], _, _, H1, rfl, I1.kept (t' := s1.toks) fun b o e => Heap.get?_push_of_some _ e, turn_list a _, ⟨_, Heap.get?_push_size _ rfl, rfl, rfl⟩, fun b hb => ?_, q⟩
  have e : b = s1.heap.objs.size := by simpa using hb
  subst e
  exact I1.fpOk (Nat.le_refl _) (I1.hok.fresh (Nat.le_refl _))
theorem pi_tup {l : Expr} {tl : TE} (hl : PE X l tl) : PI X tg l (iTup X.K tl) := by
  intro pins s σ H R I h
  refine thn (hl pins s σ H _ I h) fun v s1 ⟨x, H1, I1, r1, q1⟩ => ?_
  obtain ⟨a, e, ⟨xs, hq⟩, q⟩ := q1
  subst e
  cases r1
  obtain ⟨its, rv, p, hz⟩ := I1.tuple hq
  refine wpAny_pyIter_tuple (show s1.heap.IsTuple a its.toArray from p) ?_
  refine ⟨s1.heap.objs.size, [s1.heap.objs.size], _, _, H1, rfl, I1.kept (t' := s1.toks) fun b o e => Heap.get?_push_of_some _ e, turn_tuple a _, ⟨_, Heap.get?_push_size _ rfl, rfl, rfl⟩, fun b hb => ?_, q⟩
  have e : b = s1.heap.objs.size := by simpa using hb
  subst e
  exact I1.fpOk (Nat.le_refl _) (I1.hok.fresh (Nat.le_refl _))
theorem range_it {pins : List (Addr × Obj)} {σ : St} {H : Hp} {s : Shared} {R : It → Hp → Prop} {E : Value → Shared → Prop} {lo hi : Int} {t u v : Tok} {tk : Nat} (I : Inv X pins σ H s) (h1 : -(2 ^ 62) ≤ lo) (h2 : lo < 2 ^ 62) (h3 : -(2 ^ 62) ≤ hi) (h4 : hi < 2 ^ 62)
    (q : R (Itr lo (hi - lo).toNat) H) : wpAny (model X.prog X.w) X.A (pyIter (.ref s.heap.objs.size)) (PIE X pins σ tg R) E { s with heap := s.heap.push { cls := .type "range", data := .fields #[.int lo t, .int hi u, .int 1 v] }, toks := tk } := by
  refine wpAny_pyIter_range (IsRange.new ..) (small_one h1 h2 h3 h4) ?_
  have I1 : Inv X pins σ H { s with heap := s.heap.push { cls := .type "range", data := .fields #[.int lo t, .int hi u, .int 1 v] }, toks := tk } := I.kept fun b o e => Heap.get?_push_of_some _ e
  refine ⟨(s.heap.push { cls := .type "range", data := .fields #[.int lo t, .int hi u, .int 1 v] }).objs.size, [(s.heap.push { cls := .type "range", data := .fields #[.int lo t, .int hi u, .int 1 v] }).objs.size], _, _, H, rfl,
    I1.kept (t' := tk) fun b o e => Heap.get?_push_of_some _ e, turn_range _ lo (hi - lo).toNat, ?_, fun b hb => ?_, q⟩
  · have e1 : lo + ((0 : Nat) : Int) * 1 = lo := by simp
    have e2 : (((hi - lo).toNat : Nat) : Int) - ((0 : Nat) : Int) = Builtin.Range.rangeSize lo hi 1 := by rw [rangeSize_one]; split <;> omega
    show IsRangeIter _ _ (lo + ((0 : Nat) : Int) * 1) ((((hi - lo).toNat : Nat) : Int) - ((0 : Nat) : Int)) 1
    rw [e1, e2]
    exact Heap.get?_push_size _ rfl
  · have e : b = (s.heap.push { cls := .type "range", data := .fields #[.int lo t, .int hi u, .int 1 v] }).objs.size := by simpa using hb
    subst e
    exact I1.fpOk (Nat.le_refl _) (I1.hok.fresh (Nat.le_refl _))
noncomputable def iRng1 (ta : TA) : TI := fun σ H R => ta σ H fun vs H1 => ∃ j : Int, vs = [.int j] ∧ -(2 ^ 62) ≤ j ∧ j < 2 ^ 62 ∧ R (Itr 0 j.toNat) H1
theorem pi_range1 {a : Expr} {ta : TA} {p pos : Pos} (hg : Gl X "range") (hm : X.mg "range" = none) (ha : PA X [a] ta) (hs : autoParam (starEach [a] X.env = [(false, eval a X.env)]) L2.aRfl._auto_1) : PI X tg (.Call (.Name "range" p) [a] [] pos) (iRng1 ta) := by
  intro pins s σ H R I h
  refine Call_ (ld_blt I hg hm boot_range (PyProof.Rows.callWith_type1 (thn (ha pos pins s σ H _ I h) fun us s1 ⟨vs, H1, I1, r1, q1⟩ => ?_) hs rfl))
  obtain ⟨j, e, q1, q2, q⟩ := q1
  subst e
  cases r1 with
  | cons r rr =>
    cases rr
    obtain ⟨t, rfl⟩ := r
    exact call_range_1 (range_it I1 (by omega) (by omega) q1 q2 (by simpa using q))
noncomputable def tFor (wi : TI) (g : TG) (tb : TS) : TS := fun D σ H => wi σ H fun J H1 => ∃ W : Nat → Nat → St → Hp → Prop, (∃ m, W 0 m σ H1) ∧ ∀ i m σ H, W i m σ H →
  (J.stop i H ∧ D.nx σ H) ∨ (J.go i H ∧ ∃ N : St → Hp → Prop, (∀ σ' H', N σ' H' → ∃ m', m' < m ∧ W (i + 1) m' σ' H') ∧ ∀ x H', J.yld i H x H' → g x σ H' fun σ2 H2 => tb { D with nx := N, ct := N, bk := D.nx } σ2 H2)
noncomputable def pinsAt (fp : List Addr) (h : Heap) : List (Addr × Obj) := fp.filterMap fun b => (h.get? b).map fun o => (b, o)
theorem mem_pinsAt {fp : List Addr} {h : Heap} {b : Addr} {o : Obj} (hb : b ∈ fp) (e : h.get? b = some o) : (b, o) ∈ pinsAt fp h := List.mem_filterMap.mpr ⟨b, hb, by rw [e]; rfl⟩
theorem of_pinsAt {fp : List Addr} {h : Heap} {p : Addr × Obj} (hp : p ∈ pinsAt fp h) : p.1 ∈ fp ∧ h.get? p.1 = some p.2 := by
  obtain ⟨b, hb, e⟩ := List.mem_filterMap.mp hp
  cases q : h.get? b with
  | none => rw [q] at e; cases e
  | some o =>
    rw [q] at e
    have e' : (b, o) = p := Option.some.inj e
    subst e'
    exact ⟨hb, q⟩
theorem Inv.pinned {pins : List (Addr × Obj)} {σ : St} {H : Hp} {s : Shared} {fp : List Addr} (I : Inv X pins σ H s) (hf : ∀ b ∈ fp, FpOk X pins H b) (ho : ∀ b ∈ fp, ∃ o, s.heap.get? b = some o ∧ ∀ v, o.data ≠ .cell v) : Inv X (pins ++ pinsAt fp s.heap) σ H s :=
  I.pins_of fun p hp => (List.mem_append.mp hp).elim (fun z => I.pin p (List.mem_append_right _ z)) fun z => by
    obtain ⟨hb, e⟩ := of_pinsAt z
    obtain ⟨f0, f1, f2, _⟩ := hf p.1 hb
    obtain ⟨o, e', d⟩ := ho p.1 hb
    rw [e] at e'; cases e'
    exact ⟨e, f0, f1, f2, d⟩
theorem Inv.unpinned {pins pl : List (Addr × Obj)} {σ : St} {H : Hp} {s : Shared} (I : Inv X (pins ++ pl) σ H s) : Inv X pins σ H s := I.pins_of fun p hp => I.pin p (List.mem_append_right _ (List.mem_append_left _ hp))
theorem ps_for {iter : Expr} {body : List Stmt} {wi : TI} {g : TG} {tb : TS} {pos : Pos} (hp : PassesOwn (model X.prog X.w) X.A X.env X.xe) (hc : X.calm = true) (hi : PI X tg iter wi) (hg : PG X tg g) (hb : PSs X body tb)
    (hs : autoParam (∀ x, foldedSetIterable iter X.env x = pure x) L2.aIrf._auto_1) : PS X (.For tg iter body [] pos) (tFor wi g tb) := by
  intro pins s σ H D I h
  refine wpAny_For (thn (hi pins s σ H _ I h) fun v s1 h1 => thn h1 fun itv s2 h2 => ?_) hs
  obtain ⟨it, fp, tn, J, H2, e, I2, T, st2, f2, W, ⟨m0, w0⟩, turn⟩ := h2
  subst e
  -- what stays true of the iterator's objects through the loop
  have stat : ∀ {H' : Hp}, (∀ b ∈ fp, H' b = none) → ∀ b ∈ fp, FpOk X pins H' b := fun hn b hb => ⟨hn b hb, (f2 b hb).2⟩
  refine codeAny_forLoop_any (fun n s' => ∃ i σ' H', Inv X pins σ' H' s' ∧ tn i s'.heap ∧ (∀ b ∈ fp, H' b = none) ∧ W i n σ' H') ?_ m0 ⟨0, σ, H2, I2, st2, fun b hb => (f2 b hb).1, w0⟩
  rintro n s3 ⟨i, σ3, H3, I3, st3, fr3, w3⟩
  rcases turn i n σ3 H3 w3 with ⟨stop, qn⟩ | ⟨go, N, hN, step⟩
  · refine wpAny_passesOwn hp (thn (T.done X rfl rfl rfl hc i pins s3 σ3 H3 X.xe I3 (stat fr3) st3 stop) fun r s4 ⟨hr, I4⟩ => ?_)
    subst hr
    exact wpAny_execs_nil ⟨σ3, H3, I4, qn⟩
  · refine wpAny_passesOwn hp (thn (T.item X rfl rfl rfl hc i pins s3 σ3 H3 X.xe I3 (stat fr3) st3 go) fun r s4 ⟨u, hr, h4⟩ => ?_)
    subst hr
    refine wpAny_passesOwn hp (thn h4 fun _ s5 ⟨x, H5, I5, r5, y5, st5, fr5⟩ => ?_)
    have I5' := I5.pinned (stat fr5) (T.obj _ _ st5)
    refine wpAny_passesOwn hp (thn (hg _ s5 σ3 H5 x u _ I5' r5 (step x H5 y5)) fun _ s6 ⟨σ6, H6, I6, q6⟩ => ?_)
    refine wpAny_passesOwn hp (thn (hb _ s6 σ6 H6 _ I6 q6) fun f s7 q7 => ?_)
    have again : ∀ {σ7 : St} {H7 : Hp}, Inv X (pins ++ pinsAt fp s5.heap) σ7 H7 s7 → N σ7 H7 → ∃ m, m < n ∧ ∃ i σ' H', Inv X pins σ' H' s7 ∧ tn i s7.heap ∧ (∀ b ∈ fp, H' b = none) ∧ W i m σ' H' := fun {σ7 H7} I7 n7 => by
      obtain ⟨m', hm, w7⟩ := hN σ7 H7 n7
      refine ⟨m', hm, i + 1, σ7, H7, I7.unpinned, T.keep _ _ _ st5 fun b hb o e => (I7.pin (b, o) (List.mem_append_right _ (List.mem_append_right _ (mem_pinsAt hb e)))).1, fun b hb => ?_, w7⟩
      obtain ⟨o, e, d⟩ := T.obj _ _ st5 b hb
      exact (I7.pin (b, o) (List.mem_append_right _ (List.mem_append_right _ (mem_pinsAt hb e)))).2.1
    cases f with
    | next => obtain ⟨σ7, H7, I7, n7⟩ := q7; exact again I7 n7
    | cont => obtain ⟨σ7, H7, I7, n7⟩ := q7; exact again I7 n7
    | brk => obtain ⟨σ7, H7, I7, q7⟩ := q7; exact ⟨σ7, H7, I7.unpinned, q7⟩
    | ret v => obtain ⟨x7, σ7, H7, I7, r7, q7⟩ := q7; exact ⟨x7, σ7, H7, I7.unpinned, r7, q7⟩
end
theorem for_list {K : PySem.W.Frag} {a : Addr} {xs : List V} {g : TG} {tb : TS} {D : Ends} {σ : St} {H : Hp} (Pv : Nat → St → Hp → Prop) (h0 : Pv 0 σ H) (hl : ∀ i σ H, i ≤ xs.length → Pv i σ H → SqL K H a xs)
    (hs : ∀ i x σ H, xs[i]? = some x → Pv i σ H → g x σ H fun σ2 H2 => tb { D with nx := Pv (i + 1), ct := Pv (i + 1), bk := D.nx } σ2 H2) (hd : ∀ σ H, Pv xs.length σ H → D.nx σ H) :
    ∃ W : Nat → Nat → St → Hp → Prop, (∃ m, W 0 m σ H) ∧ ∀ i m σ H, W i m σ H →
      ((Itl K a).stop i H ∧ D.nx σ H) ∨ ((Itl K a).go i H ∧ ∃ N : St → Hp → Prop, (∀ σ' H', N σ' H' → ∃ m', m' < m ∧ W (i + 1) m' σ' H') ∧ ∀ x H', (Itl K a).yld i H x H' → g x σ H' fun σ2 H2 => tb { D with nx := N, ct := N, bk := D.nx } σ2 H2) := by
  refine ⟨fun i m σ H => m = xs.length - i ∧ i ≤ xs.length ∧ Pv i σ H, ⟨xs.length, by simp, Nat.zero_le _, h0⟩, ?_⟩
  rintro i m σ H ⟨rfl, hi, p⟩
  have q := hl i σ H hi p
  by_cases hlt : i < xs.length
  · refine .inr ⟨⟨xs, xs[i], q, by simp [hlt]⟩, Pv (i + 1), fun σ' H' p' => ⟨xs.length - (i + 1), by omega, rfl, hlt, p'⟩, fun x H' y => ?_⟩
    obtain ⟨e, y⟩ := y
    subst e
    exact hs i x σ _ (y xs q) p
  · have e : i = xs.length := by omega
    subst e
    exact .inl ⟨⟨xs, q, Nat.le_refl _⟩, hd σ H p⟩
theorem for_tup {K : PySem.W.Frag} {a : Addr} {xs : List V} {g : TG} {tb : TS} {D : Ends} {σ : St} {H : Hp} (Pv : Nat → St → Hp → Prop) (h0 : Pv 0 σ H) (hl : ∀ i σ H, i ≤ xs.length → Pv i σ H → SqT K H a xs)
    (hs : ∀ i x σ H, xs[i]? = some x → Pv i σ H → g x σ H fun σ2 H2 => tb { D with nx := Pv (i + 1), ct := Pv (i + 1), bk := D.nx } σ2 H2) (hd : ∀ σ H, Pv xs.length σ H → D.nx σ H) :
    ∃ W : Nat → Nat → St → Hp → Prop, (∃ m, W 0 m σ H) ∧ ∀ i m σ H, W i m σ H →
      ((Itt K a).stop i H ∧ D.nx σ H) ∨ ((Itt K a).go i H ∧ ∃ N : St → Hp → Prop, (∀ σ' H', N σ' H' → ∃ m', m' < m ∧ W (i + 1) m' σ' H') ∧ ∀ x H', (Itt K a).yld i H x H' → g x σ H' fun σ2 H2 => tb { D with nx := N, ct := N, bk := D.nx } σ2 H2) := by
  refine ⟨fun i m σ H => m = xs.length - i ∧ i ≤ xs.length ∧ Pv i σ H, ⟨xs.length, by simp, Nat.zero_le _, h0⟩, ?_⟩
  rintro i m σ H ⟨rfl, hi, p⟩
  have q := hl i σ H hi p
  by_cases hlt : i < xs.length
  · refine .inr ⟨⟨xs, xs[i], q, by simp [hlt]⟩, Pv (i + 1), fun σ' H' p' => ⟨xs.length - (i + 1), by omega, rfl, hlt, p'⟩, fun x H' y => ?_⟩
    obtain ⟨e, y⟩ := y
    subst e
    exact hs i x σ _ (y xs q) p
  · have e : i = xs.length := by omega
    subst e
    exact .inl ⟨⟨xs, q, Nat.le_refl _⟩, hd σ H p⟩
theorem for_range {lo : Int} {n : Nat} {g : TG} {tb : TS} {D : Ends} {σ : St} {H : Hp} (Pv : Nat → St → Hp → Prop) (h0 : Pv 0 σ H)
    (hs : ∀ i σ H, i < n → Pv i σ H → g (.int (lo + i)) σ H fun σ2 H2 => tb { D with nx := Pv (i + 1), ct := Pv (i + 1), bk := D.nx } σ2 H2) (hd : ∀ σ H, Pv n σ H → D.nx σ H) :
    ∃ W : Nat → Nat → St → Hp → Prop, (∃ m, W 0 m σ H) ∧ ∀ i m σ H, W i m σ H →
      ((Itr lo n).stop i H ∧ D.nx σ H) ∨ ((Itr lo n).go i H ∧ ∃ N : St → Hp → Prop, (∀ σ' H', N σ' H' → ∃ m', m' < m ∧ W (i + 1) m' σ' H') ∧ ∀ x H', (Itr lo n).yld i H x H' → g x σ H' fun σ2 H2 => tb { D with nx := N, ct := N, bk := D.nx } σ2 H2) := by
  refine ⟨fun i m σ H => m = n - i ∧ i ≤ n ∧ Pv i σ H, ⟨n, by simp, Nat.zero_le _, h0⟩, ?_⟩
  rintro i m σ H ⟨rfl, hi, p⟩
  by_cases hlt : i < n
  · refine .inr ⟨hlt, Pv (i + 1), fun σ' H' p' => ⟨n - (i + 1), by omega, rfl, hlt, p'⟩, fun x H' y => ?_⟩
    obtain ⟨e, y⟩ := y
    subst e y
    exact hs i σ _ hlt p
  · have e : i = n := by omega
    subst e
    exact .inl ⟨Nat.le_refl _, hd σ H p⟩
end L2
namespace L2
open PySem PySem.Spec PyProof.Rows
noncomputable abbrev R2 := V → V → Hp → VK → Prop
noncomputable def OpR (X : Cx) (f : Value → Value → Sem Value) (r : R2) : Prop :=
  ∀ (pins : List (Addr × Obj)) (s : Shared) (σ : St) (H : Hp) (x y : V) (v u : Value) (Q : VK), Inv X pins σ H s → RelV x v → RelV y u → r x y H Q →
    wpAny (model X.prog X.w) X.A (f v u) (EP X pins σ Q) X.xe s
noncomputable def UnR (X : Cx) (f : Value → Sem Value) (r : V → Hp → VK → Prop) : Prop :=
  ∀ (pins : List (Addr × Obj)) (s : Shared) (σ : St) (H : Hp) (x : V) (v : Value) (Q : VK), Inv X pins σ H s → RelV x v → r x H Q →
    wpAny (model X.prog X.w) X.A (f v) (EP X pins σ Q) X.xe s
noncomputable def CallR (X : Cx) (f : Value) (r : List V → Hp → VK → Prop) : Prop :=
  ∀ (pins : List (Addr × Obj)) (s : Shared) (σ : St) (H : Hp) (xs : List V) (us : List Value) (Q : VK), Inv X pins σ H s → Vals xs us → r xs H Q →
    wpAny (model X.prog X.w) X.A (call f us) (EP X pins σ Q) X.xe s
noncomputable def tOp (r : R2) (ta tb : TE) : TE := fun σ H Q => ta σ H fun x H1 => tb σ H1 fun y H2 => r x y H2 Q
noncomputable def tUn (r : V → Hp → VK → Prop) (ta : TE) : TE := fun σ H Q => ta σ H fun x H1 => r x H1 Q
noncomputable def rI (C : Int → Int → Prop) (g : Int → Int → V) : R2 := fun x y H Q => ∃ i j, x = .int i ∧ y = .int j ∧ C i j ∧ Q (g i j) H
noncomputable def rI0 (g : Int → Int → V) : R2 := fun x y H Q => ∃ i j, x = .int i ∧ y = .int j ∧ Q (g i j) H
noncomputable def rU (g : Int → V) : V → Hp → VK → Prop := fun x H Q => ∃ i, x = .int i ∧ Q (g i) H
section
variable {X : Cx} {a b c : Expr} {ta tb tc : TE} {pos : Pos}
theorem binT (ha : PE X a ta) (hb : PE X b tb) {pins : List (Addr × Obj)} {s : Shared} {σ : St} {H : Hp} {R : V → V → Hp → Prop} (I : Inv X pins σ H s)
    (h : ta σ H fun x H1 => tb σ H1 fun y H2 => R x y H2) {Q : Value → Shared → Prop} {f : Value → Value → Sem Value}
    (hf : ∀ v u s2 x y H2, Inv X pins σ H2 s2 → RelV x v → RelV y u → R x y H2 → wpAny (model X.prog X.w) X.A (f v u) Q X.xe s2) :
    wpAny (model X.prog X.w) X.A (eval a X.env) (fun v s₁ => wpAny (model X.prog X.w) X.A (eval b X.env) (fun u s₂ => wpAny (model X.prog X.w) X.A (f v u) Q X.xe s₂) X.xe s₁) X.xe s := by
  refine thn (ha pins s σ H _ I h) fun v s1 ⟨x, H1, I1, r1, q1⟩ => ?_
  refine thn (hb pins s1 σ H1 _ I1 q1) fun u s2 ⟨y, H2, I2, r2, q2⟩ => ?_
  exact hf v u s2 x y H2 I2 r1 r2 q2
theorem pe_op {op : Operator} {r : R2} (ho : OpR X (binaryOp op) r) (ha : PE X a ta) (hb : PE X b tb) : PE X (.BinOp a op b pos) (tOp r ta tb) := by
  intro pins s σ H Q I h
  exact wpAny_BinOp (binT ha hb I h fun v u s2 x y H2 I2 rx ry q => ho pins s2 σ H2 x y v u Q I2 rx ry q)
theorem pe_un {op : UnaryOp} {r : V → Hp → VK → Prop} (ho : UnR X (unaryOp op) r) (ha : PE X a ta) : PE X (.UnaryOp op a pos) (tUn r ta) := by
  intro pins s σ H Q I h
  exact UnaryOp_ (thn (ha pins s σ H _ I h) fun v s1 ⟨x, H1, I1, r1, q1⟩ => ho pins s1 σ H1 x v Q I1 r1 q1)
theorem opI {f : Value → Value → Sem Value} {C : Int → Int → Prop} {g : Int → Int → Int}
    (rule : ∀ (i j : Int) (t u : Tok) (s : Shared) (Q : Value → Shared → Prop) (E : Value → Shared → Prop), C i j → Q (.int (g i j) s.toks) { s with toks := s.toks + 1 } → wpAny (model X.prog X.w) X.A (f (.int i t) (.int j u)) Q E s) :
    OpR X f (rI C fun i j => .int (g i j)) := by
  intro pins s σ H x y v u Q I rx ry h
  obtain ⟨i, j, rfl, rfl, hc, q⟩ := h
  obtain ⟨t, rfl⟩ := rx
  obtain ⟨t', rfl⟩ := ry
  exact rule i j t t' s _ _ hc ⟨.int (g i j), H, I.tok _, ⟨_, rfl⟩, q⟩
theorem opI0 {f : Value → Value → Sem Value} {g : Int → Int → Int}
    (rule : ∀ (i j : Int) (t u : Tok) (s : Shared) (Q : Value → Shared → Prop) (E : Value → Shared → Prop), Q (.int (g i j) s.toks) { s with toks := s.toks + 1 } → wpAny (model X.prog X.w) X.A (f (.int i t) (.int j u)) Q E s) :
    OpR X f (rI0 fun i j => .int (g i j)) := by
  intro pins s σ H x y v u Q I rx ry h
  obtain ⟨i, j, rfl, rfl, q⟩ := h
  obtain ⟨t, rfl⟩ := rx
  obtain ⟨t', rfl⟩ := ry
  exact rule i j t t' s _ _ ⟨.int (g i j), H, I.tok _, ⟨_, rfl⟩, q⟩
theorem opB0 {f : Value → Value → Sem Value} {g : Int → Int → Bool}
    (rule : ∀ (i j : Int) (t u : Tok) (s : Shared) (Q : Value → Shared → Prop) (E : Value → Shared → Prop), Q (.bool (g i j)) s → wpAny (model X.prog X.w) X.A (f (.int i t) (.int j u)) Q E s) :
    OpR X f (rI0 fun i j => .bl (g i j)) := by
  intro pins s σ H x y v u Q I rx ry h
  obtain ⟨i, j, rfl, rfl, q⟩ := h
  obtain ⟨t, rfl⟩ := rx
  obtain ⟨t', rfl⟩ := ry
  exact rule i j t t' s _ _ ⟨.bl (g i j), H, I, rfl, q⟩
noncomputable def CDiv (i j : Int) : Prop := 0 < j ∧ j < 1073741824
noncomputable def CPow (i j : Int) : Prop := 0 ≤ j ∧ j ≤ 1000000 ∧ i.natAbs < 2 ^ 64
noncomputable def CMul (i j : Int) : Prop := (-(2 ^ 64) < i ∧ i < 2 ^ 64) ∨ (-(2 ^ 64) < j ∧ j < 2 ^ 64)
theorem CMul.ok {i j : Int} (h : CMul i j) : IntMulOk i j := by
  rcases h with ⟨h1, h2⟩ | ⟨h1, h2⟩
  · exact .of_left (intBits_le_64 h1 h2)
  · exact .of_right (intBits_le_64 h1 h2)
theorem op_add : OpR X (binaryOp .Add) (rI0 fun i j => .int (i + j)) := opI0 fun _ _ _ _ _ _ _ q => add_int q
theorem op_sub : OpR X (binaryOp .Sub) (rI0 fun i j => .int (i - j)) := opI0 fun _ _ _ _ _ _ _ q => sub_int q
theorem op_mul : OpR X (binaryOp .Mult) (rI CMul fun i j => .int (i * j)) := opI fun _ _ _ _ _ _ _ hc q => mul_int q hc.ok
theorem op_fdiv : OpR X (binaryOp .FloorDiv) (rI CDiv fun i j => .int (i / j)) := opI fun i j _ _ _ _ _ hc q => by
  have h1 : (0 : Int) < j := hc.1
  have h2 : j < 1073741824 := hc.2
  exact floordiv_int (by omega) (by rw [Int.fdiv_eq_ediv_of_nonneg i (by omega)]; exact q) (.inl (PyProof.noPylong_small (by omega)))
theorem op_mod : OpR X (binaryOp .Mod) (rI (fun _ j => 0 < j) fun i j => .int (i % j)) := opI fun i j _ _ _ _ _ hc q => by
  have h1 : (0 : Int) < j := hc
  exact mod_int' (by omega) (by rw [Int.fmod_eq_emod_of_nonneg i (by omega)]; exact q)
theorem op_pow : OpR X (binaryOp .Pow) (rI CPow fun i j => .int (i ^ j.toNat)) := opI fun _ _ _ _ _ _ _ hc q => pow_int_small hc.1 hc.2.1 hc.2.2 q
theorem unI {f : Value → Sem Value} {g : Int → Int}
    (rule : ∀ (i : Int) (t : Tok) (s : Shared) (Q : Value → Shared → Prop) (E : Value → Shared → Prop), Q (.int (g i) s.toks) { s with toks := s.toks + 1 } → wpAny (model X.prog X.w) X.A (f (.int i t)) Q E s) :
    UnR X f (rU fun i => .int (g i)) := by
  intro pins s σ H x v Q I rx h
  obtain ⟨i, rfl, q⟩ := h
  obtain ⟨t, rfl⟩ := rx
  exact rule i t s _ _ ⟨.int (g i), H, I.tok _, ⟨_, rfl⟩, q⟩
theorem un_neg : UnR X (unaryOp .USub) (rU fun i => .int (-i)) := unI fun _ _ _ _ _ q => neg_int q
end
noncomputable def scal : V → V → Bool
  | .non, .non => true | .non, .int _ => true | .int _, .non => true | .non, .bl _ => true | .bl _, .non => true | .non, .str _ => true | .str _, .non => true
  | .int _, .int _ => true | .bl _, .bl _ => true | .str _, .str _ => true | .byt _, .byt _ => true
  | .int _, .str _ => true | .str _, .int _ => true | .bl _, .str _ => true | .str _, .bl _ => true
  | _, _ => false
noncomputable def rEq : R2 := fun x y H Q => scal x y = true ∧ Q (.bl (decide (x = y))) H
noncomputable def rNe : R2 := fun x y H Q => scal x y = true ∧ Q (.bl (!decide (x = y))) H
theorem dec_int {i j : Int} : decide (V.int i = V.int j) = (i == j) := by
  rw [Bool.eq_iff_iff]
  simp
theorem dec_bl {i j : Bool} : decide (V.bl i = V.bl j) = (i == j) := by
  rw [Bool.eq_iff_iff]
  simp
theorem dec_str {i j : Str} : decide (V.str i = V.str j) = (i == j) := by
  rw [Bool.eq_iff_iff]
  simp
theorem dec_byt {i j : Array UInt8} : decide (V.byt i = V.byt j) = (i.toList == j.toList) := by
  rw [Bool.eq_iff_iff]
  cases i
  cases j
  simp
section
variable {X : Cx} {a b c : Expr} {ta tb tc : TE} {pos : Pos}
theorem fin_bl {pins : List (Addr × Obj)} {σ : St} {H : Hp} {s : Shared} {Q : VK} {k k' : Bool} (I : Inv X pins σ H s) (q : Q (.bl k) H) (e : k = k') : EP X pins σ Q (.bool k') s := by
  subst e
  exact ⟨.bl k, H, I, rfl, q⟩
theorem op_eq : OpR X (compareOp .Eq) rEq := by
  intro pins s σ H x y v u Q I rx ry h
  obtain ⟨hs, q⟩ := h
  cases x with
  | non =>
    cases rx
    cases y with
    | non => cases ry; exact PySem.EqNone.eq_none_none (fin_bl I q (by simp))
    | bl j => cases ry; exact PySem.EqNone.eq_none_bool (fin_bl I q (by simp))
    | int j => obtain ⟨t', rfl⟩ := ry; exact PySem.EqNone.eq_none_int (fin_bl I q (by simp))
    | str j => obtain ⟨t', rfl⟩ := ry; exact PySem.EqNone.eq_none_str (fin_bl I q (by simp))
    | _ => exact absurd (show false = true from hs) Bool.false_ne_true
  | bl i =>
    cases rx
    cases y with
    | non => cases ry; exact PySem.EqNone.eq_bool_none (fin_bl I q (by simp))
    | bl j => cases ry; exact eq_bool (fin_bl I q dec_bl)
    | str j => obtain ⟨t', rfl⟩ := ry; exact PySem.EqMixed.eq_bool_str (fin_bl I q (by simp))
    | _ => exact absurd (show false = true from hs) Bool.false_ne_true
  | int i =>
    obtain ⟨t, rfl⟩ := rx
    cases y with
    | non => cases ry; exact PySem.EqNone.eq_int_none (fin_bl I q (by simp))
    | int j => obtain ⟨t', rfl⟩ := ry; exact eq_int (fin_bl I q dec_int)
    | str j => obtain ⟨t', rfl⟩ := ry; exact PySem.EqMixed.eq_int_str (fin_bl I q (by simp))
    | _ => exact absurd (show false = true from hs) Bool.false_ne_true
  | str i =>
    obtain ⟨t, rfl⟩ := rx
    cases y with
    | non => cases ry; exact PySem.EqNone.eq_str_none (fin_bl I q (by simp))
    | bl j => cases ry; exact PySem.EqMixed.eq_str_bool (fin_bl I q (by simp))
    | int j => obtain ⟨t', rfl⟩ := ry; exact PySem.EqMixed.eq_str_int (fin_bl I q (by simp))
    | str j => obtain ⟨t', rfl⟩ := ry; exact eq_str (fin_bl I q dec_str)
    | _ => exact absurd (show false = true from hs) Bool.false_ne_true
  | byt i =>
    obtain ⟨t, rfl⟩ := rx
    cases y with
    | byt j => obtain ⟨t', rfl⟩ := ry; exact PySem.W.eq_bytes (fin_bl I q dec_byt)
    | _ => exact absurd (show false = true from hs) Bool.false_ne_true
  | _ => cases y <;> exact absurd (show false = true from hs) Bool.false_ne_true
theorem op_ne : OpR X (compareOp .NotEq) rNe := by
  intro pins s σ H x y v u Q I rx ry h
  obtain ⟨hs, q⟩ := h
  cases x with
  | non =>
    cases rx
    cases y with
    | non => cases ry; exact PySem.EqNone.ne_none_none (fin_bl I q (by simp))
    | bl j => cases ry; exact PySem.EqNone.ne_none_bool (fin_bl I q (by simp))
    | int j => obtain ⟨t', rfl⟩ := ry; exact PySem.EqNone.ne_none_int (fin_bl I q (by simp))
    | str j => obtain ⟨t', rfl⟩ := ry; exact PySem.EqNone.ne_none_str (fin_bl I q (by simp))
    | _ => exact absurd (show false = true from hs) Bool.false_ne_true
  | bl i =>
    cases rx
    cases y with
    | non => cases ry; exact PySem.EqNone.ne_bool_none (fin_bl I q (by simp))
    | bl j => cases ry; exact ne_bool (fin_bl I q (congrArg not dec_bl))
    | str j => obtain ⟨t', rfl⟩ := ry; exact PySem.EqMixed.ne_bool_str (fin_bl I q (by simp))
    | _ => exact absurd (show false = true from hs) Bool.false_ne_true
  | int i =>
    obtain ⟨t, rfl⟩ := rx
    cases y with
    | non => cases ry; exact PySem.EqNone.ne_int_none (fin_bl I q (by simp))
    | int j => obtain ⟨t', rfl⟩ := ry; exact ne_int (fin_bl I q (congrArg not dec_int))
    | str j => obtain ⟨t', rfl⟩ := ry; exact PySem.EqMixed.ne_int_str (fin_bl I q (by simp))
    | _ => exact absurd (show false = true from hs) Bool.false_ne_true
  | str i =>
    obtain ⟨t, rfl⟩ := rx
    cases y with
    | non => cases ry; exact PySem.EqNone.ne_str_none (fin_bl I q (by simp))
    | bl j => cases ry; exact PySem.EqMixed.ne_str_bool (fin_bl I q (by simp))
    | int j => obtain ⟨t', rfl⟩ := ry; exact PySem.EqMixed.ne_str_int (fin_bl I q (by simp))
    | str j => obtain ⟨t', rfl⟩ := ry; exact ne_str (fin_bl I q (congrArg not dec_str))
    | _ => exact absurd (show false = true from hs) Bool.false_ne_true
  | byt i =>
    obtain ⟨t, rfl⟩ := rx
    cases y with
    | byt j => obtain ⟨t', rfl⟩ := ry; exact PySem.W.ne_bytes (fin_bl I q (congrArg not dec_byt))
    | _ => exact absurd (show false = true from hs) Bool.false_ne_true
  | _ => cases y <;> exact absurd (show false = true from hs) Bool.false_ne_true
theorem op_lt : OpR X (compareOp .Lt) (rI0 fun i j => .bl (decide (i < j))) := opB0 fun _ _ _ _ _ _ _ q => lt_int q
theorem op_gt : OpR X (compareOp .Gt) (rI0 fun i j => .bl (decide (j < i))) := opB0 fun _ _ _ _ _ _ _ q => gt_int q
theorem op_ge : OpR X (compareOp .GtE) (rI0 fun i j => .bl (decide (j ≤ i))) := opB0 fun _ _ _ _ _ _ _ q => ge_int q
theorem op_isN : OpR X (compareOp .Is) (fun x y H Q => y = .non ∧ Q (.bl (decide (x = .non))) H) := by
  intro pins s σ H x y v u Q I rx ry h
  obtain ⟨rfl, q⟩ := h
  cases ry
  refine is_none_gen (fin_bl I q ?_)
  cases x <;> first
    | (cases rx; rfl)
    | (obtain ⟨t, rfl⟩ := rx; rfl)
theorem op_notN : OpR X (compareOp .IsNot) (fun x y H Q => y = .non ∧ Q (.bl (!decide (x = .non))) H) := by
  intro pins s σ H x y v u Q I rx ry h
  obtain ⟨rfl, q⟩ := h
  cases ry
  refine isnot_none_gen (fin_bl I q ?_)
  cases x <;> first
    | (cases rx; rfl)
    | (obtain ⟨t, rfl⟩ := rx; rfl)
theorem nomark (b : Expr) {op : CmpOp} (h : autoParam (op ≠ .In) L2.aDec._auto_1) (h2 : autoParam (op ≠ .NotIn) L2.aDec._auto_1) : behindInMarks op b = false := by
  have e1 : (op == CmpOp.In) = false := by cases op <;> first | rfl | exact absurd rfl h
  have e2 : (op == CmpOp.NotIn) = false := by cases op <;> first | rfl | exact absurd rfl h2
  cases b <;> simp [behindInMarks, e1, e2]
theorem pe_cmpR {op : CmpOp} {r : R2} (ho : OpR X (compareOp op) r) (ha : PE X a ta) (hb : PE X b tb) (hm : behindInMarks op b = false) : PE X (.Compare a [op] [b] pos) (tOp r ta tb) := by
  intro pins s σ H Q I h
  exact wpAny_Compare1 (binT ha hb I h fun v u s2 x y H2 I2 rx ry q => ho pins s2 σ H2 x y v u Q I2 rx ry q) hm
noncomputable def tTest (t : TE) : TT := fun σ H Q => t σ H fun x H' => ∃ k, x = .bl k ∧ Q k H'
theorem pt_cmpR {op : CmpOp} {r : R2} (ho : OpR X (compareOp op) r) (ha : PE X a ta) (hb : PE X b tb) (hm : behindInMarks op b = false) : PT X (.Compare a [op] [b] pos) (tTest (tOp r ta tb)) := by
  intro pins s σ H Q I h
  refine wpAny_isTrue_Compare1 (thn (ha pins s σ H _ I h) fun v s1 ⟨x, H1, I1, r1, q1⟩ => thn (hb pins s1 σ H1 _ I1 q1) fun u s2 ⟨y, H2, I2, r2, q2⟩ =>
    thn (ho pins s2 σ H2 x y v u _ I2 r1 r2 q2) fun c s3 ⟨z, H3, I3, r3, k, e, q3⟩ => ?_) hm
  subst e
  cases r3
  exact wpAny_truthy_bool ⟨H3, I3, q3⟩
theorem line63 : (sizeLine : Nat) < 2 ^ 63 := by rw [sizeLine_eq]; decide
theorem vals1 {x : V} {us : List Value} (r : Vals [x] us) : ∃ u, us = [u] ∧ RelV x u := by
  cases r with
  | cons r1 r2 => cases r2; exact ⟨_, rfl, r1⟩
theorem vals2 {x y : V} {us : List Value} (r : Vals [x, y] us) : ∃ u w', us = [u, w'] ∧ RelV x u ∧ RelV y w' := by
  cases r with
  | cons r1 r2 =>
    cases r2 with
    | cons r3 r4 => cases r4; exact ⟨_, _, rfl, r1, r3⟩
theorem call_max2 (hc : X.calm = true) : CallR X (.builtin "max") (fun xs H Q => ∃ i j, xs = [.int i, .int j] ∧ Q (.int (if j > i then j else i)) H) := by
  intro pins s σ H xs us Q I r h
  obtain ⟨i, j, rfl, q⟩ := h
  obtain ⟨u, w', rfl, ⟨t, rfl⟩, ⟨t', rfl⟩⟩ := vals2 r
  refine max_two_ints (I.ok.hd hc) fun h' tk k => ⟨_, H, I.kept k, ?_, q⟩
  by_cases hj : j > i
  · rw [if_pos hj, if_pos hj]; exact ⟨_, rfl⟩
  · rw [if_neg hj, if_neg hj]; exact ⟨_, rfl⟩
theorem call_min2 (hc : X.calm = true) : CallR X (.builtin "min") (fun xs H Q => ∃ i j, xs = [.int i, .int j] ∧ Q (.int (if j < i then j else i)) H) := by
  intro pins s σ H xs us Q I r h
  obtain ⟨i, j, rfl, q⟩ := h
  obtain ⟨u, w', rfl, ⟨t, rfl⟩, ⟨t', rfl⟩⟩ := vals2 r
  refine min_two_ints (I.ok.hd hc) fun h' tk k => ⟨_, H, I.kept k, ?_, q⟩
  by_cases hj : j < i
  · rw [if_pos hj, if_pos hj]; exact ⟨_, rfl⟩
  · rw [if_neg hj, if_neg hj]; exact ⟨_, rfl⟩
theorem call_int1 : CallR X (.type "int") (fun xs H Q => (∃ i, xs = [.int i] ∧ Q (.int i) H) ∨ ∃ k, xs = [.bl k] ∧ Q (.int (if k then 1 else 0)) H) := by
  intro pins s σ H xs us Q I r h
  rcases h with ⟨i, rfl, q⟩ | ⟨k, rfl, q⟩
  · obtain ⟨u, rfl, t, rfl⟩ := vals1 r
    exact call_int_int ⟨.int i, H, I, ⟨_, rfl⟩, q⟩
  · obtain ⟨u, rfl, r1⟩ := vals1 r
    cases r1
    exact call_int_bool ⟨.int (if k then 1 else 0), H, I.tok _, ⟨_, rfl⟩, q⟩
end
end L2
namespace L2
open PySem PySem.Spec PyProof.Rows
section
variable {prog : Program} {w : World} {A : Around} {E : Value → Shared → Prop} {s : Shared} {K : PySem.W.Frag} {x dx C f : Addr} {mA : Str → Option Value} {name : Str} {v : Value}
end
section
variable {P : Program} {w : World} {H H' : Hp} {h h' : Heap} {a C dx : Addr} {fs fs' : List (Str × V)}
end
section
variable {X : Cx} {pins : List (Addr × Obj)} {σ : St} {H : Hp} {s : Shared} {a C dx : Addr} {fs : List (Str × V)} {f : Str} {v : V} {A : Around} {E : Value → Shared → Prop}
end
section
variable {X : Cx} {o e value : Expr} {f : Str} {pos pos' tpos : Pos} {ta tv : TE}
end
section
variable {X : Cx} {pins : List (Addr × Obj)} {σ : St} {H : Hp} {s : Shared} {A : Around} {E : Value → Shared → Prop} {Q : Value → Shared → Prop} {c : Value} {b : Bool}
end
end L2
namespace L2
open PySem PySem.Spec PyProof.Rows
structure Room (k : Nat) (A : Around) : Prop where
  hd : A.handled = none
  dp : A.depth + 3 * k + 5 < recursionLimit
  un : A.units + 16 * k + 200 < cLine
theorem Room.mono {j k : Nat} {A : Around} (r : Room k A) (h : j ≤ k) : Room j A := ⟨r.hd, by have := r.dp; omega, by have := r.un; omega⟩
theorem Room.deeper {k : Nat} {A : Around} (r : Room (k + 1) A) (env : Env) : Room k (A.deeper env) :=
  ⟨r.hd, by have := r.dp; show A.depth + 1 + 3 * k + 5 < _; omega, by have := r.un; show A.units + 3 + 16 * k + 200 < _; omega⟩
theorem Room.depth {k : Nat} {A : Around} (r : Room k A) : A.depth < recursionLimit := by have := r.dp; omega
noncomputable def tNil : TA := fun _ H Q => Q [] H
noncomputable def tCons (ta : TE) (tr : TA) : TA := fun σ H Q => ta σ H fun x H1 => tr σ H1 fun xs H2 => Q (x :: xs) H2
section
variable {X : Cx} {e : Expr} {es : List Expr} {te : TE} {t : TA} {pos : Pos}
theorem pa_nil : PA X [] tNil := fun _ _ _ _ H Q I h => Calls.spliced_nil ⟨[], H, I, .nil, h⟩
theorem pa_cons (ha : PE X e te) (hr : PA X es t) (hs : autoParam (starEach (e :: es) X.env = (false, eval e X.env) :: starEach es X.env) L2.aRfl._auto_1) : PA X (e :: es) (tCons te t) := by
  intro pos pins s σ H Q I h
  rw [hs]
  show wpAny _ _ (spliced ((false, eval e X.env) :: backTo pos (starEach es X.env))) _ _ s
  refine Calls.spliced_cons (thn (ha pins s σ H _ I h) fun u s1 ⟨x, H1, I1, r1, q1⟩ => ?_)
  exact thn (hr pos pins s1 σ H1 _ I1 q1) fun us s2 ⟨xs, H2, I2, r2, q2⟩ => ⟨x :: xs, H2, I2, .cons r1 r2, q2⟩
noncomputable def tTup (t : TA) : TE := fun σ H Q => t σ H fun xs H1 => xs.length ≤ sizeLine ∧ ∀ p, H1 p = none → Q (.ref p) (upd H1 p (.tup xs))
noncomputable def tLst (t : TA) : TE := fun σ H Q => t σ H fun xs H1 => xs.length ≤ sizeLine ∧ ∀ p, H1 p = none → Q (.ref p) (upd H1 p (.lst xs))
theorem pe_tup {x1} (h : PA X es t) : PE X (.Tuple es x1 pos) (tTup t) := by
  intro pins s σ H Q I hq
  refine wpAny_Tuple_spliced (thn (h pos pins s σ H _ I hq) fun us s1 ⟨xs, H1, I1, r, z, q⟩ => ⟨by rw [← r.length]; exact z, ?_⟩)
  have hf : H1 s1.heap.objs.size = none := I1.hok.fresh (Nat.le_refl _)
  refine ⟨.ref s1.heap.objs.size, upd H1 s1.heap.objs.size (.tup xs), I1.laid (t' := s1.toks) (fun b u e => Heap.get?_push_of_some _ e) (Nat.le_refl _) ?_, rfl, q _ hf⟩
  exact ⟨z, us, r, ⟨_, Heap.get?_push_size _ rfl, rfl, _, rfl⟩⟩
theorem pe_lst (h : PA X es t) : PE X (.List es pos) (tLst t) := by
  intro pins s σ H Q I hq
  refine wpAny_List_spliced (thn (h pos pins s σ H _ I hq) fun us s1 ⟨xs, H1, I1, r, z, q⟩ => ⟨by rw [← r.length]; exact z, ?_⟩)
  have hf : H1 s1.heap.objs.size = none := I1.hok.fresh (Nat.le_refl _)
  refine ⟨.ref s1.heap.objs.size, upd H1 s1.heap.objs.size (.lst xs), I1.laid (t' := s1.toks) (fun b u e => Heap.get?_push_of_some _ e) (Nat.le_refl _) ?_, rfl, q _ hf⟩
  exact ⟨z, us, 0, r, Heap.get?_push_size _ rfl⟩
end
noncomputable abbrev Sp := List V → Hp → VK → XK → Prop
noncomputable abbrev CXT := List Env → Hp → Shared → XK → Value → Shared → Prop
structure Env0 (P : Program) (w : World) (K : PySem.W.Frag) (mg : Str → Option Value) (base : Heap) (A : Around) (outer : List Env) (s : Shared) (H : Hp) : Prop where
  frames : A.frames = some outer
  mod : Mod K mg base
  bs : ∀ b o, base.get? b = some o → s.heap.get? b = some o ∧ H b = none
  bsz : base.objs.size ≤ s.heap.objs.size
  funs : s.heap.FunFrames base outer
  frf : ∀ b ∈ frs outer, H b = none
  hok : HOk P w H s.heap
  bare : AllBare s.gens
noncomputable def CE (outer : List Env) (P : Program) (w : World) (H : Hp) (s : Shared) (Q : VK) (u : Value) (s' : Shared) : Prop :=
  ∃ v H', s'.os = s.os ∧ AllBare s'.gens ∧ Un (frs outer) [] H H' s.heap s'.heap ∧ HOk P w H' s'.heap ∧ RelV v u ∧ Q v H'
noncomputable def CR (CX : CXT) (outer : List Env) (P : Program) (w : World) (H : Hp) (s : Shared) (Q : VK) (E : XK) (r : Result) (s' : Shared) : Prop :=
  match r with
  | .ok (.ret u) => CE outer P w H s Q u s'
  | .ok _ => False
  | .error e => CX outer H s E e s'
structure FnOk (P : Program) (w : World) (K : PySem.W.Frag) (mg : Str → Option Value) (base : Heap) (CX : CXT) (k : Nat) (f : Addr) (fd : FuncData) (ps : List Str) (sp : Sp) : Prop where
  len : ∀ vs H Q E, sp vs H Q E → vs.length = ps.length
  run : ∀ (A : Around) (outer : List Env) (s : Shared) (H : Hp) (args : Args) (us : List Value) (vs : List V) (Q : VK) (E : XK), Room k A → Env0 P w K mg base A outer s H → BindsTo s fd args (ps.zip us) → Vals vs us → sp vs H Q E →
    codeAny (model P w) A (.call (.ref f) args) (CR CX outer P w H s Q E) s
section
variable {X : Cx} {pins : List (Addr × Obj)} {σ : St} {H : Hp} {s s' : Shared}
theorem Inv.env0 (I : Inv X pins σ H s) : Env0 X.prog X.w X.K X.mg X.base X.A X.stack s H :=
  ⟨I.ok.frames, I.ok.mod, I.bs, Nat.le_trans I.ok.bsz I.sz, I.stack, I.stkFree, I.hok, I.bare⟩
theorem Inv.after {Q : VK} {u : Value} (I : Inv X pins σ H s) (h : CE X.stack X.prog X.w H s Q u s') : EP X pins σ Q u s' := by
  obtain ⟨v, H', os, bare, un, hok, r, q⟩ := h
  obtain ⟨hh, g, d, t, os'⟩ := s'
  obtain rfl : os' = s.os := os
  exact ⟨v, H', I.call (h' := hh) (g' := g) (d' := d) (t' := t) (ch := []) un hok bare (fun b z => absurd z (by simp)), r, q⟩
end
noncomputable def tCall (sp : Sp) (dvs : List V) (E : XK) (t : TA) : TE := fun σ H Q => t σ H fun vs H1 => sp (vs ++ dvs) H1 Q E
noncomputable def Binds (K : PySem.W.Frag) (fd : FuncData) (ps : List Str) (ds : List Value) : Prop :=
  ∀ (s : Shared) (us : List Value), K.In s.heap → (us ++ ds).length = ps.length → BindsTo s fd ⟨us, []⟩ (ps.zip (us ++ ds))
theorem Binds.all {K : PySem.W.Frag} {fd : FuncData} {ps : List Str} (h : ∀ us : List Value, us.length = ps.length → bindArgs fd ⟨us, []⟩ = pure (ps.zip us)) : Binds K fd ps [] := fun s us _ hl => by
  rw [List.append_nil] at hl ⊢
  exact .of_eq (h us hl)
noncomputable def Passes (CX : CXT) (X : Cx) (E : XK) : Prop := ∀ (pins : List (Addr × Obj)) (σ : St) (H : Hp) (s : Shared) (e : Value) (s' : Shared), Inv X pins σ H s → CX X.stack H s E e s' → X.xe e s'
section
variable {X : Cx} {CX : CXT} {k : Nat} {f C : Addr} {fd : FuncData} {ps : List Str} {sp : Sp} {dvs : List V} {ds : List Value} {E : XK} {x m : Str} {p pos apos : Pos} {e o : Expr} {es : List Expr} {ta : TE} {t : TA}
theorem run_fn {pins : List (Addr × Obj)} {σ : St} {H : Hp} {s : Shared} {Q : VK} {us : List Value} {vs : List V} (F : FnOk X.prog X.w X.K X.mg X.base CX k f fd ps sp) (hr : Room k X.A) (hb : Binds X.K fd ps ds) (hd : Vals dvs ds) (hx : Passes CX X E)
    (I : Inv X pins σ H s) (r : Vals vs us) (h : sp (vs ++ dvs) H Q E) : wpAny (model X.prog X.w) X.A (call (.ref f) us) (EP X pins σ Q) X.xe s := by
  have r2 : Vals (vs ++ dvs) (us ++ ds) := r.append hd
  have hl : (us ++ ds).length = ps.length := by rw [← r2.length]; exact F.len _ _ _ _ h
  refine wpAny_call (codeAny_mono (F.run X.A X.stack s H ⟨us, []⟩ (us ++ ds) (vs ++ dvs) Q E hr I.env0 (hb s us I.kIn hl) r2 h) fun r s' hq => ?_)
  cases r with
  | error e => exact hx pins σ H s e s' I hq
  | ok fl =>
    cases fl with
    | ret u => exact I.after hq
    | next => exact False.elim hq
    | brk => exact False.elim hq
    | cont => exact False.elim hq
theorem pe_call (F : FnOk X.prog X.w X.K X.mg X.base CX k f fd ps sp) (hr : Room k X.A) (hg : Gl X x) (hm : X.mg x = some (.ref f)) (hk : PySem.W.keepIn X.K (.ref f) = true) (hb : Binds X.K fd ps ds) (hd : Vals dvs ds) (hx : Passes CX X E)
    (ha : PA X (e :: es) t) (hdb : autoParam ((x == ("__debug__" : Str)) = false) L2.aDec._auto_1) (he : autoParam (starEach (e :: es) X.env = (false, eval e X.env) :: starEach es X.env) L2.aRfl._auto_1) (hpl : autoParam ((backTo pos (starEach es X.env)).any (·.1) = false) L2.aRfl._auto_1) :
    PE X (.Call (.Name x p) (e :: es) [] pos) (tCall sp dvs E t) := by
  intro pins s σ H Q I h
  refine wpAny_Call_Name_kw (ld_glob I hg hm ?_ hdb)
  refine PySem.W.callWith_K (h₀ := X.base) I.ok.mod.kin hk (thn (ha pos pins s σ H _ I h) fun us s1 ⟨vs, H1, I1, r, q⟩ => ⟨I1.kIn, ?_⟩) he hpl
  exact run_fn F hr hb hd hx I1 r q
end
section
variable {X : Cx} {CX : CXT} {k : Nat} {f C : Addr} {fd : FuncData} {ps ks : List Str} {sp : Sp} {E : XK} {x m : Str} {p pos apos kpos : Pos} {e o : Expr} {es : List Expr} {kws : List Keyword} {te ta : TE} {t tk : TA} {nm : Option Str}
variable {g : List Value → List Value → List Value} {gV : List V → List V → List V}
end
structure FnScope (N P : List Str) (sc : Scope) : Prop where
  kind : sc.kind = .function
  co : sc.isCoroutine = false
  gen : sc.isGenerator = false
  nd : N.Nodup
  pre : N.take P.length = P
  par : ∀ x ∈ P, sc.names.lookup x = some .local ∨ sc.names.lookup x = some .cell
  nofree : ∀ y ∈ sc.names, y.2 ≠ .free
theorem bindL_out {kindOf : Str → Option NameKind} {x : Str} : ∀ {binds : List (Str × Value)} {m : Str → Option Value}, (∀ v, (x, v) ∉ binds) → bindL kindOf binds m x = m x
  | [], _, _ => rfl
  | (n, v) :: r, m, h => by
    unfold bindL
    rw [bindL_out fun w hw => h w (List.mem_cons_of_mem _ hw)]
    split
    · have : x ≠ n := by rintro rfl; exact h v List.mem_cons_self
      simp [this]
    · rfl
theorem bindC_out {kindOf : Str → Option NameKind} {x : Str} : ∀ {binds : List (Str × Value)} {m : Str → Option Value}, (∀ v, (x, v) ∉ binds) → bindC kindOf binds m x = m x
  | [], _, _ => rfl
  | (n, v) :: r, m, h => by
    unfold bindC
    rw [bindC_out fun w hw => h w (List.mem_cons_of_mem _ hw)]
    split
    · rfl
    · have : x ≠ n := by rintro rfl; exact h v List.mem_cons_self
      simp [this]
theorem bindL_get {kindOf : Str → Option NameKind} {x : Str} {v : Value} : ∀ {P : List Str} {vs : List Value} {i : Nat} {m : Str → Option Value}, P.Nodup → P[i]? = some x → vs[i]? = some v → kindOf x = some .local →
    bindL kindOf (P.zip vs) m x = some v
  | [], _, _, _, _, h, _, _ => by simp at h
  | _ :: _, [], _, _, _, _, h, _ => by simp at h
  | p :: P, w :: vs, 0, m, nd, h1, h2, hk => by
    simp at h1 h2; subst h1; subst h2
    show bindL kindOf ((p, w) :: P.zip vs) m p = _
    unfold bindL
    rw [bindL_out fun v hv => (List.nodup_cons.mp nd).1 (List.of_mem_zip hv).1, if_pos hk]
    simp
  | p :: P, w :: vs, i + 1, m, nd, h1, h2, hk => by
    show bindL kindOf ((p, w) :: P.zip vs) m x = _
    unfold bindL
    exact bindL_get (i := i) (List.nodup_cons.mp nd).2 (by simpa using h1) (by simpa using h2) hk
theorem bindC_get {kindOf : Str → Option NameKind} {x : Str} {v : Value} : ∀ {P : List Str} {vs : List Value} {i : Nat} {m : Str → Option Value}, P.Nodup → P[i]? = some x → vs[i]? = some v → kindOf x ≠ some .local →
    bindC kindOf (P.zip vs) m x = some v
  | [], _, _, _, _, h, _, _ => by simp at h
  | _ :: _, [], _, _, _, _, h, _ => by simp at h
  | p :: P, w :: vs, 0, m, nd, h1, h2, hk => by
    simp at h1 h2; subst h1; subst h2
    show bindC kindOf ((p, w) :: P.zip vs) m p = _
    unfold bindC
    rw [bindC_out fun v hv => (List.nodup_cons.mp nd).1 (List.of_mem_zip hv).1, if_neg hk]
    simp
  | p :: P, w :: vs, i + 1, m, nd, h1, h2, hk => by
    show bindC kindOf ((p, w) :: P.zip vs) m x = _
    unfold bindC
    exact bindC_get (i := i) (List.nodup_cons.mp nd).2 (by simpa using h1) (by simpa using h2) hk
noncomputable def start (N : List Str) (vs : List V) : St := vs.map some ++ List.replicate (N.length - vs.length) none
noncomputable def cxOf (CX : CXT) (P : Program) (w : World) (K : PySem.W.Frag) (mg : Str → Option Value) (base : Heap) (N : List Str) (qual : Str) (scope : Scope) (f : Addr) (cd : Value) (A : Around) (outer : List Env) (s : Shared) (H : Hp) (E : XK) : Cx where
  prog := P
  w := w
  K := K
  mg := mg
  base := base
  A := A.deeper (envOfC qual scope s.heap.objs.size f cd)
  N := N
  s₀ := s
  H₀ := H
  env := envOfC qual scope s.heap.objs.size f cd
  outer := outer
  stack := envOfC qual scope s.heap.objs.size f cd :: outer
  ex := []
  calm := true
  fn := fun _ => true
  pn := []
  xe := fun e s' => wpAny (model P w) (A.deeper (envOfC qual scope s.heap.objs.size f cd)) (leaving (envOfC qual scope s.heap.objs.size f cd) e) (fun _ s'' => CX outer H s E e s'') (fun e' s'' => CX outer H s E e' s'') s'
theorem cell_has {sc : Scope} {n : Nat} {x : Str} (h : sc.names.lookup x = some .cell) : ∃ c, (cellsFrom n sc.names []).lookup x = some c := by
  have q := PySem.W.cellsFrom_some sc.names n [] (.inl h)
  exact Option.isSome_iff_exists.mp q
theorem inv_start {CX : CXT} {P : Program} {w : World} {K : PySem.W.Frag} {mg : Str → Option Value} {base : Heap} {N ps : List Str} {qual : Str} {scope : Scope} {f : Addr} {cd : Value} {A : Around} {outer : List Env} {s s1 : Shared} {H : Hp} {E : XK} {us : List Value} {vs : List V}
    (S : FnScope N ps scope) (hd : A.handled = none) (e0 : Env0 P w K mg base A outer s H) (hl : vs.length = ps.length) (r : Vals vs us)
    (x : InCallC s s.heap.objs.size (bindL (envOfC qual scope s.heap.objs.size f cd).kindOf (ps.zip us) fun _ => none) (cellsFrom (s.heap.objs.size + 1) scope.names []) (bindC (envOfC qual scope s.heap.objs.size f cd).kindOf (ps.zip us) fun _ => none) s1) :
    Inv (cxOf CX P w K mg base N qual scope f cd A outer s H E) [] (start N vs) H s1 := by
  have hpl : ps.length ≤ N.length := by have := congrArg List.length S.pre; rw [List.length_take] at this; omega
  obtain ⟨h1, tk, rfl, hk⟩ := x.done
  have noA : ∀ b : Addr, b ∉ (cxOf CX P w K mg base N qual scope f cd A outer s H E).ex := fun b z => absurd (show b ∈ ([] : List Addr) from z) (by simp)
  refine ⟨⟨e0.mod, S.kind, rfl, rfl, Nat.le_refl _, fun y z c h1 h2 => ?_, fun y hy => ?_, fun y c _ h => ?_, fun _ => hd, Around.frames_deeper e0.frames, .inr ⟨rfl, rfl⟩, fun b z => absurd z (noA b), e0.bs, e0.bsz, fun b _ _ => noA b, fun b z => absurd z (noA b), e0.funs, e0.frf⟩,
    rfl, e0.bare, Un.kept hk, ⟨_, x.toInCall.ns, fun i y v h1 h2 h3 => ?_⟩, fun y c h => ⟨_, x.cell y c h⟩, e0.hok.fresh (Nat.le_refl _), fun y c h => ?_, fun p hp => absurd (show p ∈ ([] : List (Addr × Obj)) from hp) (by simp), e0.hok.kept hk, ?_⟩
  · exact name_of_addr x.apart (PySem.mem_of_lookup h1) (PySem.mem_of_lookup h2)
  · have hy : scope.names.lookup y = some .cell ∨ scope.names.lookup y = some .free := hy
    rcases hy with hy | hy
    · exact cell_has hy
    · exact absurd rfl (S.nofree _ (PySem.mem_of_lookup hy))
  · exact Nat.le_of_lt (x.above y c (PySem.mem_of_lookup h))
  · have hi : i < vs.length := by
      unfold start at h2
      by_cases hi : i < vs.length
      · exact hi
      · rw [List.getElem?_append_right (by simpa using hi)] at h2
        rw [List.getElem?_replicate] at h2
        split at h2 <;> cases h2
    have ha : vs[i]? = some v := by
      unfold start at h2
      rw [List.getElem?_append_left (by simpa using hi), List.getElem?_map] at h2
      cases e : vs[i]? with
      | none => rw [e] at h2; cases h2
      | some a => rw [e] at h2; cases h2; rfl
    obtain ⟨u, hu, rv⟩ := r.get ha
    have hp : ps[i]? = some y := by
      rw [← S.pre, List.getElem?_take_of_lt (by omega)]; exact h1
    have ndP : ps.Nodup := by rw [← S.pre]; exact S.nd.sublist (List.take_sublist _ _)
    refine ⟨u, rv, ?_⟩
    rcases S.par y (List.mem_of_getElem? hp) with k | k
    · exact .inl ⟨k, bindL_get ndP hp hu k⟩
    · obtain ⟨c, e⟩ := cell_has (n := s.heap.objs.size + 1) k
      refine .inr ⟨.inl k, c, e, ?_⟩
      have q := x.cell y c e
      rw [bindC_get ndP hp hu (by show scope.names.lookup y ≠ _; rw [k]; decide)] at q
      exact q
  · exact e0.hok.fresh (Nat.le_of_lt (x.above y c (PySem.mem_of_lookup h)))
  · unfold start
    show _ = N.length
    rw [List.length_append, List.length_map, List.length_replicate]
    omega
theorem fn_of {CX : CXT} {P : Program} {w : World} {K : PySem.W.Frag} {mg : Str → Option Value} {base : Heap} {k : Nat} {f : Addr} {name qual : Str} {params : Arguments} {body : List Stmt} {scope : Scope} {dV kV doc pm cdv ct oc : Value} {an od : Option Addr}
    {osl : Array (Option Value)} {N ps : List Str} {sp : Sp} (lk : K.lookup f = some ⟨oc, od, .func (PySem.W.fnOf name qual params body scope dV kV doc pm an cdv ct), osl⟩) (hcd : PySem.W.codeIn K cdv qual = true) (S : FnScope N ps scope)
    (len : ∀ vs H Q E, sp vs H Q E → vs.length = ps.length)
    (hbody : ∀ (A : Around) (outer : List Env) (s : Shared) (H : Hp) (vs : List V) (Q : VK) (E : XK), Room k (A.deeper (envOfC qual scope s.heap.objs.size f cdv)) → sp vs H Q E →
      ∃ t, PSs (cxOf CX P w K mg base N qual scope f cdv A outer s H E) body t ∧ t { nx := fun _ H' => Q .non H', rt := Q } (start N vs) H) :
    FnOk P w K mg base CX (k + 1) f (PySem.W.fnOf name qual params body scope dV kV doc pm an cdv ct) ps sp := by
  refine ⟨len, fun A outer s H args us vs Q E hr e0 hb r hsp => ?_⟩
  have hl := len _ _ _ _ hsp
  have KX : K.In s.heap := e0.mod.kin.keeps fun b o e => (e0.bs b o e).1
  have lim : s.heap.NoLimit := e0.mod.nolimit.keeps fun b o e => (e0.bs b o e).1
  have hkind : ∀ y ∈ ps.zip us, scope.names.lookup y.1 = some .local ∨ (scope.names.lookup y.1 = some .cell ∧ ((cellsFrom (s.heap.objs.size + 1) scope.names []).lookup y.1).isSome = true) := fun ⟨n, v⟩ hy => by
    rcases S.par n (List.of_mem_zip hy).1 with q | q
    · exact .inl q
    · exact .inr ⟨q, PySem.W.cellsFrom_some _ _ _ (.inl q)⟩
  refine codeAny_call_function hr.depth (KX _ _ lk) rfl S.co S.gen rfl (PySem.W.codeRec_of KX hcd) (hb _ _ _ _ ?_)
  refine wpAny_newFunctionEnv_cells S.kind hkind fun env he s1 x => ?_
  subst he
  refine ⟨lim.keeps x.toInCall.keep, codeAny_func ?_⟩
  obtain ⟨t, ht, hq⟩ := hbody A outer s H vs Q E (hr.deeper _) hsp
  have I : Inv (cxOf CX P w K mg base N qual scope f cdv A outer s H E) [] (start N vs) H s1 := inv_start S hr.hd e0 hl r x
  refine wpAny_mono (ht [] s1 (start N vs) H _ I hq) (fun fl s' hs => ?_) fun e s' hs => hs
  have fin : ∀ {σ' : St} {H' : Hp} {v : V} {u : Value}, Inv (cxOf CX P w K mg base N qual scope f cdv A outer s H E) [] σ' H' s' → RelV v u → Q v H' → CE outer P w H s Q u s' :=
    fun {σ' H' v u} J rv q => ⟨v, H', J.os, J.bare, J.base, J.hok, rv, q⟩
  cases fl with
  | ret u =>
    obtain ⟨v, σ', H', J, rv, q⟩ := hs
    exact fin J rv q
  | next =>
    obtain ⟨σ', H', J, q⟩ := hs
    exact fin (v := V.non) (u := Value.none) J rfl q
  | brk =>
    obtain ⟨_, _, _, q⟩ := hs
    exact False.elim q
  | cont =>
    obtain ⟨_, _, _, q⟩ := hs
    exact False.elim q
end L2
namespace L2
open PySem PySem.Spec PyProof.Rows
section
variable {X : Cx} {x : Str} {p pos : Pos} {e : Expr} {es : List Expr} {t : TA} {id T : String} {r : List V → Hp → VK → Prop}
noncomputable def tCB (r : List V → Hp → VK → Prop) (t : TA) : TE := fun σ H Q => t σ H fun vs H1 => r vs H1 Q
theorem pe_callB (hc : CallR X (.builtin id) r) (hg : Gl X x) (hm : X.mg x = none) (hv : bootBuiltins x = some (.builtin id)) (ha : PA X (e :: es) t) (hn : autoParam (x ≠ "__name__") L2.aDec._auto_1) (hdb : autoParam ((x == ("__debug__" : Str)) = false) L2.aDec._auto_1)
    (he : autoParam (starEach (e :: es) X.env = (false, eval e X.env) :: starEach es X.env) L2.aRfl._auto_1) (hpl : autoParam ((backTo pos (starEach es X.env)).any (·.1) = false) L2.aRfl._auto_1) : PE X (.Call (.Name x p) (e :: es) [] pos) (tCB r t) := by
  intro pins s σ H Q I h
  refine wpAny_Call_Name_kw (ld_blt I hg hm hv ?_ hn hdb)
  exact PyProof.Rows.callWith_builtin1 (thn (ha pos pins s σ H _ I h) fun us s1 ⟨vs, H1, I1, r1, q1⟩ => hc pins s1 σ H1 vs us Q I1 r1 q1) he hpl
theorem pe_callTy (hc : CallR X (.type T) r) (hg : Gl X x) (hm : X.mg x = none) (hv : bootBuiltins x = some (.type T)) (ha : PA X (e :: es) t) (hn : autoParam (x ≠ "__name__") L2.aDec._auto_1) (hdb : autoParam ((x == ("__debug__" : Str)) = false) L2.aDec._auto_1)
    (he : autoParam (starEach (e :: es) X.env = (false, eval e X.env) :: starEach es X.env) L2.aRfl._auto_1) (hpl : autoParam ((backTo pos (starEach es X.env)).any (·.1) = false) L2.aRfl._auto_1) : PE X (.Call (.Name x p) (e :: es) [] pos) (tCB r t) := by
  intro pins s σ H Q I h
  refine wpAny_Call_Name_kw (ld_blt I hg hm hv ?_ hn hdb)
  exact PyProof.Rows.callWith_type1 (thn (ha pos pins s σ H _ I h) fun us s1 ⟨vs, H1, I1, r1, q1⟩ => hc pins s1 σ H1 vs us Q I1 r1 q1) he hpl
end
end L2
namespace HT
open PySem PyProof.Rows
section
open PySem.SeqAt
open PySem.AutoSeq1 (wpAny_loadPart')
open PySem.MeetsSeq PySem.MeetsSeq2 PySem.MeetsSeq3
end
section
variable {prog : Program} {w : World} {A : Around} {E : Value → Shared → Prop} {s : Shared}
theorem cat_tup {t b : Addr} {vs ws : List Value} {Q : Value → Shared → Prop} (ht : IsTup s.heap t vs.toArray) (hb : IsTup s.heap b ws.toArray) (hv : vs ≠ [])
    (h1 : ws = [] → Q (.ref t) s) (h2 : ws ≠ [] → Q (.ref s.heap.objs.size) { s with heap := s.heap.push { cls := .type "tuple", data := .seq (vs ++ ws).toArray } })
    (hsz : vs.length + ws.length ≤ sizeLine) : wpAny (model prog w) A (binaryOp .Add (.ref t) (.ref b)) Q E s := by
  obtain ⟨⟨cls, dd, data, sl⟩, ho, hc, n, hd⟩ := id ht
  obtain ⟨⟨cls2, dd2, data2, sl2⟩, ho2, hc2, n2, hd2⟩ := id hb
  simp only at hc hd hc2 hd2
  subst hc hd hc2 hd2
  have e : vs.toArray ++ ws.toArray = (vs ++ ws).toArray := by simp
  by_cases hw : ws = []
  · exact concat_meets ⟨_, ho, rfl⟩ ⟨_, ho2, rfl⟩ noFill_tuple_add seq_tuple_add PySem.F.slot_tuple_add PySem.F.entry_tuple_add (PySem.F.args_tuple_add_2 _ _)
      (tuple_addW1 t b vs.toArray ws.toArray n n2 dd dd2 sl sl2 (by simpa using hv) (by simp [hw])) ⟨ho, ho2, h1 hw⟩
  · refine concat_meets ⟨_, ho, rfl⟩ ⟨_, ho2, rfl⟩ noFill_tuple_add seq_tuple_add PySem.F.slot_tuple_add PySem.F.entry_tuple_add (PySem.F.args_tuple_add_2 _ _)
      (tuple_addW2 t b vs.toArray ws.toArray n n2 dd dd2 sl sl2 (by simpa using hv) (by simpa using hw) (by rw [List.size_toArray, List.size_toArray]; exact hsz)) ⟨ho, ho2, ?_⟩
    rw [e]
    exact h2 hw
end
end HT
namespace L2
open PySem PySem.Spec PyProof.Rows
theorem intsAre_of {ns : List Int} : ∀ {us : List Value}, Vals (ns.map V.int) us → IntsAre us ns := by
  induction ns with
  | nil => intro us r; rw [List.map_nil] at r; cases r; exact .nil
  | cons n ns ih =>
    intro us r
    rw [List.map_cons] at r
    cases r with
    | cons r1 r2 =>
      obtain ⟨t, e⟩ := r1
      subst e
      exact .cons n t (ih r2)
section
variable {X : Cx} {e : Expr} {te : TE} {lo hi : Option Expr} {tl th : TO} {pos p2 : Pos}
noncomputable def rCatT (K : PySem.W.Frag) : R2 := fun x y H Q => ∃ a b xs ys, x = .ref a ∧ y = .ref b ∧ SqT K H a xs ∧ SqT K H b ys ∧ xs ≠ [] ∧ xs.length + ys.length ≤ sizeLine ∧
  (ys = [] → Q (.ref a) H) ∧ (ys ≠ [] → ∀ p, H p = none → Q (.ref p) (upd H p (.tup (xs ++ ys))))
theorem Vals.nil_iff {xs : List V} {us : List Value} (r : Vals xs us) : us = [] ↔ xs = [] := by
  cases r with
  | nil => simp
  | cons _ _ => simp
theorem op_catT : OpR X (binaryOp .Add) (rCatT X.K) := by
  intro pins s σ H x y v u Q I rx ry h
  obtain ⟨a, b, xs, ys, rfl, rfl, ha, hb, hx, hz, q1, q2⟩ := h
  cases rx
  cases ry
  obtain ⟨its, r1, p1, _⟩ := I.tuple ha
  obtain ⟨its2, r2, p2, _⟩ := I.tuple hb
  refine HT.cat_tup p1 p2 (fun z => hx (r1.nil_iff.mp z)) (fun z => ⟨.ref a, H, I, rfl, q1 (r2.nil_iff.mp z)⟩) (fun z => ?_) (by rw [← r1.length, ← r2.length]; exact hz)
  refine ⟨.ref s.heap.objs.size, _, I.laid (t' := s.toks) (o := .tup (xs ++ ys)) (fun b ob q => Heap.get?_push_of_some _ q) (Nat.le_refl _) ?_, rfl, q2 (fun w => z (r2.nil_iff.mpr w)) _ (I.hok.fresh (Nat.le_refl _))⟩
  exact ⟨by rw [List.length_append]; exact hz, _, r1.append r2, IsTup.new _ _⟩
end
end L2
namespace L2
open PySem PySem.Spec PyProof.Rows
noncomputable def ixN (n : Nat) (i : Int) : Option Nat := if 0 ≤ i then (if i < n then some i.toNat else none) else if -(n : Int) ≤ i then some (i + n).toNat else none
noncomputable def atI {α : Type} (xs : List α) (i : Int) : Option α := (ixN xs.length i).bind fun j => xs[j]?
theorem ixN_seq {n : Nat} {i : Int} {j : Nat} (h : ixN n i = some j) : seqIndex? i n = some j ∧ j < n ∧ -(n : Int) ≤ i ∧ i < n := by
  unfold ixN at h
  by_cases h0 : 0 ≤ i
  · rw [if_pos h0] at h
    by_cases h1 : i < n
    · rw [if_pos h1] at h
      have e : i.toNat = j := Option.some.inj h
      exact ⟨by rw [seqIndex_of h0 h1, e], by omega, by omega, h1⟩
    · rw [if_neg h1] at h; cases h
  · rw [if_neg h0] at h
    by_cases h1 : -(n : Int) ≤ i
    · rw [if_pos h1] at h
      have e : (i + n).toNat = j := Option.some.inj h
      exact ⟨by rw [seqIndex_neg (by omega) h1, e], by omega, h1, by omega⟩
    · rw [if_neg h1] at h; cases h
theorem atI_get {α : Type} {xs : List α} {i : Int} {v : α} (h : atI xs i = some v) : ∃ j, seqIndex? i xs.length = some j ∧ xs[j]? = some v ∧ j < xs.length ∧ -(xs.length : Int) ≤ i ∧ i < xs.length := by
  unfold atI at h
  cases e : ixN xs.length i with
  | none => rw [e] at h; cases h
  | some j =>
    rw [e] at h
    obtain ⟨h1, h2, h3, h4⟩ := ixN_seq e
    exact ⟨j, h1, h, h2, h3, h4⟩
theorem atI_nat {α : Type} {xs : List α} {j : Nat} {v : α} (h : xs[j]? = some v) : atI xs (j : Int) = some v := by
  have hj : j < xs.length := (List.getElem?_eq_some_iff.mp h).1
  have e : ixN xs.length (j : Int) = some j := by
    unfold ixN
    rw [if_pos (by omega), if_pos (by omega)]; simp
  unfold atI; rw [e]; exact h
noncomputable def PlainIx (b : Expr) : Prop := ∀ o i, subscripted b false o i = operate [o, i] (getItem o i)
noncomputable def IxR (X : Cx) (r : R2) : Prop :=
  ∀ (value slice : Expr) (pins : List (Addr × Obj)) (s : Shared) (σ : St) (H : Hp) (x y : V) (v u : Value) (Q : VK), Inv X pins σ H s → RelV x v → RelV y u → r x y H Q →
    subscripted slice false v u = operate [v, u] (getItem v u) → wpAny (model X.prog X.w) X.A (subscriptTail value slice v u) (EP X pins σ Q) X.xe s
noncomputable def MtR (X : Cx) (id : String) (r : V → List V → Hp → VK → Prop) : Prop :=
  ∀ (pins : List (Addr × Obj)) (s : Shared) (σ : St) (H : Hp) (x : V) (xs : List V) (v : Value) (us : List Value) (Q : VK), Inv X pins σ H s → RelV x v → Vals xs us → r x xs H Q →
    wpAny (model X.prog X.w) X.A (call (.builtin id) (v :: us)) (EP X pins σ Q) X.xe s
section
variable {X : Cx} {a b : Expr} {ta tb : TE} {pos : Pos}
theorem pe_ix {r : R2} (hr : IxR X r) (ha : PE X a ta) (hb : PE X b tb) (hs : PlainIx b) : PE X (.Subscript a b pos) (tOp r ta tb) := by
  intro pins s σ H Q I h
  exact Subscript_ (binT ha hb I h fun v u s2 x y H2 I2 rx ry q => hr a b pins s2 σ H2 x y v u Q I2 rx ry q (hs _ _))
noncomputable def rIxL (K : PySem.W.Frag) : R2 := fun x y H Q => ∃ p xs i v, x = .ref p ∧ y = .int i ∧ SqL K H p xs ∧ atI xs i = some v ∧ Q v H
noncomputable def rIxT (K : PySem.W.Frag) : R2 := fun x y H Q => ∃ p xs i v, x = .ref p ∧ y = .int i ∧ SqT K H p xs ∧ atI xs i = some v ∧ Q v H
theorem ix_list : IxR X (rIxL X.K) := by
  intro value slice pins s σ H x y v u Q I rx ry h hs
  obtain ⟨p, xs, i, z, rfl, rfl, hq, he, q⟩ := h
  cases rx
  obtain ⟨t, rfl⟩ := ry
  obtain ⟨its, r, pl, hz⟩ := I.list hq
  obtain ⟨j, h1, h2, h3, h4, h5⟩ := atI_get he
  obtain ⟨w, ew, rw'⟩ := r.get h2
  have hl := r.length
  have hn := line63
  have fin : EP X pins σ Q w s := ⟨z, H, I, rw', q⟩
  by_cases h0 : 0 ≤ i
  · have hj : i.toNat = j := by
      rw [seqIndex_of h0 h5] at h1
      exact Option.some.inj h1
    exact item_listR pl.isList h0 (by omega) (by rw [hj]; simpa using ew) fin hs
  · have hj : (i + (its.toArray.size : Int)).toNat = j := by
      rw [seqIndex_neg (by omega) h4] at h1
      rw [List.size_toArray, ← hl]
      exact Option.some.inj h1
    exact subscriptTail_builtinR (x := w) pl.isList.typeIs slot_list_getitem.lookup
      (wpAny_getItem_list_neg (Q := fun r s' => r = w ∧ EP X pins σ Q r s') pl.isList (by omega) (by rw [List.size_toArray] <;> omega) (by omega) (by rw [hj]; simpa using ew) ⟨rfl, fin⟩) hs
theorem ix_tup : IxR X (rIxT X.K) := by
  intro value slice pins s σ H x y v u Q I rx ry h hs
  obtain ⟨p, xs, i, z, rfl, rfl, hq, he, q⟩ := h
  cases rx
  obtain ⟨t, rfl⟩ := ry
  obtain ⟨its, r, pl, hz⟩ := I.tuple hq
  obtain ⟨j, h1, h2, h3, h4, h5⟩ := atI_get he
  obtain ⟨w, ew, rw'⟩ := r.get h2
  have hl := r.length
  have hn := line63
  have fin : EP X pins σ Q w s := ⟨z, H, I, rw', q⟩
  exact subscriptTail_builtinR (x := w) pl.typeIs slot_tuple_getitem.lookup
    (getItem_tuple (j := j) (Q := fun r s' => r = w ∧ EP X pins σ Q r s') pl (by omega) (by omega) (by rw [List.size_toArray, ← hl]; exact h1) (by simpa using ew) ⟨rfl, fin⟩) hs
theorem call_len_seq : CallR X (.builtin "len") (fun xs H Q => ∃ p ys, xs = [.ref p] ∧ (SqL X.K H p ys ∨ SqT X.K H p ys) ∧ Q (.int ys.length) H) := by
  intro pins s σ H xs us Q I r h
  obtain ⟨p, ys, rfl, hq, q⟩ := h
  obtain ⟨u, rfl, rx⟩ := vals1 r
  cases rx
  have hn := line63
  rcases hq with hq | hq
  · obtain ⟨its, r', pl, hz⟩ := I.list hq
    have hlen := r'.length
    exact Calls.call_len_list pl.isList (by simp only [List.size_toArray] <;> omega) ⟨.int ys.length, H, I.tok _, ⟨s.toks + 1, by rw [List.size_toArray, hlen]⟩, q⟩
  · obtain ⟨its, r', pl, hz⟩ := I.tuple hq
    have hlen := r'.length
    exact len_tuple pl (by simp only [List.size_toArray] <;> omega) ⟨.int ys.length, H, I.tok _, ⟨s.toks + 1, by rw [List.size_toArray, hlen]⟩, q⟩
theorem call_list_of : CallR X (.type "list") (fun xs H Q => ∃ p ys, xs = [.ref p] ∧ (SqL X.K H p ys ∨ SqT X.K H p ys) ∧ ∀ l, H l = none → Q (.ref l) (upd H l (.lst ys))) := by
  intro pins s σ H xs us Q I r h
  obtain ⟨p, ys, rfl, hq, q⟩ := h
  obtain ⟨u, rfl, rx⟩ := vals1 r
  cases rx
  have fin : ∀ (its : List Value), Vals ys its → ys.length ≤ sizeLine → ∀ (h' : Heap) (c' : Nat), (∀ b o', s.heap.get? b = some o' → h'.get? b = some o') →
      h'.get? s.heap.objs.size = some { cls := .type "list", dict := none, data := .seq its.toArray c', slots := #[] } → EP X pins σ Q (.ref s.heap.objs.size) { s with heap := h' } := fun its r' hz h' c' kp e =>
    ⟨.ref s.heap.objs.size, _, I.laid (t' := s.toks) kp (Nat.le_refl _) (show ObjOk X.prog X.w _ h' _ (.lst ys) from ⟨hz, its, c', r', e⟩), rfl, q _ (I.hok.fresh (Nat.le_refl _))⟩
  rcases hq with hq | hq
  · obtain ⟨its, r', pl, hz⟩ := I.list hq
    have hlen := r'.length
    obtain ⟨o, ho, hc, n, hd⟩ := pl.isList
    exact call_list_seq p (.inl rfl) ho hc hd (fun h' c' kp e => fin its r' hz h' c' kp e) (by simp only [List.size_toArray] <;> omega)
  · obtain ⟨its, r', pl, hz⟩ := I.tuple hq
    have hlen := r'.length
    obtain ⟨o, ho, hc, n, hd⟩ := pl
    exact call_list_seq p (.inr rfl) ho hc hd (fun h' c' kp e => fin its r' hz h' c' kp e) (by simp only [List.size_toArray] <;> omega)
theorem call_tuple_of : CallR X (.type "tuple") (fun xs H Q => ∃ p ys, xs = [.ref p] ∧ ((SqL X.K H p ys ∧ ∀ l, H l = none → Q (.ref l) (upd H l (.tup ys))) ∨ (SqT X.K H p ys ∧ Q (.ref p) H))) := by
  intro pins s σ H xs us Q I r h
  obtain ⟨p, ys, rfl, h⟩ := h
  obtain ⟨u, rfl, rx⟩ := vals1 r
  cases rx
  rcases h with ⟨hq, q⟩ | ⟨hq, q⟩
  · obtain ⟨its, r', pl, hz⟩ := I.list hq
    have hlen := r'.length
    refine call_tuple_list pl.isList (fun h' kp => ?_) (by simp only [List.size_toArray] <;> omega)
    have I1 : Inv X pins σ H { s with heap := h' } := I.kept (t' := s.toks) kp
    have I2 : Inv X pins σ (upd H h'.objs.size (.tup ys)) { s with heap := h'.push { cls := .type "tuple", data := .seq its.toArray } } :=
      I1.laid (t' := s.toks) (fun b o e => Heap.get?_push_of_some _ e) (Nat.le_refl _) (show ObjOk X.prog X.w _ _ _ (.tup ys) from ⟨hz, its, r', IsTup.new _ _⟩)
    exact ⟨.ref h'.objs.size, _, I2, rfl, q _ (I1.hok.fresh (Nat.le_refl _))⟩
  · obtain ⟨its, r', pl, hz⟩ := I.tuple hq
    exact call_tuple_same pl ⟨.ref p, H, I, rfl, q⟩
noncomputable def tyV (K : PySem.W.Frag) (T : String) (x : V) (H : Hp) : Prop := match x with
  | .str _ => T = "str"
  | .int _ => T = "int"
  | .ref p => (T = "list" ∧ ∃ xs, SqL K H p xs) ∨ (T = "tuple" ∧ ∃ o, K.lookup p = some o ∧ o.cls = .type "tuple" ∧ o.dict = none) ∨
      (T = "dict" ∧ ((∃ kvs, H p = some (.dK kvs)) ∨ ∃ kvs, H p = some (.dT kvs))) ∨ (T = "set" ∧ ∃ S n, H p = some (.set S n))
  | _ => False
theorem tyV_is {pins : List (Addr × Obj)} {σ : St} {H : Hp} {s : Shared} {T : String} {x : V} {v : Value} (I : Inv X pins σ H s) (r : RelV x v) (ty : tyV X.K T x H) :
    s.TypeIs v T ∧ ∀ a, v = .ref a → ∃ ob, s.heap.get? a = some ob ∧ ob.dict = none := by
  cases x with
  | str z =>
    obtain ⟨t, rfl⟩ := r
    cases (show T = "str" from ty)
    exact ⟨typeIs_str s z t, fun _ e => nomatch e⟩
  | int i =>
    obtain ⟨t, rfl⟩ := r
    cases (show T = "int" from ty)
    exact ⟨typeIs_int s i t, fun _ e => nomatch e⟩
  | ref p =>
    cases r
    rcases ty with ⟨rfl, xs, hq⟩ | ⟨rfl, o, hk, hc, hd⟩ | ⟨rfl, hk⟩ | ⟨rfl, S, n, hk⟩
    · obtain ⟨its, _, pl, _⟩ := I.list hq
      refine ⟨pl.isList.typeIs, fun a e => ?_⟩
      cases e
      obtain ⟨o, n, e, c, hd, _⟩ := pl
      exact ⟨o, e, hd⟩
    · refine ⟨⟨o, I.kIn p o hk, hc⟩, fun a e => ?_⟩
      cases e
      exact ⟨o, I.kIn _ o hk, hd⟩
    · have z : ∃ o, s.heap.get? p = some o ∧ o.ExactDict := by
        rcases hk with ⟨kvs, hk⟩ | ⟨kvs, hk⟩
        · obtain ⟨_, _, _, _, o, _, _, e, ex, _⟩ := I.hok p _ hk
          exact ⟨o, e, ex⟩
        · obtain ⟨_, _, _, _, o, _, _, e, ex, _⟩ := I.hok p _ hk
          exact ⟨o, e, ex⟩
      obtain ⟨o, e, ex⟩ := z
      refine ⟨⟨o, e, ex.1⟩, fun a e2 => ?_⟩
      cases e2
      exact ⟨o, e, ex.2.1⟩
    · obtain ⟨o, _, _, _, e, ex, _⟩ := I.hok p _ hk
      refine ⟨⟨o, e, ex.1⟩, fun a e2 => ?_⟩
      cases e2
      exact ⟨o, e, ex.2.1⟩
  | _ => exact False.elim ty
noncomputable def tBM (K : PySem.W.Frag) (T : String) (r : V → List V → Hp → VK → Prop) (to : TE) (t : TA) : TE := fun σ H Q => to σ H fun x H1 => tyV K T x H1 ∧ t σ H1 fun xs H2 => r x xs H2 Q
variable {o e : Expr} {es : List Expr} {to : TE} {t : TA} {name : Str} {apos cpos : Pos} {T id : String} {r : V → List V → Hp → VK → Prop}
theorem pe_bm (pa : PlainAttrs T) (slot : Slot T name id) (hty : typeOf (.builtin id) = pure (.type "method_descriptor")) (hm : MtR X id r) (ho : PE X o to) (ha : PA X (e :: es) t)
    (hbase : autoParam (attributeBase o name X.env (eval o X.env) = eval o X.env) L2.aRfl._auto_1)
    (hfew : ((backTo cpos (starEach (e :: es) X.env)).all (fun x => !x.1) && (backToKw cpos (keywordEach [] X.env)).all (fun x => x.1.isSome)
      && decide ((e :: es).length + ([] : List Keyword).length + (if ([] : List Keyword).isEmpty then 0 else 1) < 30)) = true := by rfl)
    (hline : autoParam ((apos.endLine == cpos.line) = true) L2.aRfl._auto_1) (hs : autoParam (starEach (e :: es) X.env = (false, eval e X.env) :: starEach es X.env) L2.aRfl._auto_1) (hplain : autoParam ((backTo cpos (starEach es X.env)).any (·.1) = false) L2.aRfl._auto_1) :
    PE X (.Call (.Attribute o name apos) (e :: es) [] cpos) (tBM X.K T r to t) := by
  intro pins s σ H Q I h
  refine wpAny_Call_method_late hbase hfew hline rfl (thn (ho pins s σ H _ I h) fun v s1 ⟨x, H1, I1, r1, ty, q1⟩ => ?_)
  obtain ⟨h1, h2⟩ := tyV_is I1 r1 ty
  refine ⟨T, id, pa, slot, hty, h1, h2, ?_⟩
  have hA := ha cpos pins s1 σ H1 _ I1 q1
  rw [hs] at hA ⊢
  refine Calls.callWith_builtin (by show (false || (backTo cpos (starEach es X.env)).any (·.1)) = false; rw [hplain] <;> rfl) (Calls.evalArgs_plain ?_)
  exact thn hA fun us s2 ⟨vs, H2, I2, r2, q2⟩ => hm pins s2 σ H2 x vs v us Q I2 r1 r2 q2
/- xs.append(e), list.index on a module's tuple .. are MtR facts of 06m -/
end
end L2
namespace L2
open PySem PySem.Spec PyProof.Rows
noncomputable def MtM (X : Cx) (id : String) (r : V → List V → Hp → VK → Prop) : Prop :=
  ∀ (pins : List (Addr × Obj)) (s : Shared) (σ : St) (H : Hp) (x : V) (xs : List V) (v : Value) (us : List Value) (Q : VK), Inv X pins σ H s → RelV x v → Vals xs us → r x xs H Q →
    wpAny (model X.prog X.w) X.A (call (.builtin id) (v :: us)) (EP X pins σ Q) X.xe s
theorem Vals.one {x : V} {us : List Value} (h : Vals [x] us) : ∃ u, us = [u] ∧ RelV x u := by
  cases h with
  | cons r t => cases t; exact ⟨_, rfl, r⟩
theorem Vals.two {x y : V} {us : List Value} (h : Vals [x, y] us) : ∃ u v, us = [u, v] ∧ RelV x u ∧ RelV y v := by
  cases h with
  | cons r t =>
    cases t with
    | cons q t => cases t; exact ⟨_, _, rfl, r, q⟩
section
variable {X : Cx} {pins : List (Addr × Obj)} {σ : St} {H : Hp} {s : Shared} {l b : Addr} {xs ys zs : List V}
theorem Inv.lset {its its' : List Value} {n : Nat} {f : Array Value → Array Value} {t' : Nat} (I : Inv X pins σ H s) (hH : H l = some (.lst xs))
    (e : s.heap.get? l = some { cls := .type "list", data := .seq its.toArray n }) (hf : f its.toArray = its'.toArray) (hv : Vals ys its') (hz : ys.length ≤ sizeLine) :
    Inv X pins σ (upd H l (.lst ys)) { s with heap := s.heap.update l (Obj.mapSeq f), toks := t' } := by
  have q := PySem.IsL.update e f
  rw [hf] at q
  refine I.write (x := l) (e := l) (by rw [hH]; exact trivial) (.inl rfl) (fun b' u hb hu => (Heap.get?_update_other s.heap (Obj.mapSeq f) (Ne.symm hb)).trans hu) ⟨_, q⟩ ?_
  exact ⟨hz, its', _, hv, q⟩
theorem Inv.lstM (I : Inv X pins σ H s) (hH : H l = some (.lst xs)) : xs.length ≤ sizeLine ∧ ∃ (its : List Value) (n : Nat), Vals xs its ∧ xs.length = its.length ∧ s.heap.get? l = some { cls := .type "list", data := .seq its.toArray n } := by
  obtain ⟨z, its, n, r, e⟩ := I.hok l _ hH
  exact ⟨z, its, n, r, r.length, e⟩
end
section
variable {X : Cx}
noncomputable def rAppend : V → List V → Hp → VK → Prop := fun x vs H Q => ∃ l xs y, x = .ref l ∧ vs = [y] ∧ H l = some (.lst xs) ∧ xs.length < sizeLine ∧ Q .non (upd H l (.lst (xs ++ [y])))
theorem mt_append : MtM X "list.append" rAppend := by
  intro pins s σ H x vs v us Q I rx rv h
  obtain ⟨l, xs, y, rfl, rfl, hH, hz, q⟩ := h
  cases rx
  obtain ⟨u, rfl, ru⟩ := rv.one
  obtain ⟨z, its, n, r, hl, e⟩ := I.lstM hH
  refine call_meets F.slot_list_append ⟨_, e, rfl⟩ F.entry_list_append (F.args_list_append_2 _ _) (PySem.list_append l its.toArray n u (by rw [List.size_toArray]; omega)) ⟨e, ?_⟩
  refine ⟨.non, _, I.lset (its' := its ++ [u]) hH e (by simp) (r.append (.cons ru .nil)) ?_, rfl, q⟩
  rw [List.length_append, List.length_singleton]
  omega
end
section
variable {prog : Program} {w : World} {A : Around} {E : Value → Shared → Prop} {s : Shared}
end
section
variable {X : Cx}
end
end L2
namespace Att
open PySem PySem.W PySem.Calls PyProof.Rows
theorem ints_of_wellAll {P : Params} {h : Heap} : ∀ (ns : List Int) (vs : List Value), WellAll P h vs (ns.map WData.int) → IntsAre vs ns := by
  intro ns
  induction ns with
  | nil =>
    intro vs w
    rw [List.map_nil] at w
    cases w
    exact .nil
  | cons n ns ih =>
    intro vs w
    rw [List.map_cons] at w
    cases w with
    | cons a b =>
      cases a
      exact .cons _ _ (ih _ b)
theorem script_of {l : OpenLaw} {n : Nat} (hn : l.most = some n) {P : Params} {h : Heap} {args : List WData} {vals : List Value}
    (hpre : l.row.toRowW.claim.pre args = true) (hwl : WellAll P h vals args) :
    ∃ a vs ns, vals = [Value.ref a] ∧ args = [WData.list (ns.map WData.int)] ∧ h.get? a = some { cls := .type "list", data := .seq vs.toArray } ∧ IntsAre vs ns ∧ ns.length ≤ n := by
  have hsh : WShape.hasAll [] args [.list .int] = true := (pre_splitW hpre).1
  have hc : l.pre.holds [] { args := args } = true := (pre_splitW hpre).2
  obtain ⟨d, r, rfl, h1, h2⟩ := hasAllW_cons hsh
  obtain rfl := hasAllW_nil h2
  obtain ⟨xs, rfl, h3⟩ := hasW_list h1
  obtain ⟨ns, rfl⟩ := items_int h3
  have hlen : ns.length ≤ n := by
    unfold OpenLaw.pre at hc
    have h4 : (WTm.not (.lt (.lit (.int (n : Int))) (.len (.arg 0)))).holds [] { args := [.list (ns.map .int)] } = true := by
      have h4 := (holds_andW hc).1
      rw [hn] at h4
      exact h4
    have h5 := condW_of h4 (w_not (w_lt w_lit (w_len_list (w_arg rfl))))
    rw [List.length_map] at h5
    refine Nat.le_of_not_lt fun q => ?_
    have q' : (n : Int) < ((ns.length : Nat) : Int) := by omega
    first
      | (rw [decide_eq_true q'] at h5; exact absurd h5 (by decide))
      | (simp at h5; omega)
  cases hwl with
  | cons w1 w2 =>
    cases w2
    cases w1 with
    | list ho hall => exact ⟨_, _, ns, rfl, rfl, ho, ints_of_wellAll ns _ hall, hlen⟩
theorem post_true (l : OpenLaw) (args : List WData) : l.row.toRowW.claim.post args (.bool true) args = true :=
  postW_of (r := l.row.toRowW) (X := (true == true))
    (show WShape.has [] (.bool true) .bool = true by first | rfl | decide | simp [WShape.has, WShape.arms, WShape.armsAll])
    (show (WTm.eq .res (.lit (.bool true))).value [] { args := args, res := some (.bool true), after := args } = some (.bool (true == true)) from w_eq_bool (w_res rfl) w_lit) rfl
theorem attach_call {l : OpenLaw} {n : Nat} {q : Program} {loose : List Str} {XP : (Str → Option Value) → Heap → Prop} {YP : World → Heap → Prop} {d : DefRec}
    (hn : l.most = some n) (hdf : d.params.defaults = [])
    (call : ∀ (w : World) (s₀ s₁ : Shared) (mg mb : Str → Option Value) (fa : Addr) (o : Obj) (pm cd doc : Value) (a : Addr) (vs : List Value) (ns : List Int),
      Ground q loose [] XP w s₀ mg mb s₁.heap → YP w s₁.heap →
      s₁.heap.get? fa = some o → o.data = .func (docDef d.name d.params d.body d.scope pm cd doc) → s₁.heap.CodeRec cd d.name → mg d.name = some (.ref fa) →
      s₁.heap.get? a = some { cls := .type "list", data := .seq vs.toArray } → IntsAre vs ns → ns.length ≤ n → s₁.gens = #[] →
      codeAny (model l.prog w) callerA (.call (.ref fa) ⟨[.ref a], []⟩) (fun r s' => r = .ok (.ret (.bool true)) ∧ OldK s₁.heap s'.heap ∧ s'.os = s₁.os ∧ AllBare s'.gens) s₁) :
    WalkO q loose XP YP l.row.toRowW d [] (fun f vs => PySem.call f vs) := by
  intro w s₀ s₁ mg mb G Y fa o pm cd doc dV kV ho hd hcd hD hmg hg args vals as hpre hlay hrd hwl hlo
  obtain rfl : dV = .none := Dflts.none hD hdf
  obtain rfl : kV = .none := Dflts.noKw hD
  obtain ⟨a, vs, ns, rfl, rfl, hobj, hints, hlen⟩ := script_of hn hpre hwl
  refine enter_call (codeAny_mono (call w s₀ s₁ mg mb fa o pm cd doc a vs ns G Y ho (fd_plain hd) hcd hmg hobj hints hlen hg) fun r s' hq => ?_)
  obtain ⟨rfl, h2, h3, h4⟩ := hq
  exact ⟨.inl ⟨.bool true, .bool true, [], rfl, fun _ => rfl, .bool true, post_true l _, fun _ => ⟨List.Pairwise.nil, fun _ hm => (nomatch hm)⟩⟩, h2, h3, h4⟩
section
variable {prog : Program} {w : World} {A : Around} {E : Value → Shared → Prop} {s : Shared} {K : Frag}
end
end Att
namespace L2
open PySem PySem.Spec PyProof.Rows
theorem vals_ints : ∀ {vs : List Value} {ns : List Int}, IntsAre vs ns → Vals (ns.map V.int) vs
  | _, _, .nil => .nil
  | _, _, .cons n t h => .cons ⟨t, rfl⟩ (vals_ints h)
noncomputable def Only (H : Hp) : Prop := ∀ b, H b = none ∨ ∃ o xs, H b = some (.frz o (.lst xs))
theorem law_call {P : Program} {w : World} {K : PySem.W.Frag} {mg mb : Str → Option Value} {CX : CXT} {k : Nat} {fa a : Addr} {fd : FuncData} {x : Str} {sp : Sp} {s₁ : Shared} {vs : List Value} {ns : List Int}
    (KX : K.In s₁.heap) (hns : s₁.heap.Ns mainGlobals mg) (hb : s₁.heap.Ns builtinsNs mb) (hbb : ∀ x : Str, x ≠ "__name__" → mb x = bootBuiltins x) (hlim : s₁.heap.NoLimit) (hg : s₁.gens = #[])
    (ha : s₁.heap.get? a = some { cls := .type "list", data := .seq vs.toArray }) (hi : IntsAre vs ns) (hl : ns.length ≤ sizeLine) (hr : Room k callerA)
    (F : ∀ base : Heap, K.In base → base.Ns mainGlobals mg → FnOk P w K mg base CX k fa fd [x] sp) (hbind : ∀ (s : Shared) (u : Value), BindsTo s fd ⟨[u], []⟩ [(x, u)])
    (hsp : ∀ H : Hp, Only H → SqL K H a (ns.map V.int) → sp [.ref a] H (fun v _ => v = .bl true) fun _ _ _ => False)
    (hCX : ∀ H e s', CX [] H s₁ (fun _ _ _ => False) e s' → False) :
    codeAny (model P w) callerA (.call (.ref fa) ⟨[.ref a], []⟩) (fun r s' => r = .ok (.ret (.bool true)) ∧ OldK s₁.heap s'.heap ∧ s'.os = s₁.os ∧ AllBare s'.gens) s₁ := by
  have rv := vals_ints hi
  have lenV := hi.length
  -- from an abstract heap in which nothing but the script may be tracked
  have core : ∀ H : Hp, Only H → SqL K H a (ns.map V.int) → HOk P w H s₁.heap → (∀ b, H b ≠ none → b = a) → (H a ≠ none → K.lookup a = none) →
      codeAny (model P w) callerA (.call (.ref fa) ⟨[.ref a], []⟩) (fun r s' => r = .ok (.ret (.bool true)) ∧ OldK s₁.heap s'.heap ∧ s'.os = s₁.os ∧ AllBare s'.gens) s₁ := by
    intro H hO hS hok hA hK
    have base_of : ∀ {b : Addr} {o : Obj}, s₁.heap.get? b = some o → H b = none → (hidT s₁.heap H).get? b = some o := fun e n => hidT_get e n
    have noA : ∀ {b : Addr} {o : Obj} {es : Array DictEntry} {ep : Nat}, s₁.heap.get? b = some o → o.data = .dict es ep → H b = none := fun {b o es ep} e d => by
      cases q : H b with
      | none => rfl
      | some u =>
        have e' : b = a := hA b (by rw [q]; simp)
        subst e'
        rw [ha] at e; cases e
        have d' : Data.seq vs.toArray _ = Data.dict es ep := d
        cases d'
    have nsK : ∀ {b : Addr} {m : Str → Option Value}, s₁.heap.Ns b m → (hidT s₁.heap H).Ns b m := fun {b m} ⟨o, es, ep, e, d, r⟩ => ⟨o, es, ep, base_of e (noA e d), d, r⟩
    have hKb : K.In (hidT s₁.heap H) := fun b o e => base_of (KX b o e) (by
      cases q : H b with
      | none => rfl
      | some u =>
        have e' : b = a := hA b (by rw [q]; simp)
        subst e'
        rw [hK (by rw [q]; simp)] at e; cases e)
    have hM : Mod K mg (hidT s₁.heap H) := ⟨hKb, nsK hns, ⟨mb, nsK hb, hbb⟩, let ⟨mc, h1, h2⟩ := hlim; ⟨mc, nsK h1, h2⟩⟩
    have e0 : Env0 P w K mg (hidT s₁.heap H) callerA [] s₁ H := ⟨rfl, hM, fun b o e => of_hidT e, Nat.le_of_eq (hidT_size _ _), trivial, fun b hb => absurd (show b ∈ ([] : List Addr) from hb) (by simp), hok, .of_eq hg⟩
    refine codeAny_mono ((F _ hKb (nsK hns)).run callerA [] s₁ H ⟨[.ref a], []⟩ [.ref a] [.ref a] _ _ hr e0 (hbind s₁ (.ref a)) (.cons rfl .nil) (hsp H hO hS)) fun r s' h => ?_
    cases r with
    | error e => exact (hCX H e s' h).elim
    | ok fl =>
      cases fl with
      | next => exact False.elim h
      | brk => exact False.elim h
      | cont => exact False.elim h
      | ret u =>
        obtain ⟨v, H', os, bare, un, hok', r', q⟩ := h
        have q' : v = .bl true := q
        subst q'
        obtain rfl : u = Value.bool true := r'
        refine ⟨rfl, OldK.of_keep fun b o e => ?_, os, bare⟩
        cases q : H b with
        | none => exact un.keep b o e q (by intro z; exact absurd (show b ∈ ([] : List Addr) from z) (by simp)) (by simp)
        | some u =>
          rcases hO b with z | ⟨ob, xs, z⟩
          · rw [q] at z; cases z
          · have z2 := un.frzs b ob _ z
            obtain ⟨e1, _⟩ := hok b _ z
            obtain ⟨e2, _⟩ := hok' b _ z2
            rw [e] at e1; cases e1
            exact e2
  cases hk : K.lookup a with
  | some o =>
    -- the script is one of the module's own objects
    have e := KX a o hk
    rw [ha] at e
    cases e
    refine core (fun _ => none) (fun _ => .inl rfl) (.inr ⟨_, vs.toArray, _, hk, rfl, rfl, rfl, by rw [List.size_toArray, lenV]; exact hl, by simpa using rv⟩) (fun b u z => by have z' : (none : Option HO) = some u := z; cases z') (fun b z => absurd rfl z) fun z => absurd rfl z
  | none =>
    refine core (fun b => if b = a then some (.frz { cls := .type "list", data := .seq vs.toArray } (.lst (ns.map V.int))) else none) (fun b => ?_) (.inl (.inr ⟨{ cls := .type "list", data := .seq vs.toArray }, if_pos rfl⟩)) (fun b u z => ?_) (fun b z => ?_) fun _ => hk
    · by_cases hb : b = a
      · exact .inr ⟨_, _, if_pos hb⟩
      · exact .inl (if_neg hb)
    · by_cases hb : b = a
      · have z' := (if_pos hb).symm.trans z
        cases z'
        subst hb
        exact ⟨ha, by rw [List.length_map]; exact hl, vs, _, rv, ha⟩
      · have z' := (if_neg hb).symm.trans z
        cases z'
    · by_cases hb : b = a
      · exact hb
      · exact absurd (if_neg hb) z
end L2
namespace L2
open PySem PySem.Spec PyProof.Rows
noncomputable abbrev KOf {K : PySem.W.Frag} {h : Heap} (_ : K.In h) : PySem.W.Frag := K
theorem walk_of {l : PySem.W.OpenLaw} {n k : Nat} {q : Program} {loose : List Str} {XP : (Str → Option Value) → Heap → Prop} {YP : World → Heap → Prop} {d : DefRec} {K : Params → PySem.W.Frag} {CX : World → CXT} {sp : World → Sp} {x : Str}
    (hn : l.most = some n) (hn2 : n ≤ sizeLine) (hdf : d.params.defaults = []) (hr : Room k callerA)
    (hY : ∀ (w : World) (h : Heap), YP w h → (K w.params).In h)
    (F : ∀ (w : World) (mg : Str → Option Value) (fa : Addr) (h : Heap), (K w.params).In h → h.Ns mainGlobals mg → mg d.name = some (.ref fa) →
      ∃ fd : FuncData, (∀ (s : Shared) (u : Value), BindsTo s fd ⟨[u], []⟩ [(x, u)]) ∧
        ∀ base : Heap, (K w.params).In base → base.Ns mainGlobals mg → FnOk l.prog w (K w.params) mg base (CX w) k fa fd [x] (sp w))
    (hsp : ∀ (w : World) (H : Hp) (a : Addr) (ns : List Int), ns.length ≤ n → Only H → SqL (K w.params) H a (ns.map V.int) → sp w [.ref a] H (fun v _ => v = .bl true) fun _ _ _ => False)
    (hCX : ∀ (w : World) (H : Hp) (s : Shared) (e : Value) (s' : Shared), CX w [] H s (fun _ _ _ => False) e s' → False) :
    PySem.W.WalkO q loose XP YP l.row.toRowW d [] (fun f vs => PySem.call f vs) := by
  refine Att.attach_call hn hdf fun w s₀ s₁ mg mb fa o pm cd doc a vs ns G Y ho hd hcd hmg hobj hints hlen hg => ?_
  have KX := hY w _ Y
  obtain ⟨fd, hb, hF⟩ := F w mg fa _ KX G.T.g hmg
  exact law_call KX G.T.g G.T.b G.T.builtins G.T.nolimit hg hobj hints (Nat.le_trans hlen hn2) hr hF hb (fun H hO hS => hsp w H a ns hlen hO hS) fun H e s' => hCX w H s₁ e s'
end L2
/- THE LAST THEOREM (shape; LID, My.* are yours):
   My.Adr: a structure of the addresses that your layer names (classes, functions); My.Txt K t: a structure (Prop) of the equations over K;
   My.txt_mk : {K} {implicit addresses ..} (e1 : nsIn K mainGlobals "law" = some (some (.ref f))) (e2 : K.lookup f = some ⟨oc, od, .func (fnOf "law" "law" params body scope dV kV doc pm an cdv ct), sl⟩) (e3 : codeIn K cdv "law" = true) .. : ∃ t, My.Txt K t
set_option maxRecDepth 100000 in
set_option maxHeartbeats 0 in
theorem PySem.Challenge.cw_LID_holds : PySem.Challenge.rw_LID.Holds := by
  w_on; o_law; k_head; (case hw => w_witness2)
  k_fill
  refine L2.walk_of (l := PySem.Challenge.rw_LID) (n := 63) (k := 40) (x := "script") (CX := fun w => ..) (sp := fun _ => My.sp_law) rfl (by decide) rfl ⟨rfl, by decide, by decide⟩ (fun w h Y => PySem.W.kIn_of Y) ?F ?S ?C
  case F =>
    intro w mg fa h KX G hmg
    have T : ∃ t, My.Txt (L2.KOf KX) t := by
      dsimp only [L2.KOf]                          -- K must stand as «<heap const> w.params» for k_is
      refine' My.txt_mk ?e1 ?e2 ?e3 ..
      (case e1 => PySem.W.k_is)                    -- in the order: a name -> its address -> its object -> its parts
      (case e2 => PySem.W.k_is)
      ..
    obtain ⟨t, T⟩ := T
    have e0 := hmg.symm.trans (PySem.W.mg_of KX G T.law)
    cases e0                                       -- fa is the law's own address
    exact ⟨_, fun s u => .of_eq rfl, fun base kb nb => My.law_fn T kb nb⟩     -- if «.of_eq rfl» comes too early: refine' ⟨_, ?b, fun base kb nb => My.law_fn T kb nb⟩; exact fun s u => .of_eq rfl
  case S => exact fun w H a ns hl hO hS => ..
  case C => exact ..
(the tactic k_is has no namespace: write k_is) -/
namespace L2
open PySem PySem.Spec PyProof.Rows
noncomputable def defArgs (s : Stmt) : Arguments := match s with
  | .FunctionDef _ a _ _ _ _ _ _ _ _ => a
  | _ => { posonlyargs := [], args := [], vararg := none, kwonlyargs := [], kw_defaults := [], kwarg := none, defaults := [] }
noncomputable def defBody (s : Stmt) : List Stmt := match s with
  | .FunctionDef _ _ b _ _ _ _ _ _ _ => b
  | _ => []
noncomputable def defScope (s : Stmt) : Scope := match s with
  | .FunctionDef _ _ _ _ _ _ sc _ _ _ => sc
  | _ => { kind := .function, names := [], isGenerator := false, isCoroutine := false }
noncomputable abbrev CX0 : CXT := fun _ _ _ _ _ _ => False
noncomputable abbrev E0 : XK := fun _ _ _ => False
theorem pass0 {X : Cx} : Passes CX0 X E0 := fun _ _ _ _ _ _ _ h => h.elim
structure Fun (K : PySem.W.Frag) (x qual : Str) (st : Stmt) (f : Addr) (fd : FuncData) : Prop where
  ex : ∃ (oc : Value) (od : Option Addr) (kV doc pm : Value) (an : Option Addr) (cdv ct : Value) (osl : Array (Option Value)),
    fd = PySem.W.fnOf x qual (defArgs st) (defBody st) (defScope st) .none kV doc pm an cdv ct ∧ K.lookup f = some ⟨oc, od, .func fd, osl⟩ ∧ PySem.W.codeIn K cdv qual = true
  kp : PySem.W.keepIn K (.ref f) = true
section
variable {P : Program} {w : World} {K : PySem.W.Frag} {mg : Str → Option Value} {base : Heap}
theorem Fun.ok {x qual : Str} {st : Stmt} {f : Addr} {fd : FuncData} {N ps : List Str} {k : Nat} {sp : Sp} (F : Fun K x qual st f fd) (S : FnScope N ps (defScope st)) (len : ∀ vs H Q E, sp vs H Q E → vs.length = ps.length)
    (hbody : ∀ (cdv : Value) (A : Around) (outer : List Env) (s : Shared) (H : Hp) (vs : List V) (Q : VK) (E : XK), Room k (A.deeper (envOfC qual (defScope st) s.heap.objs.size f cdv)) → sp vs H Q E →
      ∃ t, PSs (cxOf CX0 P w K mg base N qual (defScope st) f cdv A outer s H E).nox (defBody st) t ∧ t { nx := fun _ H' => Q .non H', rt := Q } (start N vs) H) : FnOk P w K mg base CX0 (k + 1) f fd ps sp := by
  obtain ⟨oc, od, kV, doc, pm, an, cdv, ct, osl, rfl, lk, hcd⟩ := F.ex
  refine fn_of lk hcd S len fun A outer s H vs Q E hr hsp => ?_
  obtain ⟨t, h, q⟩ := hbody cdv A outer s H vs Q E hr hsp
  exact ⟨t, h.nox, q⟩
theorem Fun.binds {x qual : Str} {st : Stmt} {f : Addr} {fd : FuncData} {ps : List Str} (F : Fun K x qual st f fd)
    (h : ∀ (kV doc pm : Value) (an : Option Addr) (cdv ct : Value) (us : List Value), us.length = ps.length → bindArgs (PySem.W.fnOf x qual (defArgs st) (defBody st) (defScope st) .none kV doc pm an cdv ct) ⟨us, []⟩ = pure (ps.zip us)) : Binds K fd ps [] := by
  obtain ⟨oc, od, kV, doc, pm, an, cdv, ct, osl, rfl, lk, hcd⟩ := F.ex
  exact .all (h kV doc pm an cdv ct)
theorem fun_mk {x qual : Str} {st : Stmt} {f : Addr} {oc : Value} {od an : Option Addr} {osl : Array (Option Value)} {kV doc pm cdv ct : Value} (l : K.lookup f = some ⟨oc, od, .func (PySem.W.fnOf x qual (defArgs st) (defBody st) (defScope st) .none kV doc pm an cdv ct), osl⟩)
    (c : PySem.W.codeIn K cdv qual = true) (k : PySem.W.keepIn K (.ref f) = true) : Fun K x qual st f (PySem.W.fnOf x qual (defArgs st) (defBody st) (defScope st) .none kV doc pm an cdv ct) := ⟨⟨oc, od, kV, doc, pm, an, cdv, ct, osl, rfl, l, c⟩, k⟩
end
section
variable {X : Cx}
theorem pv (i : Nat) {x : Str} {pos : Pos} (hN : autoParam (X.N[i]? = some x) L2.aRfl._auto_1) (hv : Vis X.env.scope x := by first | exact Or.inl rfl | exact Or.inr (Or.inl rfl) | exact Or.inr (Or.inr rfl)) (hd : autoParam ((x == ("__debug__" : Str)) = false) L2.aDec._auto_1)
    (hcd : autoParam ((x == ("__classdict__" : Str)) = false) L2.aDec._auto_1) : PE X (.Name x pos) (tVar i) := pe_var hN hv hd hcd
end
theorem iteF {A B : Prop} (h : B) : if false = true then A else B := by
  rw [if_neg Bool.false_ne_true]
  exact h
theorem iteT {A B : Prop} (h : A) : if true = true then A else B := by
  rw [if_pos rfl]
  exact h
theorem ite2 {c A B : Prop} [Decidable c] (h1 : c → A) (h2 : ¬ c → B) : if c then A else B := by
  by_cases h : c
  · rw [if_pos h]
    exact h1 h
  · rw [if_neg h]
    exact h2 h
theorem iteNS {c A B : Prop} [Decidable c] (hc : c) (h : B) : if (!decide c) = true then A else B := by
  rw [decide_eq_true hc]
  exact iteF h
noncomputable def Same (H H' : Hp) : Prop := ∀ b o, H b = some o → H' b = some o
theorem Same.refl (H : Hp) : Same H H := fun _ _ h => h
theorem Same.trans {H H1 H2 : Hp} (a : Same H H1) (b : Same H1 H2) : Same H H2 := fun c o h => b c o (a c o h)
theorem Same.seq {K : PySem.W.Frag} {H H' : Hp} {a : Addr} {xs : List V} (e : Same H H') (h : SqL K H a xs) : SqL K H' a xs := by
  rcases h with (h | ⟨o, h⟩) | h
  · exact .inl (.inl (e _ _ h))
  · exact .inl (.inr ⟨o, e _ _ h⟩)
  · exact .inr h
end L2
namespace L2
open PySem PySem.Spec PyProof.Rows
theorem compLoop_any {prog : Program} {w : World} {A : Around} {R : Result → Shared → Prop} {s : Shared} {elt target iter : Expr} {ifs : List Expr} {scope : Scope} {pos : Pos} {it acc : Value} {env : Env} (I : Nat → Shared → Prop)
    (turn : ∀ n s, I n s → wpAny (model prog w) A (pyNext it) (fun r s1 => match r with
      | none => R (.ok .next) s1
      | some v => wpAny (model prog w) A (letOwnedTupleGo target it v) (fun _ s1' => wpAny (model prog w) A (assign target env v) (fun _ s2 =>
          wpAny (model prog w) A (forIn ifs true fun c r => if r = true then do let ok ← isTrue c env (eval c env); pure (ForInStep.yield ok) else pure (ForInStep.yield r)) (fun ok s3 =>
            if ok = true then wpAny (model prog w) A (eval elt env) (fun x s4 =>
              wpAny (model prog w) A (call (.builtin "list.append") [acc, x]) (fun _ s5 => ∃ m, m < n ∧ I m s5) (fun _ _ => False) s4) (fun _ _ => False) s3
            else ∃ m, m < n ∧ I m s3) (fun _ _ => False) s2) (fun _ _ => False) s1') (fun _ _ => False) s1) (fun _ _ => False) s)
    (n : Nat) (h : I n s) :
    codeAny (model prog w) A (.compLoop (.ListComp elt [⟨target, iter, ifs, 0⟩] scope pos) 0 it acc env) R s := by
  refine codeAny_loop rfl I (fun n s hI => ?_) n h
  show wpAny _ A ((compTurn (.ListComp elt [⟨target, iter, ifs, 0⟩] scope pos) 0 it acc env).onRaise (fun x => do noteFrame x env; theTreesLotGoes x)) _ _ s
  refine wpAny_noted ?_
  rw [compTurn_list]
  refine wpAny_bind (wpAny_standAt (wpAny_bind (wpAny_mono (turn n s hI) (fun r s1 h1 => ?_) fun _ _ h' => h'.elim)))
  cases r with
  | none => exact wpAny_pure h1
  | some v =>
    refine wpAny_bind (wpAny_mono h1 (fun _ s1' h1' => ?_) fun _ _ h' => h'.elim)
    refine wpAny_bind (wpAny_mono h1' (fun _ s2 h2 => wpAny_bind (wpAny_mono h2 (fun ok s3 h3 => ?_) fun _ _ h' => h'.elim)) fun _ _ h' => h'.elim)
    cases ok with
    | false => exact wpAny_pure ⟨rfl, h3⟩
    | true =>
      exact wpAny_bind (wpAny_bind (wpAny_mono h3 (fun x s4 h4 => wpAny_bind (wpAny_mono h4 (fun _ s5 h5 => wpAny_pure (wpAny_pure ⟨rfl, h5⟩)) fun _ _ h' => h'.elim)) fun _ _ h' => h'.elim))
noncomputable def freeOk (sc : Scope) : List (Str × NameKind) → Bool
  | [] => true
  | (n, k) :: r => (k != .free || sc.names.lookup n == some .cell || sc.names.lookup n == some .free) && freeOk sc r
noncomputable def cellsIn (env : Env) : List (Str × NameKind) → List (Str × Addr) → List (Str × Addr)
  | [], cs => cs
  | (n, k) :: r, cs => cellsIn env r (if k = .free then (n, (env.cells.lookup n).getD 0) :: cs else cs)
theorem cellsIn_sub {env : Env} : ∀ (l : List (Str × NameKind)) (cs : List (Str × Addr)), (∀ n, (n, NameKind.free) ∈ l → ∃ c, env.cells.lookup n = some c) → (∀ x c, cs.lookup x = some c → env.cells.lookup x = some c) →
    ∀ x c, (cellsIn env l cs).lookup x = some c → env.cells.lookup x = some c
  | [], cs, _, h => h
  | (n, k) :: r, cs, hl, h => by
    refine cellsIn_sub r _ (fun m hm => hl m (List.mem_cons_of_mem _ hm)) fun x c e => ?_
    by_cases hk : k = .free
    · rw [if_pos hk] at e
      subst hk
      obtain ⟨c', hc⟩ := hl n List.mem_cons_self
      rw [List.lookup_cons] at e
      cases hx : x == n with
      | true =>
        rw [hx] at e
        have : x = n := by simpa using hx
        subst this
        rw [hc] at e
        simp at e
        rw [hc, e]
      | false => rw [hx] at e; exact h x c e
    · rw [if_neg hk] at e
      exact h x c e
theorem cellsIn_has {env : Env} : ∀ (l : List (Str × NameKind)) (cs : List (Str × Addr)) (x : Str), ((cs.lookup x).isSome = true ∨ (x, NameKind.free) ∈ l) → ((cellsIn env l cs).lookup x).isSome = true
  | [], cs, x, h => by
    rcases h with h | h
    · exact h
    · exact nomatch h
  | (n, k) :: r, cs, x, h => by
    refine cellsIn_has r _ x ?_
    rcases h with h | h
    · left
      split
      · rw [List.lookup_cons]
        split
        · rfl
        · exact h
      · exact h
    · rcases List.mem_cons.mp h with e | e
      · cases e
        left
        rw [if_pos rfl, List.lookup_cons]
        simp
      · exact .inr e
theorem closureFor_cells {scope : Scope} {env : Env} (h : ∀ n, (n, NameKind.free) ∈ scope.names → ∃ c, env.cells.lookup n = some c) : closureFor scope env = pure (cellsIn env scope.names []) := by
  unfold closureFor
  suffices ∀ (l : List (Str × NameKind)) (cs : List (Str × Addr)), (∀ n, (n, NameKind.free) ∈ l → ∃ c, env.cells.lookup n = some c) → (forIn l cs fun x r =>
      if (x.2 == NameKind.free) = true then do let a ← cellOf env x.1; pure (ForInStep.yield ((x.1, a) :: r)) else pure (ForInStep.yield r) : Sem _) = pure (cellsIn env l cs) by
    have := this scope.names [] h
    simp only at this ⊢
    rw [this]
    rfl
  intro l
  induction l with
  | nil => intro cs _; rfl
  | cons p r ih =>
    intro cs hl
    obtain ⟨n, k⟩ := p
    rw [List.forIn_cons]
    by_cases hk : k = .free
    · subst hk
      obtain ⟨c, hc⟩ := hl n List.mem_cons_self
      have e : cellOf env n = pure c := by unfold cellOf; rw [hc]
      have hb : (NameKind.free == NameKind.free) = true := rfl
      simp only [hb, if_true, e, cellsIn, hc, Option.getD_some]
      exact ih _ fun m hm => hl m (List.mem_cons_of_mem _ hm)
    · have hb : (k == NameKind.free) = false := by simpa using hk
      simp only [hb, Bool.false_eq_true, if_false, cellsIn, if_neg hk]
      exact ih _ fun m hm => hl m (List.mem_cons_of_mem _ hm)
theorem freeOk_mem {sc : Scope} : ∀ {l : List (Str × NameKind)}, freeOk sc l = true → ∀ n, (n, NameKind.free) ∈ l → sc.names.lookup n = some .cell ∨ sc.names.lookup n = some .free
  | [], _, n, h => nomatch h
  | (m, k) :: r, h, n, hm => by
    simp only [freeOk, Bool.and_eq_true] at h
    rcases List.mem_cons.mp hm with e | e
    · cases e
      have h1 := h.1
      have hb : (NameKind.free != NameKind.free) = false := rfl
      rw [hb] at h1
      simp only [Bool.false_or, Bool.or_eq_true, beq_iff_eq] at h1
      exact h1
    · exact freeOk_mem h.2 n e
theorem relabel_lookup {env : Env} : ∀ {names : List (Str × NameKind)} {x : Str} {k : NameKind}, (names.map fun (n, k) => if (k == NameKind.free && env.scope.kind == .function && env.kindOf n == some .cell) then (n, NameKind.cell) else (n, k)).lookup x = some k →
    ∃ k0, names.lookup x = some k0 ∧ (k = k0 ∨ (k = .cell ∧ k0 = .free))
  | [], _, _, h => by simp at h
  | (n, k0) :: r, x, k, h => by
    rw [List.map_cons] at h
    by_cases hc : (k0 == NameKind.free && env.scope.kind == .function && env.kindOf n == some .cell) = true
    · simp only [hc, if_true, List.lookup_cons] at h
      rw [List.lookup_cons]
      cases hx : x == n with
      | true =>
        rw [hx] at h
        refine ⟨k0, rfl, .inr ⟨(Option.some.inj h).symm, ?_⟩⟩
        simp only [Bool.and_eq_true, beq_iff_eq] at hc
        exact hc.1.1
      | false => rw [hx] at h; exact relabel_lookup h
    · simp only [hc, Bool.false_eq_true, if_false, List.lookup_cons] at h
      rw [List.lookup_cons]
      cases hx : x == n with
      | true => rw [hx] at h; exact ⟨k0, rfl, .inl (Option.some.inj h).symm⟩
      | false => rw [hx] at h; exact relabel_lookup h
theorem lookup_mem {α : Type} : ∀ {l : List (Str × α)} {x : Str} {k : α}, l.lookup x = some k → (x, k) ∈ l
  | [], _, _, h => by simp at h
  | (n, k0) :: r, x, k, h => by
    rw [List.lookup_cons] at h
    cases hx : x == n with
    | true =>
      rw [hx] at h
      have e1 : x = n := by simpa using hx
      have e2 : k0 = k := Option.some.inj h
      subst e1 e2
      exact List.mem_cons_self
    | false => rw [hx] at h; exact List.mem_cons_of_mem _ (lookup_mem h)
noncomputable def capSt (cp : List (Option Nat)) (σ : St) : St := cp.map fun (o : Option Nat) => match o with
  | none => none
  | some j => match σ[(j : Nat)]? with
    | some v => v
    | none => none
noncomputable def capOk (X : Cx) (scope : Scope) : List Str → List (Option Nat) → Bool
  | [], [] => true
  | x :: N, o :: cp => (match o with | none => true | some j => X.N[j]? == some x && scope.names.lookup x == some .free) && capOk X scope N cp
  | _, _ => false
theorem capOk_len {X : Cx} {scope : Scope} : ∀ {N : List Str} {cp : List (Option Nat)}, capOk X scope N cp = true → cp.length = N.length
  | [], [], _ => rfl
  | _ :: N, _ :: cp, h => by
    simp only [capOk, Bool.and_eq_true] at h
    simp [capOk_len h.2]
  | [], _ :: _, h => by simp [capOk] at h
  | _ :: _, [], h => by simp [capOk] at h
theorem capOk_get {X : Cx} {scope : Scope} : ∀ {N : List Str} {cp : List (Option Nat)} {i : Nat} {x : Str} {v : V} {σ : St}, capOk X scope N cp = true → N[i]? = some x → (capSt cp σ)[i]? = some (some v) →
    ∃ j : Nat, X.N[j]? = some x ∧ σ[j]? = some (some v) ∧ scope.names.lookup x = some .free
  | [], [], i, x, v, σ, _, h, _ => by simp at h
  | y :: N, o :: cp, 0, x, v, σ, h, e, e2 => by
    simp only [capOk, Bool.and_eq_true] at h
    have e' : y = x := by simpa using e
    subst e'
    cases o with
    | none => simp [capSt] at e2
    | some j =>
      have h1 := h.1
      simp only [Bool.and_eq_true, beq_iff_eq] at h1
      refine ⟨j, h1.1, ?_, h1.2⟩
      simp only [capSt, List.map_cons, List.getElem?_cons_zero, Option.some.injEq] at e2
      cases q : σ[j]? with
      | none => rw [q] at e2; cases e2
      | some z => rw [q] at e2; exact congrArg some e2
  | y :: N, o :: cp, i + 1, x, v, σ, h, e, e2 => by
    simp only [capOk, Bool.and_eq_true] at h
    exact capOk_get (i := i) h.2 (by simpa using e) (by simpa [capSt] using e2)
  | [], _ :: _, _, _, _, _, h, _, _ => by simp [capOk] at h
  | _ :: _, [], _, _, _, _, h, _, _ => by simp [capOk] at h
noncomputable def cxBlock (X : Cx) (N : List Str) (scope : Scope) (fp : List Addr) (H : Hp) (s : Shared) : Cx :=
  { X with N := N, s₀ := s, H₀ := H, env := compEnvC scope (cellsIn X.env scope.names []) s.heap.objs.size X.env, outer := X.stack, stack := X.stack, ex := fp, fn := fun _ => false, pn := [], xe := fun _ _ => False }
section
variable {X : Cx}
theorem noCell_mem {l : List (Str × NameKind)} (h : (l.all fun p => p.2 != .cell) = true) : ∀ y ∈ l, y.2 ≠ .cell := fun y hy => by
  have := List.all_eq_true.mp h y hy
  simpa using this
theorem cxBlock_ok {pins : List (Addr × Obj)} {σ : St} {H : Hp} {s : Shared} {N : List Str} {scope : Scope} {fp : List Addr} (I : Inv X pins σ H s) (hf : ∀ b ∈ fp, FpOk X pins H b) (hlt : ∀ b ∈ fp, b < s.heap.objs.size) (hk : scope.kind = .function)
    (hcell : (scope.names.all fun p => p.2 != .cell) = true) (hfree : freeOk X.env.scope scope.names = true) : (cxBlock X N scope fp H s).Ok := by
  have has : ∀ n, (n, NameKind.free) ∈ scope.names → ∃ c, X.env.cells.lookup n = some c := fun n hn => I.ok.has n (freeOk_mem hfree n hn)
  have sub : ∀ x c, (cellsIn X.env scope.names []).lookup x = some c → X.env.cells.lookup x = some c := cellsIn_sub _ _ has fun x c e => by simp at e
  have fs : ∀ b ∈ fp, b ∉ frs X.stack := fun b hb z => by
    obtain ⟨_, f1, f2, _⟩ := hf b hb
    rcases List.mem_cons.mp (I.stkSub b z) with e | e
    · exact f1 e
    · exact f2 e
  refine ⟨I.ok.mod, hk, I.ok.glob, I.ok.blt, Nat.le_refl _, fun x y c h1 h2 => I.ok.inj x y c (sub x c h1) (sub y c h2), fun x hx => ?_, (fun x c h => nomatch h), I.ok.hd, I.ok.frames, .inl rfl, fun b hb => ⟨Nat.ne_of_lt (hlt b hb), fun x c e => (hf b hb).2.2.2.2.1 x c (sub x c e)⟩,
    I.bs, Nat.le_trans I.ok.bsz I.sz, fun b o e hb => ?_, fs, I.stack, I.stkFree⟩
  · have hx' : (scope.names.map fun (n, k) => if (k == NameKind.free && X.env.scope.kind == .function && X.env.kindOf n == some .cell) then (n, NameKind.cell) else (n, k)).lookup x = some .cell ∨
        (scope.names.map fun (n, k) => if (k == NameKind.free && X.env.scope.kind == .function && X.env.kindOf n == some .cell) then (n, NameKind.cell) else (n, k)).lookup x = some .free := hx
    have fr : (x, NameKind.free) ∈ scope.names := by
      rcases hx' with e | e
      · obtain ⟨k0, e0, z | z⟩ := relabel_lookup e
        · subst z
          exact absurd rfl (noCell_mem hcell _ (lookup_mem e0))
        · obtain ⟨_, z⟩ := z
          subst z
          exact lookup_mem e0
      · obtain ⟨k0, e0, z | z⟩ := relabel_lookup e
        · subst z
          exact lookup_mem e0
        · exact nomatch z.1
    exact Option.isSome_iff_exists.mp (cellsIn_has _ _ x (.inr fr))
  · obtain ⟨_, _, _, f3, _⟩ := hf b hb
    rcases f3 with z | z
    · exact I.ok.noex b o e z
    · exact absurd (Nat.lt_of_lt_of_le (Heap.lt_size (I.ok.bs b o e).1) z) (Nat.lt_irrefl _)
theorem block_inv {pins : List (Addr × Obj)} {σ : St} {H : Hp} {s : Shared} {N : List Str} {scope : Scope} {fp : List Addr} {cp : List (Option Nat)} {h' : Heap} {m : Str → Option Value} {t' : Nat} (I : Inv X pins σ H s) (hf : ∀ b ∈ fp, FpOk X pins H b) (hlt : ∀ b ∈ fp, b < s.heap.objs.size) (hk : scope.kind = .function)
    (hcell : (scope.names.all fun p => p.2 != .cell) = true) (hfree : freeOk X.env.scope scope.names = true) (hcap : capOk X scope N cp = true)
    (hns : h'.Ns s.heap.objs.size m) (hx : ∀ b o, s.heap.get? b = some o → h'.get? b = some o) : Inv (cxBlock X N scope fp H s) [] (capSt cp σ) H { s with heap := h', toks := t' } := by
  have has : ∀ n, (n, NameKind.free) ∈ scope.names → ∃ c, X.env.cells.lookup n = some c := fun n hn => I.ok.has n (freeOk_mem hfree n hn)
  have sub : ∀ x c, (cellsIn X.env scope.names []).lookup x = some c → X.env.cells.lookup x = some c := cellsIn_sub _ _ has fun x c e => by simp at e
  refine ⟨cxBlock_ok I hf hlt hk hcell hfree, rfl, I.bare, ⟨fun b o e n _ _ => hx b o e, fun b o e n _ _ => ⟨o.slots, hx b o e⟩, fun b o e n _ => n, fun b o e _ => ⟨o, hx b o e⟩, fun b xs e => e, fun b o xs e => e, fun b ps e => ⟨#[], by rw [Array.append_empty]; exact e⟩⟩, ⟨m, hns, fun i x v e1 e2 e3 => ?_⟩, fun x c e => ?_, I.hok.fresh (Nat.le_refl _), fun x c e => I.freeC x c (sub x c e), (fun p hp => nomatch hp), I.hok.kept hx, ?_⟩
  · obtain ⟨j, h1, h2, h3⟩ := capOk_get hcap e1 e2
    obtain ⟨m', _, hl⟩ := I.loc
    have hkx := freeOk_mem hfree x (lookup_mem h3)
    obtain ⟨u, r, l⟩ := hl j x v h1 h2 (.inr hkx)
    rcases l with ⟨l, _⟩ | ⟨_, c, hc, hcell'⟩
    · rcases hkx with z | z
      · exact nomatch (Option.some.inj (l.symm.trans z))
      · exact nomatch (Option.some.inj (l.symm.trans z))
    · obtain ⟨c', hc'⟩ := Option.isSome_iff_exists.mp (cellsIn_has (env := X.env) scope.names [] x (.inr (lookup_mem h3)))
      have ec := sub x c' hc'
      rw [hc] at ec
      cases ec
      refine ⟨u, r, .inr ⟨?_, c, hc', ?_⟩⟩
      · rcases e3 with z | z | z
        · obtain ⟨k0, e0, y | y⟩ := relabel_lookup (show (scope.names.map fun (n, k) => if (k == NameKind.free && X.env.scope.kind == .function && X.env.kindOf n == some .cell) then (n, NameKind.cell) else (n, k)).lookup x = some .local from z)
          · rw [h3] at e0; cases e0; cases y
          · exact nomatch y.1
        · exact .inl z
        · exact .inr z
      · obtain ⟨o, ho, hd⟩ := hcell'
        exact ⟨o, hx c o ho, hd⟩
  · obtain ⟨v, o, ho, hd⟩ := I.cell x c (sub x c e)
    exact ⟨v, o, hx c o ho, hd⟩
  · show (capSt cp σ).length = N.length
    unfold capSt
    rw [List.length_map]
    exact capOk_len hcap
theorem block_after {pins : List (Addr × Obj)} {σ σ' : St} {H H' : Hp} {s s' : Shared} {N : List Str} {scope : Scope} {fp : List Addr} {pins' : List (Addr × Obj)} (I : Inv X pins σ H s) (hf : ∀ b ∈ fp, FpOk X pins H b)
    (J : Inv (cxBlock X N scope fp H s) pins' σ' H' s') : Inv X pins σ H' s' :=
  I.call' (ch := fp) J.os J.base J.hok J.bare fun b hb => ⟨(hf b hb).2.2.2.1, (hf b hb).2.1, (hf b hb).2.2.2.2.1, (hf b hb).2.2.2.2.2⟩
noncomputable def PF (X : Cx) (ifs : List Expr) (t : TT) : Prop :=
  ∀ (pins : List (Addr × Obj)) (s : Shared) (σ : St) (H : Hp) (Q : Bool → Hp → Prop), Inv X pins σ H s → t σ H Q →
    wpAny (model X.prog X.w) X.A (forIn ifs true fun c r => if r = true then do let ok ← isTrue c X.env (eval c X.env); pure (ForInStep.yield ok) else pure (ForInStep.yield r)) (TP X pins σ Q) X.xe s
noncomputable def tYes : TT := fun _ H Q => Q true H
theorem pf_nil : PF X [] tYes := fun _ _ _ H _ I h => wpAny_tests_nil ⟨H, I, h⟩
theorem pf_one {c : Expr} {t : TT} (hc : PT X c t) : PF X [c] t := fun pins s σ H Q I h => wpAny_tests_one (hc pins s σ H Q I h)
noncomputable def LcW (J : It) (D : Addr) (τ0 : St) (H : Hp) (g : TG) (tt : TT) (te : TE) (Q : Addr → Hp → Prop) : Prop := ∃ W : Nat → Nat → St → List V → Hp → Prop, (∃ m, W 0 m τ0 [] (upd H D (.lst []))) ∧ ∀ i m τ ys H, W i m τ ys H →
  H D = some (.lst ys) ∧ ((J.stop i H ∧ Q D H) ∨ (J.go i H ∧ ys.length < sizeLine ∧ ∃ (N1 : St → V → Hp → Prop) (N2 : St → Hp → Prop), (∀ τ v H, N1 τ v H → ∃ m', m' < m ∧ W (i + 1) m' τ (ys ++ [v]) (upd H D (.lst (ys ++ [v])))) ∧ (∀ τ H, N2 τ H → ∃ m', m' < m ∧ W (i + 1) m' τ ys H) ∧
    ∀ x H', J.yld i H x H' → g x τ H' fun σ2 H2 => tt σ2 H2 fun ok H3 => if ok = true then te σ2 H3 fun v H4 => H4 D = some (.lst ys) ∧ N1 σ2 v H4 else N2 σ2 H3))
noncomputable def tLC (cp : List (Option Nat)) (wi : TI) (g : TG) (tt : TT) (te : TE) (σ : St) (H : Hp) (Q : Addr → Hp → Prop) : Prop := wi σ H fun J H1 => ∀ D, H1 D = none → LcW J D (capSt cp σ) H1 g tt te Q
theorem lc_block {elt iter target : Expr} {ifs : List Expr} {scope : Scope} {pos : Pos} {N : List Str} {cp : List (Option Nat)} {g : TG} {tt : TT} {te : TE} {pins : List (Addr × Obj)} {σ : St} {H : Hp} {s : Shared} {E : Value → Shared → Prop} {Q : Addr → Hp → Prop}
    {it : Addr} {fp : List Addr} {tn : Nat → Heap → Prop} {J : It} {RR : Value → Addr → Result → Shared → Prop} (hc : X.calm = true) (hk : scope.kind = .function) (hcell : (scope.names.all fun p => p.2 != .cell) = true) (hfree : freeOk X.env.scope scope.names = true) (hcap : capOk X scope N cp = true)
    (hg : ∀ fp H s, PG (cxBlock X N scope fp H s) target g) (ht : ∀ fp H s, PF (cxBlock X N scope fp H s) ifs tt) (he : ∀ fp H s, PE (cxBlock X N scope fp H s) elt te)
    (I : Inv X pins σ H s) (T : Turn X.prog X.w X.K target J fp it tn) (st : tn 0 s.heap) (hf : ∀ b ∈ fp, FpOk X pins H b)
    (h : ∀ D, H D = none → LcW J D (capSt cp σ) H g tt te Q)
    (hRR : ∀ D C s' H' m, Inv X pins σ H' s' → FpOk X pins H' C → s'.heap.Ns C m → Q D H' → RR (.ref D) C (.ok .next) s') :
    wpAny (model X.prog X.w) X.A (newList []) (fun acc s3 => wpAny (model X.prog X.w) X.A (newFunctionEnv scope X.env.globals (cellsIn X.env scope.names []) [] X.env.qual none .none (some X.env)) (fun cenv s4 =>
      codeAny (model X.prog X.w) X.A (.compStart (.ListComp elt [⟨target, iter, ifs, 0⟩] scope pos) 0 (.ref it) acc { cenv with scope := relabel scope X.env }) (RR acc cenv.locals) s4) E s3) E s := by
  have hlt : ∀ b ∈ fp, b < s.heap.objs.size := fun b hb => by
    obtain ⟨o, e, _⟩ := T.obj _ _ st b hb
    exact Heap.lt_size e
  refine wpAny_newObj_type (wpAny_newFunctionEnv (noCell_mem hcell) (by intro y hy; simp at hy) (fun h1 hns1 hsb1 => ?_) hk)
  dsimp only at hns1 hsb1 ⊢
  have hD : H s.heap.objs.size = none := I.hok.fresh (Nat.le_refl _)
  have I3 : Inv X pins σ (upd H s.heap.objs.size (.lst [])) { s with heap := s.heap.push { cls := .type "list", dict := none, data := .seq ([] : List Value).toArray } } :=
    I.laid (t' := s.toks) (fun b u e => Heap.get?_push_of_some _ e) (Nat.le_refl _) ⟨Nat.zero_le _, [], 0, .nil, Heap.get?_push_size _ rfl⟩
  have hf3 : ∀ b ∈ fp, FpOk X pins (upd H s.heap.objs.size (.lst [])) b := fun b hb => ⟨by rw [upd_ne (Nat.ne_of_lt (hlt b hb))]; exact (hf b hb).1, (hf b hb).2⟩
  have hlt3 : ∀ b ∈ fp, b < (s.heap.push { cls := .type "list", dict := none, data := .seq ([] : List Value).toArray }).objs.size := fun b hb => by rw [Heap.size_push]; exact Nat.lt_succ_of_lt (hlt b hb)
  generalize hH2 : s.heap.push { cls := .type "list", dict := none, data := .seq ([] : List Value).toArray } = H2 at hns1 hsb1 I3 hlt3 ⊢
  generalize hs3 : ({ s with heap := H2 } : Shared) = s3 at I3
  have hs3h : s3.heap = H2 := by rw [← hs3]
  have ext1 : ∀ b o, s3.heap.get? b = some o → h1.get? b = some o := fun b o e => by
    rw [hs3h] at e
    exact hsb1.extBut b o (Nat.ne_of_lt (Heap.lt_size e)) (Heap.get?_push_of_some _ e)
  have J0 : Inv (cxBlock X N scope fp (upd H s.heap.objs.size (.lst [])) s3) [] (capSt cp σ) (upd H s.heap.objs.size (.lst [])) { s3 with heap := h1, toks := s.toks + ([] : List (Str × Value)).length } :=
    block_inv I3 hf3 (by rw [hs3h]; exact hlt3) hk hcell hfree hcap (by rw [hs3h]; exact hns1) ext1
  have st1 : tn 0 h1 := T.keep _ _ _ st fun b hb o e => ext1 b o (by rw [hs3h, ← hH2]; exact Heap.get?_push_of_some _ e)
  obtain ⟨W, ⟨m0, w0⟩, turn⟩ := h s.heap.objs.size hD
  have stat : ∀ {H' : Hp}, (∀ b ∈ fp, H' b = none) → ∀ b ∈ fp, FpOk (cxBlock X N scope fp (upd H s.heap.objs.size (.lst [])) s3) [] H' b := fun {H'} hn b hb =>
    ⟨hn b hb, (J0.ok.exf b hb).1, J0.ok.exfs b hb, .inl hb, (J0.ok.exf b hb).2, fun p hp => nomatch hp⟩
  have loop : codeAny (model X.prog X.w) X.A (.compLoop (.ListComp elt [⟨target, iter, ifs, 0⟩] scope pos) 0 (.ref it) (.ref s.heap.objs.size) (compEnvC scope (cellsIn X.env scope.names []) H2.objs.size X.env))
      (RR (.ref s.heap.objs.size) H2.objs.size) { s3 with heap := h1, toks := s.toks + ([] : List (Str × Value)).length } := by
    have eEnv : compEnvC scope (cellsIn X.env scope.names []) H2.objs.size X.env = (cxBlock X N scope fp (upd H s.heap.objs.size (.lst [])) s3).env := by
      rw [← hs3h]; rfl
    rw [eEnv]
    refine compLoop_any (fun n s' => ∃ i τ ys H', Inv (cxBlock X N scope fp (upd H s.heap.objs.size (.lst [])) s3) [] τ H' s' ∧ tn i s'.heap ∧ (∀ b ∈ fp, H' b = none) ∧ W i n τ ys H') ?_ m0 ⟨0, capSt cp σ, [], _, J0, st1, fun b hb => (hf3 b hb).1, w0⟩
    rintro n s4 ⟨i, τ, ys, H4, I4, st4, fr4, w4⟩
    obtain ⟨hD4, hh⟩ := turn i n τ ys H4 w4
    rcases hh with ⟨stop, qn⟩ | ⟨go, hlen, N1, N2, hN1, hN2, step⟩
    · refine thn (T.done (cxBlock X N scope fp (upd H s.heap.objs.size (.lst [])) s3) rfl rfl rfl hc i [] s4 τ H4 _ I4 (stat fr4) st4 stop) fun r s5 ⟨hr, I5⟩ => ?_
      subst hr
      obtain ⟨m, hm, _⟩ := I5.loc
      have e5 : H2.objs.size = (cxBlock X N scope fp (upd H s.heap.objs.size (.lst [])) s3).env.locals := by rw [← eEnv]; rfl
      refine hRR _ _ s5 H4 m (block_after I3 hf3 I5) ?_ (by rw [e5]; exact hm) qn
      exact I3.fpOk (by rw [hs3h]; exact Nat.le_refl _) (by rw [e5]; exact I5.free)
    · refine thn (T.item (cxBlock X N scope fp (upd H s.heap.objs.size (.lst [])) s3) rfl rfl rfl hc i [] s4 τ H4 _ I4 (stat fr4) st4 go) fun r s5 ⟨u, hr, h5⟩ => ?_
      subst hr
      refine thn h5 fun _ s6 ⟨x, H6, I6, r6, y6, st6, fr6⟩ => ?_
      have I6' := I6.pinned (stat fr6) (T.obj _ _ st6)
      refine thn (hg fp _ _ _ s6 τ H6 x u _ I6' r6 (step x H6 y6)) fun _ s7 ⟨σ7, H7, I7, q7⟩ => ?_
      refine thn (ht fp _ _ _ s7 σ7 H7 _ I7 q7) fun ok s8 ⟨H8, I8, q8⟩ => ?_
      have back : ∀ {σ' : St} {H' : Hp} {s' : Shared}, Inv (cxBlock X N scope fp (upd H s.heap.objs.size (.lst [])) s3) ([] ++ pinsAt fp s6.heap) σ' H' s' → Inv (cxBlock X N scope fp (upd H s.heap.objs.size (.lst [])) s3) [] σ' H' s' ∧ tn (i + 1) s'.heap ∧ ∀ b ∈ fp, H' b = none := fun {σ' H' s'} I' => by
        refine ⟨I'.unpinned, T.keep _ _ _ st6 fun b hb o e => (I'.pin (b, o) (List.mem_append_right _ (List.mem_append_right _ (mem_pinsAt hb e)))).1, fun b hb => ?_⟩
        obtain ⟨o, e, d⟩ := T.obj _ _ st6 b hb
        exact (I'.pin (b, o) (List.mem_append_right _ (List.mem_append_right _ (mem_pinsAt hb e)))).2.1
      cases ok with
      | false =>
        rw [if_neg Bool.false_ne_true] at q8 ⊢
        obtain ⟨m', hm, w8⟩ := hN2 _ _ q8
        obtain ⟨b1, b2, b3⟩ := back I8
        exact ⟨m', hm, i + 1, σ7, ys, H8, b1, b2, b3, w8⟩
      | true =>
        rw [if_pos rfl] at q8 ⊢
        refine thn (he fp _ _ _ s8 σ7 H8 _ I8 q8) fun y s9 ⟨v, H9, I9, r9, hD9, n9⟩ => ?_
        obtain ⟨m', hm, w9⟩ := hN1 _ _ _ n9
        refine thn (mt_append _ s9 σ7 H9 (.ref s.heap.objs.size) [v] (.ref s.heap.objs.size) [y] (fun _ H' => H' = upd H9 s.heap.objs.size (.lst (ys ++ [v]))) I9 rfl (.cons r9 .nil) ⟨_, ys, v, rfl, rfl, hD9, hlen, rfl⟩) fun _ s10 ⟨_, H10, I10, _, e10⟩ => ?_
        subst e10
        obtain ⟨b1, b2, b3⟩ := back I10
        exact ⟨m', hm, i + 1, σ7, _, _, b1, b2, b3, w9⟩
  have e3 : ({ s with heap := h1, toks := s.toks + ([] : List (Str × Value)).length } : Shared) = { s3 with heap := h1, toks := s.toks + ([] : List (Str × Value)).length } := by rw [← hs3]
  rw [e3]
  exact codeAny_compStart_list loop (T.self _ 0 _ _ _ st1 loop)
theorem pe_lc {elt iter target : Expr} {ifs : List Expr} {scope : Scope} {pos : Pos} (N : List Str) (cp : List (Option Nat)) {wi : TI} {g : TG} {tt : TT} {te : TE} (hc : X.calm = true) (hi : PI X target iter wi)
    (hg : ∀ fp H s, PG (cxBlock X N scope fp H s) target g) (ht : ∀ fp H s, PF (cxBlock X N scope fp H s) ifs tt) (he : ∀ fp H s, PE (cxBlock X N scope fp H s) elt te)
    (hk : autoParam (scope.kind = .function) L2.aRfl._auto_1) (hcell : autoParam ((scope.names.all fun p => p.2 != .cell) = true) L2.aRfl._auto_1) (hfree : autoParam (freeOk X.env.scope scope.names = true) L2.aRfl._auto_1) (hcap : autoParam (capOk X scope N cp = true) L2.aRfl._auto_1)
    (hnames : autoParam ((scope.names.all fun p => p.2 != .local || scope.names.lookup p.1 == some .local) = true) L2.aRfl._auto_1) (hs : autoParam (∀ x, foldedSetIterable iter X.env x = pure x) L2.aIrf._auto_1) :
    PE X (.ListComp elt [⟨target, iter, ifs, 0⟩] scope pos) (fun σ H Q => tLC cp wi g tt te σ H fun D H' => Q (.ref D) H') := by
  intro pins s σ H Q I h
  rw [eval_ListComp]
  have has : ∀ n, (n, NameKind.free) ∈ scope.names → ∃ c, X.env.cells.lookup n = some c := fun n hn => I.ok.has n (freeOk_mem hfree n hn)
  refine wpAny_comprehension_free (use := none) rfl hs (closureFor_cells has) hk (fun x hx hl => ?_) (thn (hi pins s σ H _ I h) fun xv s1 h1 => thn h1 fun itv s2 h2 => ?_)
  · have := List.all_eq_true.mp hnames x hx
    simp only [Bool.or_eq_true, bne_iff_ne, beq_iff_eq] at this
    exact this.resolve_left fun z => z hl
  · obtain ⟨it, fp, tn, J, H2, e, I2, T, st2, f2, hW⟩ := h2
    subst e
    refine lc_block (N := N) (cp := cp) hc hk hcell hfree hcap hg ht he I2 T st2 f2 hW fun D C s' H' m I' fC hm q => ⟨m, hm, fun h' hsb => ?_⟩
    exact ⟨.ref D, H', I'.turned (t' := s'.toks) (fun b o hb e => hsb.extBut b o hb e) fC.1 fC.2.1 fC.2.2.2.1 fC.2.2.2.2.1 fC.2.2.2.2.2, rfl, q⟩
theorem ps_setC {i : Nat} {x : Str} {px : Pos} {elt iter target : Expr} {ifs : List Expr} {scope : Scope} {pos spos : Pos} (N : List Str) (cp : List (Option Nat)) {wi : TI} {g : TG} {tt : TT} {te : TE} (hc : X.calm = true) (hN : X.N.Nodup) (hi' : X.N[i]? = some x) (hx : Loc X.env.scope x) (hi : PI X target iter wi)
    (hg : ∀ fp H s, PG (cxBlock X N scope fp H s) target g) (ht : ∀ fp H s, PF (cxBlock X N scope fp H s) ifs tt) (he : ∀ fp H s, PE (cxBlock X N scope fp H s) elt te)
    (hsw : autoParam (swapsWith (.ListComp elt [⟨target, iter, ifs, 0⟩] scope pos) (some (.Name x px)) spos.line X.env = pure true) L2.aRfl._auto_1)
    (hk : autoParam (scope.kind = .function) L2.aRfl._auto_1) (hcell : autoParam ((scope.names.all fun p => p.2 != .cell) = true) L2.aRfl._auto_1) (hfree : autoParam (freeOk X.env.scope scope.names = true) L2.aRfl._auto_1) (hcap : autoParam (capOk X scope N cp = true) L2.aRfl._auto_1)
    (hnames : autoParam ((scope.names.all fun p => p.2 != .local || scope.names.lookup p.1 == some .local) = true) L2.aRfl._auto_1) (hs : autoParam (∀ x, foldedSetIterable iter X.env x = pure x) L2.aIrf._auto_1)
    (hf : autoParam (X.fn x = true ∨ X.env.scope.names.lookup x = some .local) L2.aFst._auto_1) :
    PS X (.Assign [.Name x px] (.ListComp elt [⟨target, iter, ifs, 0⟩] scope pos) spos) (fun D σ H => tLC cp wi g tt te σ H fun a H' => D.nx (σ.set i (some (.ref a))) H') := by
  intro pins s σ H D I h
  have has : ∀ n, (n, NameKind.free) ∈ scope.names → ∃ c, X.env.cells.lookup n = some c := fun n hn => I.ok.has n (freeOk_mem hfree n hn)
  rw [exec_Assign_Name_used _ _ _ _ hsw]
  refine wpAny_bind (wpAny_standAt (wpAny_bind ?_))
  show wpAny _ _ (do let _ ← comprehension (.ListComp elt [⟨target, iter, ifs, 0⟩] scope pos) scope X.env _ (newList []) false (eval iter X.env) (some (assign (.Name x px) X.env))) _ _ s
  refine wpAny_bind (wpAny_mono (wpAny_comprehension_free (use := some (assign (.Name x px) X.env)) (Q := fun _ s' => SP X pins D .next s') rfl hs (closureFor_cells has) hk (fun x hx hl => ?_)
    (thn (hi pins s σ H _ I h) fun xv s1 h1 => thn h1 fun itv s2 h2 => ?_)) (fun _ s' hq => wpAny_pure (wpAny_pure hq)) fun _ _ e => e)
  · have := List.all_eq_true.mp hnames x hx
    simp only [Bool.or_eq_true, bne_iff_ne, beq_iff_eq] at this
    exact this.resolve_left fun z => z hl
  · obtain ⟨it, fp, tn, J, H2, e, I2, T, st2, f2, hW⟩ := h2
    subst e
    refine lc_block (N := N) (cp := cp) hc hk hcell hfree hcap hg ht he I2 T st2 f2 hW fun D' C s' H' m I' fC hm q => ?_
    show wpAny _ _ (assign (.Name x px) X.env (.ref D')) _ _ _
    refine wpAny_assign_Name (store_ok2 I' hN hi' hx (v := .ref D') rfl (fun s'' I'' hsb => ?_) hf)
    obtain ⟨a, hsb, ha⟩ := hsb
    have hCa : C ≠ a := by
      rcases ha with e | e
      · rw [e]; exact fC.2.1
      · exact fun z => fC.2.2.2.2.1 x a e z.symm
    refine ⟨m, hm.sameBut hsb hCa, fun h' hsb' => ?_⟩
    exact ⟨_, H', I''.turned (t' := s''.toks) (fun b o hb e => hsb'.extBut b o hb e) fC.1 fC.2.1 fC.2.2.2.1 fC.2.2.2.2.1 fC.2.2.2.2.2, q⟩
end
end L2
namespace L2
open PySem PySem.Spec PyProof.Rows
structure Drw (P : Program) (w : World) (it l : Addr) (st : Nat → Heap → Prop) (src : List Value → Heap → Prop) : Prop where
  obj : ∀ i h, st i h → ∃ o, h.get? it = some o ∧ ∀ v, o.data ≠ .cell v
  keep : ∀ i h h', st i h → (∀ o, h.get? it = some o → h'.get? it = some o) → st i h'
  srck : ∀ xs h h', src xs h → (∀ o, h.get? l = some o → h'.get? l = some o) → src xs h'
  item : ∀ (A : Around) (E : Value → Shared → Prop) (s : Shared) (i : Nat) (xs : List Value) (x : Value) (Q : Value → Shared → Prop), st i s.heap → src xs s.heap → xs[i]? = some x →
    (∀ h', st (i + 1) h' → Heap.SameBut it s.heap h' → Q x { s with heap := h' }) → wpAny (model P w) A (Builtin.SmallTypes.nextOf (.ref it)) Q E s
  done : ∀ (A : Around) (E : Value → Shared → Prop) (s : Shared) (i : Nat) (xs : List Value) (Q : Value → Shared → Prop), A.handled = none → st i s.heap → src xs s.heap → xs[i]? = none →
    (∀ h' e, Heap.ExtBut it s.heap h' → (∃ o, h'.get? e = some o ∧ o.cls = .type "StopIteration") → E (.ref e) { s with heap := h' }) → wpAny (model P w) A (Builtin.SmallTypes.nextOf (.ref it)) Q E s
theorem drw_list {P : Program} {w : World} (it l : Addr) : Drw P w it l (fun i h => h.IsListIter it l i) (fun xs h => h.IsList l xs.toArray) where
  obj := fun i h st => by
    obtain ⟨o, e, c, d⟩ := st
    exact ⟨o, e, fun v z => by rw [d] at z; cases z⟩
  keep := fun i h h' st k => st.at k
  srck := fun xs h h' sr k => sr.at k
  item := fun A E s i xs x Q st sr hx hQ => wpAny_nextOf_list_item st sr (by simpa using hx) hQ
  done := fun A E s i xs Q hh st sr hx hE => wpAny_nextOf_list_end hh st sr (by simpa using hx) hE
section
variable {P : Program} {w : World} {A : Around} {E : Value → Shared → Prop} {s : Shared}
theorem nextOf_tup_item {it t : Addr} {i : Nat} {xs : Array Value} {x : Value} {Q : Value → Shared → Prop} (hI : s.heap.IsTupleIter it t i) (hT : s.heap.IsTuple t xs) (hx : xs[i]? = some x)
    (hQ : ∀ h', h'.IsTupleIter it t (i + 1) → Heap.SameBut it s.heap h' → Q x { s with heap := h' }) : wpAny (model P w) A (Builtin.SmallTypes.nextOf (.ref it)) Q E s := by
  obtain ⟨oI, gI, cI, dI⟩ := id hI
  obtain ⟨oT, gT, _, nT, dT⟩ := hT
  unfold Builtin.SmallTypes.nextOf
  refine wpAny_bind (wpAny_callSpecial?_slot (name := Str.ofString "__next__") hI.typeIs F.slot_tuple_iterator_next (wpAny_call_entry F.slot_tuple_iterator_next hI.typeIs F.entry_tuple_iterator_next ?_ (F.args_tuple_iterator_next_1 _)))
  show wpAny _ _ (field (.ref it) 0 >>= _) _ _ s
  refine wpAny_bind (wpAny_field gI dI (x := .ref t) rfl ?_)
  show wpAny _ _ (if (Value.ref t == Value.none) = true then _ else _) _ _ s
  rw [if_neg (show ¬ ((Value.ref t == Value.none) = true) from Bool.false_ne_true)]
  show wpAny _ _ (field (.ref it) 1 >>= _) _ _ s
  refine wpAny_bind (wpAny_field gI dI (x := .int i 0) rfl ?_)
  show wpAny _ _ (seqItems? (.ref t) >>= _) _ _ s
  refine wpAny_bind (wpAny_seqItems gT dT ?_)
  simp only [Int.toNat_natCast, hx]
  refine wpAny_bind (wpAny_setField gI dI (by simp) (wpAny_pure ⟨x, rfl, wpAny_pure (hQ _ ?_ (Heap.SameBut.update ..))⟩))
  refine ⟨_, Heap.get?_update_self _ gI (Obj.isFreed_of_fields (Obj.data_mapFields dI _)), (Obj.cls_mapFields ..).trans cI, ?_⟩
  rw [Obj.data_mapFields dI]; simp [rawInt]
theorem nextOf_tup_end {it t : Addr} {i : Nat} {xs : Array Value} {Q : Value → Shared → Prop} (hh : A.handled = none) (hI : s.heap.IsTupleIter it t i) (hT : s.heap.IsTuple t xs) (hx : xs[i]? = none)
    (hE : ∀ h' e, Heap.ExtBut it s.heap h' → (∃ o, h'.get? e = some o ∧ o.cls = .type "StopIteration") → E (.ref e) { s with heap := h' }) : wpAny (model P w) A (Builtin.SmallTypes.nextOf (.ref it)) Q E s := by
  obtain ⟨oI, gI, cI, dI⟩ := id hI
  obtain ⟨oT, gT, _, nT, dT⟩ := hT
  unfold Builtin.SmallTypes.nextOf
  refine wpAny_bind (wpAny_callSpecial?_slot (name := Str.ofString "__next__") hI.typeIs F.slot_tuple_iterator_next (wpAny_call_entry F.slot_tuple_iterator_next hI.typeIs F.entry_tuple_iterator_next ?_ (F.args_tuple_iterator_next_1 _)))
  show wpAny _ _ (field (.ref it) 0 >>= _) _ _ s
  refine wpAny_bind (wpAny_field gI dI (x := .ref t) rfl ?_)
  show wpAny _ _ (if (Value.ref t == Value.none) = true then _ else _) _ _ s
  rw [if_neg (show ¬ ((Value.ref t == Value.none) = true) from Bool.false_ne_true)]
  show wpAny _ _ (field (.ref it) 1 >>= _) _ _ s
  refine wpAny_bind (wpAny_field gI dI (x := .int i 0) rfl ?_)
  show wpAny _ _ (seqItems? (.ref t) >>= _) _ _ s
  refine wpAny_bind (wpAny_seqItems gT dT ?_)
  simp only [Int.toNat_natCast, hx]
  refine wpAny_bind (wpAny_rule (wpAny_bind (wpAny_setField gI dI (by simp) ?_)))
  show wpAny _ _ (newExc (.type "StopIteration") [] >>= _) _ _ _
  refine wpAny_bind ?_
  simp only [newExc, newTuple]
  refine wpAny_bind (wpAny_newObj_type ?_ (by size_fits))
  refine wpAny_bind (m := firstArgMember _ _) (wpAny_of_eq (a := Value.none) (by first | rfl | (simp only [firstArgMember]; rfl)) ?_)
  refine wpAny_newObj_type ?_ (by size_fits)
  simp only [raiseNew]
  refine wpAny_bind (wpAny_handled ?_)
  first | rw [show A.in1.handled = none from hh] | rw [hh]
  exact wpAny_bind (wpAny_pure (wpAny_throw (hE _ _ (((Heap.SameBut.update ..).extBut.push _).push _) ⟨_, Heap.get?_push_size _ rfl, rfl⟩)))
end
theorem drw_tup {P : Program} {w : World} (it l : Addr) : Drw P w it l (fun i h => h.IsTupleIter it l i) (fun xs h => h.IsTuple l xs.toArray) where
  obj := fun i h st => by
    obtain ⟨o, e, c, d⟩ := st
    exact ⟨o, e, fun v z => by rw [d] at z; cases z⟩
  keep := fun i h h' st k => st.at k
  srck := fun xs h h' sr k => sr.at k
  item := fun A E s i xs x Q st sr hx hQ => nextOf_tup_item st sr (by simpa using hx) hQ
  done := fun A E s i xs Q hh st sr hx hE => nextOf_tup_end hh st sr (by simpa using hx) hE
section
variable {P : Program} {w : World} {A : Around} {E : Value → Shared → Prop} {s : Shared} {z u o i1 i2 l1 l2 : Addr} {st1 st2 : Nat → Heap → Prop} {src1 src2 : List Value → Heap → Prop} {k1 k2 : Nat} {xs ys : List Value} {a b : Value}
theorem zipNext_item {x y : Value} {Q : Option Value → Shared → Prop} (d1 : Drw P w i1 l1 st1 src1) (d2 : Drw P w i2 l2 st2 src2) (D : ZipApart z u o i1 i2 l1 l2) (hZ : IsZip s.heap z u o .none) (hU : IsPair s.heap u (.ref i1) (.ref i2)) (hO : IsPair s.heap o a b)
    (h1 : st1 k1 s.heap) (h2 : st2 k2 s.heap) (hl1 : src1 xs s.heap) (hl2 : src2 ys s.heap) (hx : xs[k1]? = some x) (hy : ys[k2]? = some y)
    (hQ : ∀ h', IsZip h' z u o (rawInt s.heap.objs.size) → IsPair h' o x y → st1 (k1 + 1) h' → st2 (k2 + 1) h' → IsPair h' s.heap.objs.size x y → h'.objs.size = s.heap.objs.size + 1 →
      (∀ c q, c ≠ z → c ≠ o → c ≠ i1 → c ≠ i2 → s.heap.get? c = some q → h'.get? c = some q) → Q (some (.ref s.heap.objs.size)) { s with heap := h' }) : wpAny (model P w) A (pyNext (.ref z)) Q E s := by
  have hTy : s.TypeIs (.ref z) "zip" := ⟨_, hZ, rfl⟩
  unfold pyNext
  refine wpAny_bind (wpAny_attempt (wpAny_callSpecial?_slot (name := Str.ofString "__next__") hTy F.slot_zip_next (wpAny_call_entry F.slot_zip_next hTy F.entry_zip_next ?_ (F.args_zip_next_1 _))))
  show wpAny _ _ (field (.ref z) 2 >>= _) _ _ _
  refine wpAny_bind (wpAny_field hZ rfl (x := .bool false) rfl ?_)
  show wpAny _ _ (field (.ref z) 3 >>= _) _ _ _
  refine wpAny_bind (wpAny_field hZ rfl (x := .ref u) rfl (wpAny_bind (wpAny_seqItems hU rfl ?_)))
  show wpAny _ _ (Builtin.SmallTypes.ownedTupleIsFree (.ref z) >>= _) _ _ _
  refine wpAny_bind ?_
  unfold Builtin.SmallTypes.ownedTupleIsFree
  refine wpAny_bind (wpAny_field hZ rfl (x := .none) rfl (wpAny_pure ?_))
  simp only [if_true]
  refine wpAny_bind (wpAny_rule (wpAny_bind (wpAny_field hZ rfl (x := .ref o) rfl (wpAny_bind (wpAny_setField_rec hZ (by simp) fun g1 hZ1 e1 => ?_)))))
  replace hZ1 : IsZip g1 z u o .ellipsis := hZ1
  refine wpAny_bind ?_
  simp only [List.zipIdx_cons, List.zipIdx_nil, List.forIn_cons, List.forIn_nil]
  refine wpAny_bind (wpAny_bind (wpAny_onRaise ?_))
  show wpAny _ _ (Builtin.SmallTypes.nextOf (.ref i1) >>= _) _ _ _
  refine wpAny_bind (d1.item _ _ { s with heap := g1 } k1 xs x _ (d1.keep _ _ _ h1 fun q e => e1.extBut _ _ D.i1z e) (d1.srck _ _ _ hl1 fun q e => e1.extBut _ _ D.l1z e) hx fun g2 h1' e2 => wpAny_pure ?_)
  have hO2 : IsPair g2 o a b := e2.extBut _ _ D.TOi1 (e1.extBut _ _ D.TOz hO)
  refine wpAny_bind (wpAny_seqItems hO2 rfl (wpAny_bind (wpAny_updateSeq_pair hO2 fun g3 hO3 e3 => ?_)))
  replace hO3 : IsPair g3 o x b := hO3
  refine wpAny_bind (wpAny_letGo (wpAny_pure ?_))
  refine wpAny_bind (wpAny_bind (wpAny_onRaise ?_))
  show wpAny _ _ (Builtin.SmallTypes.nextOf (.ref i2) >>= _) _ _ _
  refine wpAny_bind (d2.item _ _ { s with heap := g3 } k2 ys y _ (d2.keep _ _ _ h2 fun q e => e3.extBut _ _ D.TOi2.symm (e2.extBut _ _ D.i12.symm (e1.extBut _ _ D.i2z e)))
    (d2.srck _ _ _ hl2 fun q e => e3.extBut _ _ D.l2TO (e2.extBut _ _ D.l2i1 (e1.extBut _ _ D.l2z e))) hy fun g4 h2' e4 => wpAny_pure ?_)
  have hO4 : IsPair g4 o x b := e4.extBut _ _ D.TOi2 hO3
  refine wpAny_bind (wpAny_seqItems hO4 rfl (wpAny_bind (wpAny_updateSeq_pair hO4 fun g5 hO5 e5 => ?_)))
  replace hO5 : IsPair g5 o x y := hO5
  refine wpAny_bind (wpAny_letGo (wpAny_pure (wpAny_pure ?_)))
  refine wpAny_bind (wpAny_seqItems hO5 rfl (wpAny_bind (wpAny_newTuple ?_)))
  have hsz : g5.objs.size = s.heap.objs.size := by rw [e5.1, e4.1, e3.1, e2.1, e1.1]
  have hZ5 : IsZip g5 z u o .ellipsis := e5.extBut _ _ D.TOz.symm (e4.extBut _ _ D.i2z.symm (e3.extBut _ _ D.TOz.symm (e2.extBut _ _ D.i1z.symm hZ1)))
  have hk5 : ∀ c q, c ≠ z → c ≠ o → c ≠ i1 → c ≠ i2 → s.heap.get? c = some q → g5.get? c = some q := fun c q c1 c2 c3 c4 e =>
    e5.extBut _ _ c2 (e4.extBut _ _ c4 (e3.extBut _ _ c2 (e2.extBut _ _ c3 (e1.extBut _ _ c1 e))))
  have s15 : st1 (k1 + 1) g5 := d1.keep _ _ _ h1' fun q e => e5.extBut _ _ D.TOi1.symm (e4.extBut _ _ D.i12 (e3.extBut _ _ D.TOi1.symm e))
  have s25 : st2 (k2 + 1) g5 := d2.keep _ _ _ h2' fun q e => e5.extBut _ _ D.TOi2.symm e
  have zlt : z < g5.objs.size := Heap.lt_size hZ5
  show wpAny _ _ (Builtin.SmallTypes.ownedTupleHandOut (.ref z) (.ref g5.objs.size) >>= _) _ _ _
  refine wpAny_bind ?_
  unfold Builtin.SmallTypes.ownedTupleHandOut
  have hZ6 : IsZip (g5.push { cls := .type "tuple", data := .seq #[x, y] }) z u o .ellipsis := Heap.get?_push_of_some _ hZ5
  refine wpAny_bind (wpAny_setField_rec hZ6 (by simp) fun g7 hZ7 e7 => ?_)
  replace hZ7 : IsZip g7 z u o (rawInt g5.objs.size) := hZ7
  refine wpAny_setField_rec hZ7 (by simp) fun g8 hZ8 e8 => ?_
  replace hZ8 : IsZip g8 z u o (rawInt g5.objs.size) := hZ8
  have up : ∀ c q, c ≠ z → g5.get? c = some q → g8.get? c = some q := fun c q c1 e => e8.extBut _ _ c1 (e7.extBut _ _ c1 (Heap.get?_push_of_some _ e))
  have hT8 : IsPair g8 g5.objs.size x y := e8.extBut _ _ (Nat.ne_of_gt zlt) (e7.extBut _ _ (Nat.ne_of_gt zlt) (Heap.get?_push_size _ rfl))
  have hs8 : g8.objs.size = g5.objs.size + 1 := by rw [e8.1, e7.1, Heap.size_push]
  rw [hsz] at hZ8 hT8 hs8
  refine wpAny_pure ⟨_, rfl, wpAny_pure ?_⟩
  show Q (some (.ref g5.objs.size)) _
  rw [hsz]
  exact hQ g8 hZ8 (up _ _ D.TOz hO5) (d1.keep _ _ _ s15 fun q e => up _ q D.i1z e) (d2.keep _ _ _ s25 fun q e => up _ q D.i2z e) hT8 hs8 fun c q c1 c2 c3 c4 e => up c q c1 (hk5 c q c1 c2 c3 c4 e)
theorem zipNext_end {Q : Option Value → Shared → Prop} (hh : A.handled = none) (d1 : Drw P w i1 l1 st1 src1) (d2 : Drw P w i2 l2 st2 src2) (D : ZipApart z u o i1 i2 l1 l2) (hZ : IsZip s.heap z u o .none) (hU : IsPair s.heap u (.ref i1) (.ref i2)) (hO : IsPair s.heap o a b)
    (h1 : st1 k1 s.heap) (h2 : st2 k2 s.heap) (hl1 : src1 xs s.heap) (hl2 : src2 ys s.heap) (hend : xs[k1]? = none ∨ ys[k2]? = none)
    (hQ : ∀ h', (∀ c q, c ≠ z → c ≠ o → c ≠ i1 → c ≠ i2 → s.heap.get? c = some q → h'.get? c = some q) → Q none { s with heap := h' }) : wpAny (model P w) A (pyNext (.ref z)) Q E s := by
  have hTy : s.TypeIs (.ref z) "zip" := ⟨_, hZ, rfl⟩
  unfold pyNext
  have fin : ∀ (h' : Heap) (e : Addr), (∀ c q, c ≠ z → c ≠ o → c ≠ i1 → c ≠ i2 → s.heap.get? c = some q → h'.get? c = some q) → (∃ o, h'.get? e = some o ∧ o.cls = .type "StopIteration") →
      wpAny (model P w) A (isInstance (.ref e) (.type "StopIteration") >>= fun b => if b = true then pure none else throw (Value.ref e)) Q E { s with heap := h' } := fun h' e hk he => by
    obtain ⟨q, hq, hc⟩ := he
    exact wpAny_bind (wpAny_isInstance (T := "StopIteration") (b := true) ⟨q, hq, hc⟩ isSubtype_stop (wpAny_pure (hQ _ hk)))
  refine wpAny_bind (wpAny_attempt (wpAny_callSpecial?_slot (name := Str.ofString "__next__") hTy F.slot_zip_next (wpAny_call_entry F.slot_zip_next hTy F.entry_zip_next ?_ (F.args_zip_next_1 _))))
  show wpAny _ _ (field (.ref z) 2 >>= _) _ _ _
  refine wpAny_bind (wpAny_field hZ rfl (x := .bool false) rfl ?_)
  show wpAny _ _ (field (.ref z) 3 >>= _) _ _ _
  refine wpAny_bind (wpAny_field hZ rfl (x := .ref u) rfl (wpAny_bind (wpAny_seqItems hU rfl ?_)))
  show wpAny _ _ (Builtin.SmallTypes.ownedTupleIsFree (.ref z) >>= _) _ _ _
  refine wpAny_bind ?_
  unfold Builtin.SmallTypes.ownedTupleIsFree
  refine wpAny_bind (wpAny_field hZ rfl (x := .none) rfl (wpAny_pure ?_))
  simp only [if_true]
  refine wpAny_bind (wpAny_rule (wpAny_bind (wpAny_field hZ rfl (x := .ref o) rfl (wpAny_bind (wpAny_setField_rec hZ (by simp) fun g1 hZ1 e1 => ?_)))))
  replace hZ1 : IsZip g1 z u o .ellipsis := hZ1
  refine wpAny_bind ?_
  simp only [List.zipIdx_cons, List.zipIdx_nil, List.forIn_cons, List.forIn_nil]
  refine wpAny_bind (wpAny_bind (wpAny_onRaise ?_))
  show wpAny _ _ (Builtin.SmallTypes.nextOf (.ref i1) >>= _) _ _ _
  cases hx : xs[k1]? with
  | none =>
    refine wpAny_bind (d1.done _ _ { s with heap := g1 } k1 xs _ hh (d1.keep _ _ _ h1 fun q e => e1.extBut _ _ D.i1z e) (d1.srck _ _ _ hl1 fun q e => e1.extBut _ _ D.l1z e) hx fun g2 e e2 he => ?_)
    obtain ⟨qe, ge, ce⟩ := he
    have hZ2 : IsZip g2 z u o .ellipsis := e2 _ _ D.i1z.symm hZ1
    have hez : e ≠ z := fun x => by subst x; rw [hZ2] at ge; cases ge; simp at ce
    refine wpAny_setField_rec hZ2 (by simp) fun g3 _ e3 => ?_
    exact fin g3 e (fun c q c1 _ c3 _ x => e3.extBut _ _ c1 (e2 _ _ c3 (e1.extBut _ _ c1 x))) ⟨qe, e3.extBut _ _ hez ge, ce⟩
  | some x =>
    have hy : ys[k2]? = none := hend.resolve_left fun h => by rw [hx] at h; cases h
    refine wpAny_bind (d1.item _ _ { s with heap := g1 } k1 xs x _ (d1.keep _ _ _ h1 fun q e => e1.extBut _ _ D.i1z e) (d1.srck _ _ _ hl1 fun q e => e1.extBut _ _ D.l1z e) hx fun g2 h1' e2 => wpAny_pure ?_)
    have hO2 : IsPair g2 o a b := e2.extBut _ _ D.TOi1 (e1.extBut _ _ D.TOz hO)
    refine wpAny_bind (wpAny_seqItems hO2 rfl (wpAny_bind (wpAny_updateSeq_pair hO2 fun g3 hO3 e3 => ?_)))
    refine wpAny_bind (wpAny_letGo (wpAny_pure ?_))
    refine wpAny_bind (wpAny_bind (wpAny_onRaise ?_))
    show wpAny _ _ (Builtin.SmallTypes.nextOf (.ref i2) >>= _) _ _ _
    refine wpAny_bind (d2.done _ _ { s with heap := g3 } k2 ys _ hh (d2.keep _ _ _ h2 fun q e => e3.extBut _ _ D.TOi2.symm (e2.extBut _ _ D.i12.symm (e1.extBut _ _ D.i2z e)))
      (d2.srck _ _ _ hl2 fun q e => e3.extBut _ _ D.l2TO (e2.extBut _ _ D.l2i1 (e1.extBut _ _ D.l2z e))) hy fun g4 e e4 he => ?_)
    obtain ⟨qe, ge, ce⟩ := he
    have hZ4 : IsZip g4 z u o .ellipsis := e4 _ _ D.i2z.symm (e3.extBut _ _ D.TOz.symm (e2.extBut _ _ D.i1z.symm hZ1))
    have hez : e ≠ z := fun x => by subst x; rw [hZ4] at ge; cases ge; simp at ce
    refine wpAny_setField_rec hZ4 (by simp) fun g5 _ e5 => ?_
    exact fin g5 e (fun c q c1 c2 c3 c4 x => e5.extBut _ _ c1 (e4 _ _ c4 (e3.extBut _ _ c2 (e2.extBut _ _ c3 (e1.extBut _ _ c1 x))))) ⟨qe, e5.extBut _ _ hez ge, ce⟩
end
noncomputable def itObj (n : String) (l : Addr) : Obj := { cls := .type n, data := .fields #[.ref l, .int 0 0] }
structure Itr0 (n : String) (l : Addr) (pr : Heap → Prop) : Prop where
  go : ∀ (P : Program) (w : World) (A : Around) (E : Value → Shared → Prop) (s : Shared) (Q : Value → Shared → Prop), pr s.heap → Q (.ref s.heap.objs.size) { s with heap := s.heap.push (itObj n l) } → wpAny (model P w) A (pyIter (.ref l)) Q E s
  push : ∀ h o, pr h → pr (h.push o)
theorem itr0_list (l : Addr) (xs : Array Value) : Itr0 "list_iterator" l (fun h => h.IsList l xs) := ⟨fun _ _ _ _ _ _ hl h => wpAny_pyIter_list hl h, fun _ _ hl => hl.push _⟩
theorem itr0_tup (l : Addr) (xs : Array Value) : Itr0 "tuple_iterator" l (fun h => h.IsTuple l xs) := ⟨fun _ _ _ _ _ _ hl h => wpAny_pyIter_tuple hl h, fun _ _ hl => hl.push _⟩
noncomputable def zH1 (h : Heap) (n1 : String) (l1 : Addr) : Heap := h.push (itObj n1 l1)
noncomputable def zH2 (h : Heap) (n1 n2 : String) (l1 l2 : Addr) : Heap := (zH1 h n1 l1).push (itObj n2 l2)
noncomputable def zH3 (h : Heap) (n1 n2 : String) (l1 l2 : Addr) : Heap := (zH2 h n1 n2 l1 l2).push { cls := .type "tuple", data := .seq #[.ref h.objs.size, .ref (zH1 h n1 l1).objs.size] }
noncomputable def zH4 (h : Heap) (n1 n2 : String) (l1 l2 : Addr) : Heap := (zH3 h n1 n2 l1 l2).push { cls := .type "tuple", data := .seq #[.none, .none] }
noncomputable def zH5 (h : Heap) (n1 n2 : String) (l1 l2 : Addr) : Heap := (zH4 h n1 n2 l1 l2).push { cls := .type "zip", data := .fields #[.none, .bool false, .bool false, .ref (zH2 h n1 n2 l1 l2).objs.size, .ref (zH3 h n1 n2 l1 l2).objs.size] }
theorem meets_zip {n1 n2 : String} {l1 l2 : Addr} {p1 p2 : Heap → Prop} (I1 : Itr0 n1 l1 p1) (I2 : Itr0 n2 l2 p2) :
    Meets (Builtin.«zip.__new__» ⟨[.type "zip", .ref l1, .ref l2], []⟩) (fun _ R s => p1 s.heap ∧ p2 s.heap ∧ R (.ok (.ret (.ref (zH4 s.heap n1 n2 l1 l2).objs.size))) { s with heap := zH5 s.heap n1 n2 l1 l2 }) :=
  .of_wp fun prog w A R s h => by
    obtain ⟨hp, g, d, tk, os⟩ := s
    obtain ⟨q1, q2, h⟩ := h
    have hsub := sub_zip
    have f1 := fun (A : Around) (E : Value → Shared → Prop) (Q : Value → Shared → Prop) => I1.go prog w A E ⟨hp, g, d, tk, os⟩ Q q1
    have f2 := fun (A : Around) (E : Value → Shared → Prop) (Q : Value → Shared → Prop) => I2.go prog w A E ⟨hp.push (itObj n1 l1), g, d, tk, os⟩ Q (I2.push _ _ q2)
    wp_walk using f1 _ _ _, f2 _ _ _
    exact ⟨_, rfl, h⟩
end L2
namespace L2
open PySem PySem.Spec PyProof.Rows
noncomputable def Sq (K : PySem.W.Frag) (m : Bool) (H : Hp) (a : Addr) (xs : List V) : Prop := if m = true then SqL K H a xs else SqT K H a xs
noncomputable def itN (m : Bool) : String := if m = true then "list_iterator" else "tuple_iterator"
noncomputable def itSt (m : Bool) (it l : Addr) (i : Nat) (h : Heap) : Prop := if m = true then h.IsListIter it l i else h.IsTupleIter it l i
noncomputable def itSrc (m : Bool) (l : Addr) (xs : List Value) (h : Heap) : Prop := if m = true then h.IsList l xs.toArray else h.IsTuple l xs.toArray
theorem drw_of {P : Program} {w : World} (m : Bool) (it l : Addr) : Drw P w it l (itSt m it l) (itSrc m l) := by
  cases m
  · exact drw_tup it l
  · exact drw_list it l
theorem itr0_of (m : Bool) (l : Addr) (xs : List Value) : Itr0 (itN m) l (itSrc m l xs) := by
  cases m
  · exact itr0_tup l xs.toArray
  · exact itr0_list l xs.toArray
theorem itSt_new (m : Bool) {h : Heap} {it l : Addr} (e : h.get? it = some (itObj (itN m) l)) : itSt m it l 0 h := by
  cases m
  · exact ⟨_, e, rfl, rfl⟩
  · exact ⟨_, e, rfl, rfl⟩
section
variable {X : Cx} {pins : List (Addr × Obj)} {σ : St} {H : Hp} {s : Shared}
theorem Inv.sq {m : Bool} {a : Addr} {xs : List V} (I : Inv X pins σ H s) (h : Sq X.K m H a xs) : ∃ its : List Value, Vals xs its ∧ itSrc m a its s.heap ∧ xs.length ≤ sizeLine := by
  cases m
  · obtain ⟨its, rv, p, hz⟩ := I.tuple h
    exact ⟨its, rv, p, by first | exact hz | omega⟩
  · obtain ⟨its, rv, p, hz⟩ := I.list h
    exact ⟨its, rv, p.isList, by first | exact hz | omega⟩
theorem Inv.sq_inj {m : Bool} {a : Addr} {xs ys : List V} (I : Inv X pins σ H s) (h : Sq X.K m H a xs) (h' : Sq X.K m H a ys) : xs = ys := by
  cases m
  · exact I.tuple_inj h h'
  · exact I.list_inj h h'
theorem Inv.tupNew {xs : List V} {its : List Value} {h' : Heap} {ch : List Addr} {T : Addr} (I : Inv X pins σ H s) (hT : s.heap.objs.size ≤ T) (r : Vals xs its) (hz : xs.length ≤ sizeLine) (e : h'.get? T = some { cls := .type "tuple", data := .seq its.toArray })
    (hf : ∀ b ∈ ch, FpOk X pins H b) (k : ∀ b o, b ∉ ch → s.heap.get? b = some o → h'.get? b = some o) (th : ∀ b ∈ ch, ∃ o, h'.get? b = some o) : Inv X pins σ (upd H T (.tup xs)) { s with heap := h' } := by
  have hn : H T = none := I.hok.fresh hT
  have tr : ∀ b o, H b = some o → b ∉ ch := fun b o e z => by rw [(hf b z).1] at e; cases e
  refine I.step (g' := s.gens) (t' := s.toks) (d' := s.drawn) (ch := ch) (fun b hb => ⟨(hf b hb).2.2.2.1, (hf b hb).2.1, (hf b hb).2.2.2.2.1, (hf b hb).2.2.2.2.2⟩) (fun b o _ _ hc q _ => k b o hc q) (fun b o _ _ hc q _ => ⟨o.slots, k b o hc q⟩) (fun b o _ q n => ?_) (fun b o hc q => ⟨o, k b o hc q⟩)
    (fun b xs q => ?_) (fun b o u q => ?_) (fun b ps q => ⟨#[], ?_⟩) (fun m hm => ?_) (fun b ob q => ?_) I.bare
  · rw [upd_ne (Nat.ne_of_lt (Nat.lt_of_lt_of_le (Heap.lt_size q) hT))]; exact n
  · rw [upd_ne (ne_of_none q hn)]; exact q
  · rw [upd_ne (ne_of_none q hn)]; exact q
  · rw [upd_ne (ne_of_none q hn), Array.append_empty]; exact q
  · obtain ⟨o, es, ep, q, d, r⟩ := hm
    exact ⟨o, es, ep, k _ o (fun z => (hf _ z).2.1 rfl) q, d, r⟩
  · by_cases hb : b = T
    · subst hb
      rw [upd_same] at q; cases q
      exact ⟨hz, its, r, _, e, rfl, _, rfl⟩
    · rw [upd_ne hb] at q
      refine (I.hok b ob q).stay (fun c v hc r => k c v ?_ r) (fun c r => by rw [upd_ne (ne_of_none r hn)]; exact r) fun c xs r => by rw [upd_ne (ne_of_none r hn)]; exact r
      rcases hc with rfl | hc
      · exact tr _ _ q
      · exact tr _ _ hc
end
noncomputable def Itz (K : PySem.W.Frag) (m1 m2 : Bool) (a b : Addr) : It :=
  ⟨fun i H => ∃ xs ys x y, Sq K m1 H a xs ∧ Sq K m2 H b ys ∧ xs[i]? = some x ∧ ys[i]? = some y,
   fun i H v H' => ∃ T x y, v = .ref T ∧ H T = none ∧ H' = upd H T (.tup [x, y]) ∧ (∀ xs, Sq K m1 H a xs → xs[i]? = some x) ∧ ∀ ys, Sq K m2 H b ys → ys[i]? = some y,
   fun i H => ∃ xs ys, Sq K m1 H a xs ∧ Sq K m2 H b ys ∧ (xs.length ≤ i ∨ ys.length ≤ i)⟩
noncomputable def zTn (m1 m2 : Bool) (z u o i1 i2 a b : Addr) (i : Nat) (h : Heap) : Prop := IsZip h z u o .none ∧ IsPair h u (.ref i1) (.ref i2) ∧ (∃ p q, IsPair h o p q) ∧ itSt m1 i1 a i h ∧ itSt m2 i2 b i h
theorem turn_zip {P : Program} {w : World} {K : PySem.W.Frag} {es : List Expr} {kk : Nat} {tp : Pos} {m1 m2 : Bool} {z u o i1 i2 a b : Addr} (D : ZipApart z u o i1 i2 a b) :
    Turn P w K (.Tuple es kk tp) (Itz K m1 m2 a b) [z, u, o, i1, i2] z (zTn m1 m2 z u o i1 i2 a b) where
  mem := by simp
  obj := fun i h st c hc => by
    obtain ⟨h1, h2, ⟨p, q, h3⟩, h4, h5⟩ := st
    simp only [List.mem_cons, List.mem_nil_iff, or_false] at hc
    rcases hc with rfl | rfl | rfl | rfl | rfl
    · exact ⟨_, h1, fun v z => by cases z⟩
    · exact ⟨_, h2, fun v z => by cases z⟩
    · exact ⟨_, h3, fun v z => by cases z⟩
    · exact (drw_of (P := P) (w := w) m1 c a).obj i h h4
    · exact (drw_of (P := P) (w := w) m2 c b).obj i h h5
  keep := fun i h h' st k => by
    obtain ⟨h1, h2, ⟨p, q, h3⟩, h4, h5⟩ := st
    exact ⟨k z (by simp) _ h1, k u (by simp) _ h2, ⟨p, q, k o (by simp) _ h3⟩, (drw_of (P := P) (w := w) m1 i1 a).keep i h h' h4 (k i1 (by simp)), (drw_of (P := P) (w := w) m2 i2 b).keep i h h' h5 (k i2 (by simp))⟩
  item := by
    intro X hP hw hK hc i pins s σ H E I hf st hg
    subst hP hw hK
    obtain ⟨xs, ys, x, y, q1, q2, hx, hy⟩ := hg
    obtain ⟨is1, r1, p1, z1⟩ := I.sq q1
    obtain ⟨is2, r2, p2, z2⟩ := I.sq q2
    obtain ⟨v1, e1, rv1⟩ := r1.get hx
    obtain ⟨v2, e2, rv2⟩ := r2.get hy
    obtain ⟨hZ, hU, ⟨p, q, hO⟩, s1, s2⟩ := st
    refine zipNext_item (drw_of m1 i1 a) (drw_of m2 i2 b) D hZ hU hO s1 s2 p1 p2 e1 e2 fun h' a1 a2 a3 a4 a5 a6 a7 => ⟨_, rfl, ?_⟩
    have hf' : ∀ c ∈ [z, o, i1, i2], FpOk X pins H c := fun c hc => hf c (by simp only [List.mem_cons, List.mem_nil_iff, or_false] at hc ⊢; rcases hc with rfl | rfl | rfl | rfl <;> simp)
    have I1 : Inv X pins σ (upd H s.heap.objs.size (.tup [x, y])) { s with heap := h' } := I.tupNew (ch := [z, o, i1, i2]) (Nat.le_refl _) (.cons rv1 (.cons rv2 .nil)) (by show 2 ≤ sizeLine; decide) a5 hf'
      (fun c q hc e => by simp only [List.mem_cons, List.mem_nil_iff, or_false, not_or] at hc; exact a7 c q hc.1 hc.2.1 hc.2.2.1 hc.2.2.2 e)
      (fun c hc => by
        simp only [List.mem_cons, List.mem_nil_iff, or_false] at hc
        rcases hc with rfl | rfl | rfl | rfl
        · exact ⟨_, a1⟩
        · exact ⟨_, a2⟩
        · obtain ⟨q, e, _⟩ := (drw_of (P := X.prog) (w := X.w) m1 c a).obj _ _ a3; exact ⟨q, e⟩
        · obtain ⟨q, e, _⟩ := (drw_of (P := X.prog) (w := X.w) m2 c b).obj _ _ a4; exact ⟨q, e⟩)
    refine wpAny_letOwnedTupleGo_zip (s := { s with heap := h' }) a1 fun h2 g1 g2 => ?_
    obtain ⟨f0, f1, f2, f3, f4, f5⟩ := hf z (by simp)
    have ltz : z < s.heap.objs.size := Heap.lt_size hZ
    have I2 : Inv X pins σ (upd H s.heap.objs.size (.tup [x, y])) { s with heap := h2 } := I1.turned (h' := h2) (t' := s.toks) (fun c q hc e => g2.extBut c q hc e) (by rw [upd_ne (Nat.ne_of_lt ltz)]; exact f0) f1 f3 f4 f5
    have hU' : IsPair h' u (.ref i1) (.ref i2) := a7 u _ D.TIz D.TITO D.TIi1 D.TIi2 hU
    refine ⟨.ref s.heap.objs.size, _, I2, rfl, ⟨_, x, y, rfl, I.hok.fresh (Nat.le_refl _), rfl, fun xs' hq => by rw [I.sq_inj hq q1]; exact hx, fun ys' hq => by rw [I.sq_inj hq q2]; exact hy⟩, ?_, fun c hc => ?_⟩
    · exact ⟨g1, g2.extBut _ _ D.TIz hU', ⟨_, _, g2.extBut _ _ D.TOz a2⟩, (drw_of (P := X.prog) (w := X.w) m1 i1 a).keep _ _ _ a3 fun q e => g2.extBut _ _ D.i1z e, (drw_of (P := X.prog) (w := X.w) m2 i2 b).keep _ _ _ a4 fun q e => g2.extBut _ _ D.i2z e⟩
    · have hlt : c ≠ s.heap.objs.size := by
        have st' : zTn m1 m2 z u o i1 i2 a b i s.heap := ⟨hZ, hU, ⟨p, q, hO⟩, s1, s2⟩
        simp only [List.mem_cons, List.mem_nil_iff, or_false] at hc
        rcases hc with rfl | rfl | rfl | rfl | rfl
        · exact Nat.ne_of_lt ltz
        · exact Nat.ne_of_lt (Heap.lt_size hU)
        · exact Nat.ne_of_lt (Heap.lt_size hO)
        · obtain ⟨q, e, _⟩ := (drw_of (P := X.prog) (w := X.w) m1 c a).obj _ _ s1; exact Nat.ne_of_lt (Heap.lt_size e)
        · obtain ⟨q, e, _⟩ := (drw_of (P := X.prog) (w := X.w) m2 c b).obj _ _ s2; exact Nat.ne_of_lt (Heap.lt_size e)
      rw [upd_ne hlt]
      exact (hf c hc).1
  done := by
    intro X hP hw hK hc i pins s σ H E I hf st hg
    subst hP hw hK
    obtain ⟨xs, ys, q1, q2, hx⟩ := hg
    obtain ⟨is1, r1, p1, z1⟩ := I.sq q1
    obtain ⟨is2, r2, p2, z2⟩ := I.sq q2
    obtain ⟨hZ, hU, ⟨p, q, hO⟩, s1, s2⟩ := st
    have l1 := r1.length
    have l2 := r2.length
    refine zipNext_end (I.ok.hd hc) (drw_of m1 i1 a) (drw_of m2 i2 b) D hZ hU hO s1 s2 p1 p2 (by
      rcases hx with h | h
      · exact .inl (List.getElem?_eq_none_iff.mpr (by omega))
      · exact .inr (List.getElem?_eq_none_iff.mpr (by omega))) fun h' k => ⟨rfl, ?_⟩
    have hf' : ∀ c ∈ [z, o, i1, i2], FpOk X pins H c := fun c hc => hf c (by simp only [List.mem_cons, List.mem_nil_iff, or_false] at hc ⊢; rcases hc with rfl | rfl | rfl | rfl <;> simp)
    have tr : ∀ c q, H c = some q → c ∉ [z, o, i1, i2] := fun c q e y => by rw [(hf' c y).1] at e; cases e
    have kk : ∀ c q, c ∉ [z, o, i1, i2] → s.heap.get? c = some q → h'.get? c = some q := fun c q hc e => by
      simp only [List.mem_cons, List.mem_nil_iff, or_false, not_or] at hc
      exact k c q hc.1 hc.2.1 hc.2.2.1 hc.2.2.2 e
    refine I.step (g' := s.gens) (t' := s.toks) (d' := s.drawn) (ch := [z, o, i1, i2]) (fun b hb => ⟨(hf' b hb).2.2.2.1, (hf' b hb).2.1, (hf' b hb).2.2.2.2.1, (hf' b hb).2.2.2.2.2⟩) (fun b o _ _ hc q _ => kk b o hc q) (fun b o _ _ hc q _ => ⟨o.slots, kk b o hc q⟩) (fun b o _ q n => n) (fun b o hc q => ⟨o, kk b o hc q⟩)
      (fun b xs q => q) (fun b o u q => q) (fun b ps q => ⟨#[], by rw [Array.append_empty]; exact q⟩) (fun m hm => ?_) (fun b ob q => ?_) I.bare
    · obtain ⟨o, es, ep, q, d, r⟩ := hm
      exact ⟨o, es, ep, kk _ o (fun z => (hf' _ z).2.1 rfl) q, d, r⟩
    · refine (I.hok b ob q).stay (fun c v hc r => kk c v ?_ r) (fun c r => r) fun c xs r => r
      rcases hc with rfl | hc
      · exact tr _ _ q
      · exact tr _ _ hc
  self := fun _ _ _ _ _ st h => wpAny_pyIter_zip st.1 h
section
variable {X : Cx}
noncomputable def iZip (K : PySem.W.Frag) (m1 m2 : Bool) (ta : TA) : TI := fun σ H R => ta σ H fun vs H1 => ∃ a b, vs = [.ref a, .ref b] ∧ (∃ xs, Sq K m1 H1 a xs) ∧ (∃ ys, Sq K m2 H1 b ys) ∧ R (Itz K m1 m2 a b) H1
theorem call_zipM {P : Program} {w : World} {A : Around} {E : Value → Shared → Prop} {s : Shared} {m1 m2 : Bool} {a b : Addr} {xs ys : List Value} {Q : Value → Shared → Prop} (h1 : itSrc m1 a xs s.heap) (h2 : itSrc m2 b ys s.heap)
    (h : ∀ h', IsZip h' (s.heap.objs.size + 4) (s.heap.objs.size + 2) (s.heap.objs.size + 3) .none → IsPair h' (s.heap.objs.size + 2) (.ref s.heap.objs.size) (.ref (s.heap.objs.size + 1)) → IsPair h' (s.heap.objs.size + 3) .none .none →
      itSt m1 s.heap.objs.size a 0 h' → itSt m2 (s.heap.objs.size + 1) b 0 h' → (∀ c o, s.heap.get? c = some o → h'.get? c = some o) → Q (.ref (s.heap.objs.size + 4)) { s with heap := h' }) :
    wpAny (model P w) A (call (.type "zip") [.ref a, .ref b]) Q E s := by
  refine callType_new F.called_zip (by decide) (F.typeCall_zip_2 _ _) (F.newCall_zip_2 _ _) (fun obj => F.args_object_init_3 obj _ _) F.entry_zip_new (meets_zip (itr0_of m1 a xs) (itr0_of m2 b ys)) ⟨h1, h2, ?_⟩
  have z1 : (zH1 s.heap (itN m1) a).objs.size = s.heap.objs.size + 1 := Heap.size_push ..
  have z2 : (zH2 s.heap (itN m1) (itN m2) a b).objs.size = s.heap.objs.size + 2 := by unfold zH2; rw [Heap.size_push, z1]
  have z3 : (zH3 s.heap (itN m1) (itN m2) a b).objs.size = s.heap.objs.size + 3 := by unfold zH3; rw [Heap.size_push, z2]
  have z4 : (zH4 s.heap (itN m1) (itN m2) a b).objs.size = s.heap.objs.size + 4 := by unfold zH4; rw [Heap.size_push, z3]
  have g5 : (zH5 s.heap (itN m1) (itN m2) a b).get? (zH4 s.heap (itN m1) (itN m2) a b).objs.size = some { cls := .type "zip", data := .fields #[.none, .bool false, .bool false, .ref (zH2 s.heap (itN m1) (itN m2) a b).objs.size, .ref (zH3 s.heap (itN m1) (itN m2) a b).objs.size] } := Heap.get?_push_size _ rfl
  have up4 : ∀ c o, (zH4 s.heap (itN m1) (itN m2) a b).get? c = some o → (zH5 s.heap (itN m1) (itN m2) a b).get? c = some o := fun c o e => Heap.get?_push_of_some _ e
  have up3 : ∀ c o, (zH3 s.heap (itN m1) (itN m2) a b).get? c = some o → (zH5 s.heap (itN m1) (itN m2) a b).get? c = some o := fun c o e => up4 c o (Heap.get?_push_of_some _ e)
  have up2 : ∀ c o, (zH2 s.heap (itN m1) (itN m2) a b).get? c = some o → (zH5 s.heap (itN m1) (itN m2) a b).get? c = some o := fun c o e => up3 c o (Heap.get?_push_of_some _ e)
  have up1 : ∀ c o, (zH1 s.heap (itN m1) a).get? c = some o → (zH5 s.heap (itN m1) (itN m2) a b).get? c = some o := fun c o e => up2 c o (Heap.get?_push_of_some _ e)
  have g4 : (zH5 s.heap (itN m1) (itN m2) a b).get? (zH3 s.heap (itN m1) (itN m2) a b).objs.size = some { cls := .type "tuple", data := .seq #[.none, .none] } := up4 _ _ (Heap.get?_push_size _ rfl)
  have g3 : (zH5 s.heap (itN m1) (itN m2) a b).get? (zH2 s.heap (itN m1) (itN m2) a b).objs.size = some { cls := .type "tuple", data := .seq #[.ref s.heap.objs.size, .ref (zH1 s.heap (itN m1) a).objs.size] } := up3 _ _ (Heap.get?_push_size _ rfl)
  have g2 : (zH5 s.heap (itN m1) (itN m2) a b).get? (zH1 s.heap (itN m1) a).objs.size = some (itObj (itN m2) b) := up2 _ _ (Heap.get?_push_size _ rfl)
  have g1 : (zH5 s.heap (itN m1) (itN m2) a b).get? s.heap.objs.size = some (itObj (itN m1) a) := up1 _ _ (Heap.get?_push_size _ rfl)
  show _ ∧ _
  rw [z2, z3, z4] at g5
  rw [z1, z2] at g3
  rw [z3] at g4
  rw [z1] at g2
  rw [z4]
  exact ⟨⟨_, g5, rfl⟩, h _ g5 g3 g4 (itSt_new m1 g1) (itSt_new m2 g2) fun c o x => up1 c o (Heap.get?_push_of_some _ x)⟩
theorem zipApartN {n l1 l2 : Addr} (h1 : l1 < n) (h2 : l2 < n) : ZipApart (n + 4) (n + 2) (n + 3) n (n + 1) l1 l2 := by
  have h1' : @LT.lt Nat _ l1 n := h1
  have h2' : @LT.lt Nat _ l2 n := h2
  constructor <;> (show @Ne Nat _ _) <;> omega
theorem itSrc_lt {m : Bool} {a : Addr} {xs : List Value} {h : Heap} (e : itSrc m a xs h) : a < h.objs.size := by
  cases m
  · obtain ⟨o, e, _⟩ := e; exact Heap.lt_size e
  · obtain ⟨o, e, _⟩ := e; exact Heap.lt_size e
theorem pi_zip {a b : Expr} {ta : TA} {p pos tp : Pos} {es : List Expr} {kk : Nat} (m1 m2 : Bool) (hg : Gl X "zip") (hm : X.mg "zip" = none) (ha : PA X [a, b] ta) (hs : autoParam (starEach [a, b] X.env = [(false, eval a X.env), (false, eval b X.env)]) L2.aRfl._auto_1) (hs2 : autoParam (starEach [b] X.env = [(false, eval b X.env)]) L2.aRfl._auto_1) :
    PI X (.Tuple es kk tp) (.Call (.Name "zip" p) [a, b] [] pos) (iZip X.K m1 m2 ta) := by
  intro pins s σ H R I h
  refine Call_ (ld_blt I hg hm (u := .type "zip") (by rfl) (PyProof.Rows.callWith_type1 (thn (ha pos pins s σ H _ I h) fun us s1 ⟨vs, H1, I1, r1, q1⟩ => ?_) (by rw [hs, hs2]) (by rw [hs2]; rfl)))
  obtain ⟨l1, l2, e, ⟨xs, q1⟩, ⟨ys, q2⟩, q⟩ := q1
  subst e
  obtain ⟨u1, u2, rfl, e1, e2⟩ := r1.two
  cases e1
  cases e2
  obtain ⟨is1, r1, p1, z1⟩ := I1.sq q1
  obtain ⟨is2, r2, p2, z2⟩ := I1.sq q2
  refine call_zipM p1 p2 fun h' a1 a2 a3 a4 a5 a6 => ?_
  have I2 : Inv X pins σ H1 { s1 with heap := h' } := I1.kept (t' := s1.toks) a6
  refine wpAny_pyIter_zip (s := { s1 with heap := h' }) a1 ⟨_, [s1.heap.objs.size + 4, s1.heap.objs.size + 2, s1.heap.objs.size + 3, s1.heap.objs.size, s1.heap.objs.size + 1], _, _, H1, rfl, I2, turn_zip (zipApartN (itSrc_lt p1) (itSrc_lt p2)), ⟨a1, a2, ⟨_, _, a3⟩, a4, a5⟩, fun c hc => ?_, q⟩
  have hle : s1.heap.objs.size ≤ c := by
    simp only [List.mem_cons, List.mem_nil_iff, or_false] at hc
    rcases hc with rfl | rfl | rfl | rfl | rfl
    · exact Nat.le_add_right _ _
    · exact Nat.le_add_right _ _
    · exact Nat.le_add_right _ _
    · exact Nat.le_refl _
    · exact Nat.le_add_right _ _
  exact I1.fpOk hle (I1.hok.fresh hle)
end
end L2
namespace L2
open PySem PySem.Spec PyProof.Rows
section
variable {X : Cx}
noncomputable def isiV (K : PySem.W.Frag) (H : Hp) : V → String → Bool → Prop
  | .int _, T, b => (T = "int" ∧ b = true) ∨ (T = "bool" ∧ b = false) ∨ (T = "tuple" ∧ b = false)
  | .bl _, T, b => (T = "int" ∧ b = true) ∨ (T = "bool" ∧ b = true) ∨ (T = "tuple" ∧ b = false)
  | .ref a, T, b => (∃ xs, SqT K H a xs) ∧ ((T = "tuple" ∧ b = true) ∨ (T = "int" ∧ b = false) ∨ (T = "bool" ∧ b = false))
  | _, _, _ => False
theorem call_isi : CallR X (.builtin "isinstance") (fun xs H Q => ∃ x T b, xs = [x, .ty T] ∧ isiV X.K H x T b ∧ Q (.bl b) H) := by
  intro pins s σ H xs us Q I rv h
  obtain ⟨x, T, b, rfl, hi, q⟩ := h
  obtain ⟨u, v, rfl, ru, rT⟩ := rv.two
  cases rT
  have fin : ∀ (tk : Nat), EP X pins σ Q (.bool b) { s with toks := tk } := fun tk => ⟨.bl b, H, I.tok tk, rfl, q⟩
  cases x with
  | int n =>
    obtain ⟨t, rfl⟩ := ru
    rcases hi with ⟨rfl, rfl⟩ | ⟨rfl, rfl⟩ | ⟨rfl, rfl⟩
    · exact IsiPair.int_int (fin s.toks)
    · exact IsiPair.int_bool (fin _)
    · exact IsiPair.int_tuple (fin _)
  | bl n =>
    cases ru
    rcases hi with ⟨rfl, rfl⟩ | ⟨rfl, rfl⟩ | ⟨rfl, rfl⟩
    · exact IsiPair.bool_int (fin s.toks)
    · exact IsiPair.bool_bool (fin s.toks)
    · exact IsiPair.bool_tuple (fin _)
  | ref a =>
    cases ru
    obtain ⟨⟨xs, hq⟩, hi⟩ := hi
    obtain ⟨its, r, ⟨o, e, c, _⟩, _⟩ := I.tuple hq
    rcases hi with ⟨rfl, rfl⟩ | ⟨rfl, rfl⟩ | ⟨rfl, rfl⟩
    · exact IsiPair.tuple_tuple e c (fin s.toks)
    · exact IsiPair.tuple_int e c (fin _)
    · exact IsiPair.tuple_bool e c (fin _)
  | non => exact hi.elim
  | str _ => exact hi.elim
  | byt _ => exact hi.elim
  | flt _ => exact hi.elim
  | ty _ => exact hi.elim
theorem call_sumI (hc : X.calm = true) : CallR X (.builtin "sum") (fun xs H Q => ∃ (a : Addr) (ns : List Int), xs = [.ref a] ∧ SqL X.K H a (ns.map V.int) ∧ Q (.int ns.sum) H) := by
  intro pins s σ H xs us Q I rv h
  obtain ⟨a, ns, rfl, hq, q⟩ := h
  obtain ⟨u, rfl, ru⟩ := rv.one
  cases ru
  obtain ⟨its, r, p, hz⟩ := I.list hq
  have hi : IntsAre its.toArray.toList ns := intsAre_of r
  have hall : AllInts its.toArray := hi.allInts
  obtain ⟨xs, hx⟩ := hall.items
  have hl' : s.heap.IsList a (intItems xs) := hx ▸ p.isList
  refine sum_intListG (I.ok.hd hc) hl' fun h' tk t' hk => ?_
  have e1 : ns = xs.toList.map (·.1) := by
    rw [← nums_intItems, ← hx]
    exact (show numsOf its.toArray.toList = ns from hi.numsOf).symm
  have e2 : preSum (numAt xs) xs.size = ns.sum := by
    rw [preSum_eq, List.take_of_length_le (by simp), e1]
  rw [e2]
  exact ⟨.int ns.sum, H, I.kept hk, ⟨_, rfl⟩, q⟩
theorem boolsAt {bs : List Bool} {its : List Value} (r : Vals (bs.map V.bl) its) {i : Nat} {v : Value} (h : its[i]? = some v) : ∃ b, bs[i]? = some b ∧ v = .bool b := by
  have hl := r.length
  obtain ⟨hi, _⟩ := List.getElem?_eq_some_iff.mp h
  rw [List.length_map] at hl
  have hb : bs[i]? = some bs[i] := List.getElem?_eq_getElem (by omega)
  obtain ⟨u, h1, h2⟩ := r.get (i := i) (x := .bl bs[i]) (by rw [List.getElem?_map, hb]; rfl)
  rw [h] at h1; cases h1
  exact ⟨_, hb, h2⟩
theorem rangeAll (bs : List Bool) : ((List.range bs.length).all fun i => (bs[i]?).getD true) = bs.all id := by
  rw [Bool.eq_iff_iff]
  simp only [List.all_eq_true, List.mem_range, id]
  constructor
  · intro h b hb
    obtain ⟨i, hi, e⟩ := List.getElem_of_mem hb
    have := h i hi
    rw [List.getElem?_eq_getElem hi] at this
    simpa [e] using this
  · intro h i hi
    rw [List.getElem?_eq_getElem hi]
    exact h _ (List.getElem_mem hi)
theorem keptNew {h h' : Heap} {o : Obj} (hk : ∀ b x, b ∉ [h.objs.size] → (h.push o).get? b = some x → h'.get? b = some x) : ∀ b x, h.get? b = some x → h'.get? b = some x := fun b x e =>
  hk b x (fun hm => by rw [List.mem_singleton.mp hm] at e; exact Nat.lt_irrefl _ (Heap.lt_size e)) (Heap.get?_push_of_some _ e)
theorem call_allB (hc : X.calm = true) : CallR X (.builtin "all") (fun xs H Q => ∃ (a : Addr) (bs : List Bool), xs = [.ref a] ∧ SqL X.K H a (bs.map V.bl) ∧ Q (.bl (bs.all id)) H) := by
  intro pins s σ H xs us Q I rv h
  obtain ⟨a, bs, rfl, hq, q⟩ := h
  obtain ⟨u, rfl, ru⟩ := rv.one
  cases ru
  obtain ⟨its, r, p, hz⟩ := I.list hq
  have hlt : a < s.heap.objs.size := by obtain ⟨_, e, _⟩ := p.isList; exact Heap.lt_size e
  have hl := r.length
  rw [List.length_map] at hl
  refine call_all_walk (wpAny_pyIter_list p.isList ?_)
  refine ⟨s.heap.objs.size, [s.heap.objs.size, a], [s.heap.objs.size], its.toArray.size, _, _, fun i => (bs[i]?).getD true, rfl, Walks.list (A := X.A.in1) (I.ok.hd hc) _ a (Nat.ne_of_lt hlt) its.toArray, ⟨⟨_, Heap.get?_push_size _ rfl, rfl, rfl⟩, p.isList.push _⟩, fun i v s' Q' E' hP hQ => ?_, fun h' tk hk => ?_⟩
  · obtain ⟨b, e, rfl⟩ := boolsAt r (by simpa using hP)
    simp only [e, Option.getD_some] at hQ
    exact wpAny_truthy_bool hQ
  · rw [List.size_toArray, ← hl, rangeAll]
    exact ⟨.bl (bs.all id), H, I.kept (keptNew hk), rfl, q⟩
end
inductive D where
  | non | bl (b : Bool) | int (i : Int) | tup (xs : List D) | lst (xs : List D)
inductive HasD (K : PySem.W.Frag) (H : Hp) : V → D → Prop
  | non : HasD K H .non .non
  | bl (b) : HasD K H (.bl b) (.bl b)
  | int (i) : HasD K H (.int i) (.int i)
  | tup {a vs xs} : SqT K H a vs → vs.length = xs.length → (∀ (i : Nat) v x, vs[i]? = some v → xs[i]? = some x → HasD K H v x) → HasD K H (.ref a) (.tup xs)
  | lst {a vs xs} : SqL K H a vs → vs.length = xs.length → (∀ (i : Nat) v x, vs[i]? = some v → xs[i]? = some x → HasD K H v x) → HasD K H (.ref a) (.lst xs)
inductive Alike : Nat → D → D → Prop
  | non {n} : Alike n .non .non
  | bl {n} (a b) : Alike n (.bl a) (.bl b)
  | int {n} (a b) : Alike n (.int a) (.int b)
  | tup {n xs ys} : (∀ (i : Nat) x y, xs[i]? = some x → ys[i]? = some y → Alike n x y) → Alike (n + 1) (.tup xs) (.tup ys)
  | lst {n xs ys} : (∀ (i : Nat) x y, xs[i]? = some x → ys[i]? = some y → Alike n x y) → Alike (n + 1) (.lst xs) (.lst ys)
section
variable {X : Cx} {pins : List (Addr × Obj)} {σ : St} {H : Hp} {s : Shared}
theorem ext_all {α : Type} {xs ys : List α} (hl : xs.length = ys.length) (h : ∀ (i : Nat) x y, xs[i]? = some x → ys[i]? = some y → x = y) : xs = ys := by
  refine List.ext_getElem? fun i => ?_
  by_cases hi : i < xs.length
  · rw [List.getElem?_eq_getElem hi, List.getElem?_eq_getElem (by omega : i < ys.length)]
    exact congrArg some (h i _ _ (List.getElem?_eq_getElem hi) (List.getElem?_eq_getElem (by omega)))
  · rw [List.getElem?_eq_none (by omega), List.getElem?_eq_none (by omega)]
theorem Inv.noTL {a : Addr} {xs ys : List V} (I : Inv X pins σ H s) (h : SqT X.K H a xs) (h' : SqL X.K H a ys) : False := by
  obtain ⟨_, _, ⟨o, e, c, _⟩, _⟩ := I.tuple h
  obtain ⟨_, _, p, _⟩ := I.list h'
  obtain ⟨o', e', c', _⟩ := p.isList
  rw [e] at e'; cases e'
  rw [c] at c'
  injection c' with z
  exact absurd z (by decide)
theorem hasD_inj (I : Inv X pins σ H s) {x : V} {d : D} (h : HasD X.K H x d) : ∀ e, HasD X.K H x e → d = e := by
  induction h with
  | non => intro e h; cases h; rfl
  | bl b => intro e h; cases h; rfl
  | int i => intro e h; cases h; rfl
  | tup hq hl hs ih =>
    intro e h
    cases h with
    | tup hq' hl' hs' =>
      obtain rfl := I.tuple_inj hq hq'
      refine congrArg D.tup (ext_all (hl.symm.trans hl') fun i x y ex ey => ?_)
      have hi : i < _ := (List.getElem?_eq_some_iff.mp ex).1
      rw [← hl] at hi
      exact ih i _ x (List.getElem?_eq_getElem hi) ex y (hs' i _ y (List.getElem?_eq_getElem hi) ey)
    | lst hq' hl' hs' => exact (I.noTL hq hq').elim
  | lst hq hl hs ih =>
    intro e h
    cases h with
    | lst hq' hl' hs' =>
      obtain rfl := I.list_inj hq hq'
      refine congrArg D.lst (ext_all (hl.symm.trans hl') fun i x y ex ey => ?_)
      have hi : i < _ := (List.getElem?_eq_some_iff.mp ex).1
      rw [← hl] at hi
      exact ih i _ x (List.getElem?_eq_getElem hi) ex y (hs' i _ y (List.getElem?_eq_getElem hi) ey)
    | tup hq' hl' hs' => exact (I.noTL hq' hq).elim
theorem allRange {n : Nat} {e : Nat → Bool} : (List.range n).all e = true ↔ ∀ i, i < n → e i = true := by simp [List.all_eq_true]
open PySem.SeqAt Classical in
theorem eqAt_D {n : Nat} {d e : D} (h : Alike n d e) : ∀ {A : Around} {x y : V} {u v : Value}, A.units + n < cLine → Inv X pins σ H s → RelV x u → RelV y v → HasD X.K H x d → HasD X.K H y e →
    ∃ b : Bool, (b = true ↔ d = e) ∧ EqAt A s u v b ∧ (∀ a c, u = .ref a → v = .ref c → RcAt A s u v b ∧ RcNeAt A s u v (!b)) := by
  induction h with
  | non =>
    intro A x y u v hu I ru rv hd he
    cases hd
    cases he
    cases ru
    cases rv
    exact ⟨true, by simp, EqAt.same _, fun a c e _ => nomatch e⟩
  | bl a b =>
    intro A x y u v hu I ru rv hd he
    cases hd
    cases he
    cases ru
    cases rv
    exact ⟨a == b, by simp, EqAt.bool_bool a b, fun a c e _ => nomatch e⟩
  | int a b =>
    intro A x y u v hu I ru rv hd he
    cases hd
    cases he
    obtain ⟨t, rfl⟩ := ru
    obtain ⟨t', rfl⟩ := rv
    exact ⟨a == b, by simp, EqAt.int_int a t b t', fun a c e _ => nomatch e⟩
  | @tup m xs ys hs ih =>
    intro A x y u v hu I ru rv hd he
    have hd' := hd
    have he' := he
    cases hd with
    | @tup p vs _ hq hl hv =>
    cases he with
    | @tup q ws _ hq' hl' hv' =>
    cases ru
    cases rv
    obtain ⟨its, r, pt, _⟩ := I.tuple hq
    obtain ⟨its', r', pt', _⟩ := I.tuple hq'
    have l1 := r.length
    have l2 := r'.length
    have key : ∀ j (h1 : j < its.toArray.size) (h2 : j < its'.toArray.size), EqAt A.in1 s its.toArray[j] its'.toArray[j] (decide (xs[j]? = ys[j]?)) := fun j h1 h2 => by
      rw [List.size_toArray] at h1 h2
      have j1 : j < vs.length := by omega
      have j2 : j < ws.length := by omega
      have j3 : j < xs.length := by omega
      have j4 : j < ys.length := by omega
      obtain ⟨u1, e1, ru1⟩ := r.get (List.getElem?_eq_getElem j1)
      obtain ⟨u2, e2, ru2⟩ := r'.get (List.getElem?_eq_getElem j2)
      obtain ⟨b, hb, eq, _⟩ := ih j _ _ (List.getElem?_eq_getElem j3) (List.getElem?_eq_getElem j4) (A := A.in1) (by show A.units + 1 + m < cLine; omega) I ru1 ru2 (hv j _ _ (List.getElem?_eq_getElem j1) (List.getElem?_eq_getElem j3)) (hv' j _ _ (List.getElem?_eq_getElem j2) (List.getElem?_eq_getElem j4))
      have z1 : its.toArray[j] = u1 := by rw [List.getElem?_eq_getElem (by omega)] at e1; simpa using e1
      have z2 : its'.toArray[j] = u2 := by rw [List.getElem?_eq_getElem (by omega)] at e2; simpa using e2
      rw [z1, z2]
      have : (decide (xs[j]? = ys[j]?)) = b := by
        rw [Bool.eq_iff_iff, decide_eq_true_iff, hb, List.getElem?_eq_getElem j3, List.getElem?_eq_getElem j4]
        exact ⟨fun z => Option.some.inj z, fun z => congrArg some z⟩
      rw [this]
      exact eq
    have hb : ((List.range (min its.toArray.size its'.toArray.size)).all (fun j => decide (xs[j]? = ys[j]?)) && its.toArray.size == its'.toArray.size) = true ↔ D.tup xs = D.tup ys := by
      rw [Bool.and_eq_true, allRange, List.size_toArray, List.size_toArray, beq_iff_eq]
      constructor
      · rintro ⟨z1, z2⟩
        refine congrArg D.tup (ext_all (by omega) fun i x y ex ey => ?_)
        have hi := (List.getElem?_eq_some_iff.mp ex).1
        have := of_decide_eq_true (z1 i (by omega))
        rw [ex, ey] at this
        exact Option.some.inj this
      · intro z
        injection z with z
        subst z
        exact ⟨fun i _ => decide_eq_true rfl, by omega⟩
    refine ⟨_, hb, ?_, fun a c _ _ => ⟨RcAt.tuples pt pt' (by omega) key, RcNeAt.tuples pt pt' (by omega) key⟩⟩
    by_cases hpq : p = q
    · subst hpq
      rw [hb.mpr (hasD_inj I hd' _ he')]
      exact EqAt.same _
    · exact EqAt.of_refs hpq (RcAt.tuples pt pt' (by omega) key)
  | @lst m xs ys hs ih =>
    intro A x y u v hu I ru rv hd he
    have hd' := hd
    have he' := he
    cases hd with
    | @lst p vs _ hq hl hv =>
    cases he with
    | @lst q ws _ hq' hl' hv' =>
    cases ru
    cases rv
    obtain ⟨its, r, pt, _⟩ := I.list hq
    obtain ⟨its', r', pt', _⟩ := I.list hq'
    have l1 := r.length
    have l2 := r'.length
    have key : ∀ j (h1 : j < its.toArray.size) (h2 : j < its'.toArray.size), EqAt A.in1 s its.toArray[j] its'.toArray[j] (decide (xs[j]? = ys[j]?)) := fun j h1 h2 => by
      rw [List.size_toArray] at h1 h2
      have j1 : j < vs.length := by omega
      have j2 : j < ws.length := by omega
      have j3 : j < xs.length := by omega
      have j4 : j < ys.length := by omega
      obtain ⟨u1, e1, ru1⟩ := r.get (List.getElem?_eq_getElem j1)
      obtain ⟨u2, e2, ru2⟩ := r'.get (List.getElem?_eq_getElem j2)
      obtain ⟨b, hb, eq, _⟩ := ih j _ _ (List.getElem?_eq_getElem j3) (List.getElem?_eq_getElem j4) (A := A.in1) (by show A.units + 1 + m < cLine; omega) I ru1 ru2 (hv j _ _ (List.getElem?_eq_getElem j1) (List.getElem?_eq_getElem j3)) (hv' j _ _ (List.getElem?_eq_getElem j2) (List.getElem?_eq_getElem j4))
      have z1 : its.toArray[j] = u1 := by rw [List.getElem?_eq_getElem (by omega)] at e1; simpa using e1
      have z2 : its'.toArray[j] = u2 := by rw [List.getElem?_eq_getElem (by omega)] at e2; simpa using e2
      rw [z1, z2]
      have : (decide (xs[j]? = ys[j]?)) = b := by
        rw [Bool.eq_iff_iff, decide_eq_true_iff, hb, List.getElem?_eq_getElem j3, List.getElem?_eq_getElem j4]
        exact ⟨fun z => Option.some.inj z, fun z => congrArg some z⟩
      rw [this]
      exact eq
    by_cases hsz : its.toArray.size = its'.toArray.size
    · have hb : ((List.range its.toArray.size).all (fun j => decide (xs[j]? = ys[j]?))) = true ↔ D.lst xs = D.lst ys := by
        rw [List.size_toArray, List.size_toArray] at hsz
        rw [allRange, List.size_toArray]
        constructor
        · intro z1
          refine congrArg D.lst (ext_all (by omega) fun i x y ex ey => ?_)
          have hi := (List.getElem?_eq_some_iff.mp ex).1
          have := of_decide_eq_true (z1 i (by omega))
          rw [ex, ey] at this
          exact Option.some.inj this
        · intro z
          injection z with z
          subst z
          exact fun i _ => decide_eq_true rfl
      refine ⟨_, hb, ?_, fun a c _ _ => ⟨RcAt.lists pt.isList pt'.isList hsz (by omega) key, RcNeAt.lists pt.isList pt'.isList hsz (by omega) key⟩⟩
      by_cases hpq : p = q
      · subst hpq
        rw [hb.mpr (hasD_inj I hd' _ he')]
        exact EqAt.same _
      · exact EqAt.of_refs hpq (RcAt.lists pt.isList pt'.isList hsz (by omega) key)
    · have hne : (its.toArray.size != its'.toArray.size) = true := by simpa using hsz
      have hb : false = true ↔ D.lst xs = D.lst ys := by
        rw [List.size_toArray, List.size_toArray] at hsz
        constructor
        · intro z; cases z
        · intro z
          injection z with z
          subst z
          omega
      refine ⟨false, hb, ?_, fun a c _ _ => ⟨RcAt.lists_lengths pt.isList pt'.isList hne (by omega), RcNeAt.lists_lengths pt.isList pt'.isList hne (by omega)⟩⟩
      by_cases hpq : p = q
      · subst hpq
        obtain rfl := I.list_inj hq hq'
        rw [List.size_toArray, List.size_toArray] at hsz
        omega
      · exact EqAt.of_refs hpq (RcAt.lists_lengths pt.isList pt'.isList hne (by omega))
theorem op_eqD {n : Nat} (hu : X.A.units + n < cLine) : OpR X (compareOp .Eq) (fun x y H Q => ∃ a b d e, x = .ref a ∧ y = .ref b ∧ HasD X.K H x d ∧ HasD X.K H y e ∧ Alike n d e ∧ ∀ c : Bool, (c = true ↔ d = e) → Q (.bl c) H) := by
  intro pins s σ H x y v u Q I rx ry h
  obtain ⟨a, b, d, e, rfl, rfl, h1, h2, al, q⟩ := h
  cases rx
  cases ry
  obtain ⟨c, hc, _, hr⟩ := eqAt_D al (A := X.A) (x := .ref a) (y := .ref b) (u := .ref a) (v := .ref b) hu I rfl rfl h1 h2
  exact (hr a b rfl rfl).1 _ _ _ _ ⟨.bl c, H, I, rfl, q c hc⟩
theorem op_neD {n : Nat} (hu : X.A.units + n < cLine) : OpR X (compareOp .NotEq) (fun x y H Q => ∃ a b d e, x = .ref a ∧ y = .ref b ∧ HasD X.K H x d ∧ HasD X.K H y e ∧ Alike n d e ∧ ∀ c : Bool, (c = true ↔ d = e) → Q (.bl (!c)) H) := by
  intro pins s σ H x y v u Q I rx ry h
  obtain ⟨a, b, d, e, rfl, rfl, h1, h2, al, q⟩ := h
  cases rx
  cases ry
  obtain ⟨c, hc, _, hr⟩ := eqAt_D al (A := X.A) (x := .ref a) (y := .ref b) (u := .ref a) (v := .ref b) hu I rfl rfl h1 h2
  exact (hr a b rfl rfl).2 _ _ _ _ ⟨.bl (!c), H, I, rfl, q c hc⟩
end
end L2
namespace L2
open PySem PySem.Spec PyProof.Rows
noncomputable def Fn (K : PySem.W.Frag) (mg : Str → Option Value) (x : Str) (st : Stmt) : Prop := ∃ f fd, Fun K x x st f fd ∧ mg x = some (.ref f)
theorem fn_mk {K : PySem.W.Frag} {h : Heap} {mg : Str → Option Value} {x : Str} {st : Stmt} {f : Addr} {oc : Value} {od an : Option Addr} {osl : Array (Option Value)} {kV doc pm cdv ct : Value} (X : K.In h) (G : h.Ns mainGlobals mg)
    (a : PySem.W.nsIn K mainGlobals x = some (some (.ref f))) (l : K.lookup f = some ⟨oc, od, .func (PySem.W.fnOf x x (defArgs st) (defBody st) (defScope st) .none kV doc pm an cdv ct), osl⟩) (c : PySem.W.codeIn K cdv x = true) (k : PySem.W.keepIn K (.ref f) = true) : Fn K mg x st :=
  ⟨f, _, fun_mk l c k, PySem.W.mg_of X G a⟩
structure Cal (P : Program) (w : World) (K : PySem.W.Frag) (mg : Str → Option Value) (base : Heap) (k : Nat) (x : Str) (ps : List Str) (sp : Sp) : Prop where
  ex : ∃ f fd, FnOk P w K mg base CX0 k f fd ps sp ∧ mg x = some (.ref f) ∧ PySem.W.keepIn K (.ref f) = true ∧ Binds K fd ps []
theorem cal_of {P : Program} {w : World} {K : PySem.W.Frag} {mg : Str → Option Value} {base : Heap} {k : Nat} {x : Str} {st : Stmt} {N ps : List Str} {sp : Sp} (F : Fn K mg x st) (S : FnScope N ps (defScope st))
    (hb : ∀ (kV doc pm : Value) (an : Option Addr) (cdv ct : Value) (us : List Value), us.length = ps.length → bindArgs (PySem.W.fnOf x x (defArgs st) (defBody st) (defScope st) .none kV doc pm an cdv ct) ⟨us, []⟩ = pure (ps.zip us)) (len : ∀ vs H Q E, sp vs H Q E → vs.length = ps.length)
    (hbody : ∀ (f : Addr) (cdv : Value) (A : Around) (outer : List Env) (s : Shared) (H : Hp) (vs : List V) (Q : VK) (E : XK), Room k (A.deeper (envOfC x (defScope st) s.heap.objs.size f cdv)) → sp vs H Q E →
      ∃ t, PSs (cxOf CX0 P w K mg base N x (defScope st) f cdv A outer s H E).nox (defBody st) t ∧ t { nx := fun _ H' => Q .non H', rt := Q } (start N vs) H) : Cal P w K mg base (k + 1) x ps sp := by
  obtain ⟨f, fd, F, m⟩ := F
  exact ⟨f, fd, F.ok S len (hbody f), m, F.kp, F.binds hb⟩
section
variable {X : Cx}
theorem pe_fn {k : Nat} {x : Str} {ps : List Str} {sp : Sp} {e : Expr} {es : List Expr} {t : TA} {p pos : Pos} (C : Cal X.prog X.w X.K X.mg X.base k x ps sp) (hr : Room k X.A) (ha : PA X (e :: es) t) (hg : autoParam (Gl X x) L2.aRfl._auto_1)
    (hdb : autoParam ((x == ("__debug__" : Str)) = false) L2.aDec._auto_1) (he : autoParam (starEach (e :: es) X.env = (false, eval e X.env) :: starEach es X.env) L2.aRfl._auto_1) (hpl : autoParam ((backTo pos (starEach es X.env)).any (·.1) = false) L2.aRfl._auto_1) :
    PE X (.Call (.Name x p) (e :: es) [] pos) (tCall sp [] E0 t) := by
  obtain ⟨f, fd, F, m, kp, b⟩ := C.ex
  exact pe_call F hr hg m kp b .nil pass0 ha hdb he hpl
theorem pe_ty {x : Str} {T : String} {pos : Pos} (hm : X.mg x = none) (hv : bootBuiltins x = some (.type T)) (hg : autoParam (Gl X x) L2.aRfl._auto_1) (hn : autoParam (x ≠ "__name__") L2.aDec._auto_1) (hd : autoParam ((x == ("__debug__" : Str)) = false) L2.aDec._auto_1) : PE X (.Name x pos) (tC (.ty T)) :=
  pe_bltn hg hm hv (v := .ty T) rfl hn hd
end
noncomputable def gPair (K : PySem.W.Frag) (i j : Nat) : TG := gTup K 2 (gCons (gName i) (gCons (gName j) gNil))
theorem pg_pair {X : Cx} {K : PySem.W.Frag} {i j : Nat} {x y : Str} {px py pos : Pos} {k : Nat} (hK : X.K = K) (hc : X.calm = true) (hN : X.N.Nodup) (hi : X.N[i]? = some x) (hj : X.N[j]? = some y) (hx : X.env.scope.names.lookup x = some .local) (hy : X.env.scope.names.lookup y = some .local) :
    PG X (.Tuple [.Name x px, .Name y py] k pos) (gPair K i j) := by
  subst hK
  exact pg_tup hc (pgs_cons (pg_name hN hi (.inl hx) (.inr hx)) (pgs_cons (pg_name hN hj (.inl hy) (.inr hy)) pgs_nil))
theorem bt_len : bootBuiltins "len" = some (.builtin "len") := by decide +kernel
theorem bt_sum : bootBuiltins "sum" = some (.builtin "sum") := by decide +kernel
theorem bt_all : bootBuiltins "all" = some (.builtin "all") := by decide +kernel
theorem bt_isinstance : bootBuiltins "isinstance" = some (.builtin "isinstance") := by decide +kernel
theorem bt_min : bootBuiltins "min" = some (.builtin "min") := by decide +kernel
theorem bt_max : bootBuiltins "max" = some (.builtin "max") := by decide +kernel
theorem bt_int : bootBuiltins "int" = some (.type "int") := by decide +kernel
theorem bt_bool : bootBuiltins "bool" = some (.type "bool") := by decide +kernel
theorem bt_tuple : bootBuiltins "tuple" = some (.type "tuple") := by decide +kernel
theorem bt_list : bootBuiltins "list" = some (.type "list") := by decide +kernel
theorem bt_dict : bootBuiltins "dict" = some (.type "dict") := by decide +kernel
theorem bt_enumerate : bootBuiltins "enumerate" = some (.type "enumerate") := by decide +kernel
theorem same_new' {H : Hp} {p : Addr} (h : H p = none) (o : HO) : Same H (upd H p o) := fun b u q => by rw [upd_ne (ne_of_none q h)]; exact q
theorem Same.tup {K : PySem.W.Frag} {H H' : Hp} {a : Addr} {xs : List V} (e : Same H H') (h : SqT K H a xs) : SqT K H' a xs := by
  rcases h with (h | ⟨o, h⟩) | h
  · exact .inl (.inl (e _ _ h))
  · exact .inl (.inr ⟨o, e _ _ h⟩)
  · exact .inr h
theorem sqT_new {K : PySem.W.Frag} {H : Hp} {a : Addr} {xs : List V} (h : H a = some (.tup xs)) : SqT K H a xs := .inl (.inl h)
theorem sqL_new {K : PySem.W.Frag} {H : Hp} {a : Addr} {xs : List V} (h : H a = some (.lst xs)) : SqL K H a xs := .inl (.inl h)
theorem lc_any {J : It} {n : Nat} {τ0 : St} {g : TG} {tt : TT} {te : TE} {H : Hp} {Q : Addr → Hp → Prop} {D : Addr} (Pv : Nat → St → List V → Hp → Prop)
    (h0 : Pv 0 τ0 [] (upd H D (.lst []))) (hD : ∀ i τ ys H, i ≤ n → Pv i τ ys H → H D = some (.lst ys) ∧ ys.length < sizeLine) (go : ∀ i τ ys H, i < n → Pv i τ ys H → J.go i H) (stop : ∀ τ ys H, Pv n τ ys H → J.stop n H)
    (hs : ∀ i τ ys H x H', i < n → Pv i τ ys H → J.yld i H x H' → g x τ H' fun σ2 H2 => tt σ2 H2 fun ok H3 => if ok = true then te σ2 H3 fun v H4 => H4 D = some (.lst ys) ∧ Pv (i + 1) σ2 (ys ++ [v]) (upd H4 D (.lst (ys ++ [v]))) else Pv (i + 1) σ2 ys H3)
    (hd : ∀ τ ys H, Pv n τ ys H → Q D H) :
    LcW J D τ0 H g tt te Q := by
  refine ⟨fun i m τ ys H => m = n - i ∧ i ≤ n ∧ Pv i τ ys H, ⟨n, by simp, Nat.zero_le _, h0⟩, ?_⟩
  rintro i m τ ys H ⟨rfl, hi, p⟩
  obtain ⟨z1, z2⟩ := hD i τ ys H hi p
  refine ⟨z1, ?_⟩
  by_cases hlt : i < n
  · refine .inr ⟨go i τ ys H hlt p, z2, fun τ v H => Pv (i + 1) τ (ys ++ [v]) (upd H D (.lst (ys ++ [v]))), fun τ H => Pv (i + 1) τ ys H, fun τ v H q => ⟨n - (i + 1), by omega, rfl, hlt, q⟩, fun τ H q => ⟨n - (i + 1), by omega, rfl, hlt, q⟩, fun x H' y => hs i τ ys H x H' hlt p y⟩
  · have e : i = n := by omega
    subst e
    exact .inl ⟨stop τ ys H p, hd τ ys H p⟩
end L2
namespace L2
open PySem PySem.Spec PyProof.Rows
section
variable {X : Cx}
theorem ix_tupK {K : PySem.W.Frag} (hK : X.K = K) : IxR X (rIxT K) := by subst hK; exact ix_tup
theorem call_list_ofK {K : PySem.W.Frag} (hK : X.K = K) : CallR X (.type "list") (fun xs H Q => ∃ p ys, xs = [.ref p] ∧ (SqL K H p ys ∨ SqT K H p ys) ∧ ∀ l, H l = none → Q (.ref l) (upd H l (.lst ys))) := by subst hK; exact call_list_of
theorem call_tuple_ofK {K : PySem.W.Frag} (hK : X.K = K) : CallR X (.type "tuple") (fun xs H Q => ∃ p ys, xs = [.ref p] ∧ ((SqL K H p ys ∧ ∀ l, H l = none → Q (.ref l) (upd H l (.tup ys))) ∨ (SqT K H p ys ∧ Q (.ref p) H))) := by subst hK; exact call_tuple_of
end
end L2
namespace Nb
open PySem L2
structure Mg (mg : Str → Option Value) : Prop where
  len : mg "len" = none
  min : mg "min" = none
  max : mg "max" = none
  sum : mg "sum" = none
  all : mg "all" = none
  any : mg "any" = none
  abs : mg "abs" = none
  isinstance : mg "isinstance" = none
  sorted : mg "sorted" = none
  range_ : mg "range" = none
  zip_ : mg "zip" = none
  tuple_ : mg "tuple" = none
  list_ : mg "list" = none
  int_ : mg "int" = none
  bool_ : mg "bool" = none
  dict_ : mg "dict" = none
  enumerate_ : mg "enumerate" = none
  reversed_ : mg "reversed" = none
  ValueError_ : mg "ValueError" = none
  set_ : mg "set" = none
  str_ : mg "str" = none
theorem atNs {ns : List Int} {k : Int} (h0 : 0 ≤ k) (h : k < (((ns.map V.int).length : Nat) : Int)) : ∃ v : Int, atI (ns.map V.int) k = some (.int v) := by
  have hk : k.toNat < ns.length := by rw [List.length_map] at h; omega
  have ek : k = ((k.toNat : Nat) : Int) := by omega
  have q : atI (ns.map V.int) ((k.toNat : Nat) : Int) = some (.int ns[k.toNat]) := atI_nat (by rw [List.getElem?_map, List.getElem?_eq_getElem hk] <;> rfl)
  rw [← ek] at q
  exact ⟨_, q⟩
noncomputable def spCell (K : PySem.W.Frag) : Sp := fun vs H Q _ => ∃ (a : Addr) (ns : List Int) (k : Int), vs = [.ref a, .int k] ∧ SqL K H a (ns.map V.int) ∧ 0 ≤ k ∧ ∀ z : Int, Q (.int z) H
noncomputable def spWhole : Sp := fun vs H Q _ => ∃ z : Int, vs = [.int z] ∧ Q (.bl true) H
theorem SqT_upd {K : PySem.W.Frag} {H : Hp} {D a : Addr} {ys zs xs : List V} (hD : H D = some (.lst ys)) (h : SqT K H a xs) : SqT K (upd H D (.lst zs)) a xs := by
  rcases h with (h | ⟨o, h⟩) | h
  · exact .inl (.inl (by rw [upd_ne (ne_of h hD (by intro z; cases z))]; exact h))
  · exact .inl (.inr ⟨o, by rw [upd_ne (ne_of h hD (by intro z; cases z))]; exact h⟩)
  · exact .inr h
noncomputable def RowAt (K : PySem.W.Frag) (H : Hp) (t : Addr) (r : List Int × Int) : Prop := ∃ p, SqT K H t [.ref p, .int r.2] ∧ SqT K H p (r.1.map V.int)
theorem RowAt.same {K : PySem.W.Frag} {H H' : Hp} {t : Addr} {r : List Int × Int} (e : Same H H') (h : RowAt K H t r) : RowAt K H' t r := let ⟨p, h1, h2⟩ := h; ⟨p, e.tup h1, e.tup h2⟩
theorem RowAt.upd {K : PySem.W.Frag} {H : Hp} {D t : Addr} {ys zs : List V} {r : List Int × Int} (hD : H D = some (.lst ys)) (h : RowAt K H t r) : RowAt K (upd H D (.lst zs)) t r := let ⟨p, h1, h2⟩ := h; ⟨p, SqT_upd hD h1, SqT_upd hD h2⟩
noncomputable def RowsAre (K : PySem.W.Frag) (H : Hp) : List V → List (List Int × Int) → Prop := Paired fun v r => ∃ t, v = .ref t ∧ RowAt K H t r
theorem RowsAre.imp {K : PySem.W.Frag} {H H' : Hp} {vs : List V} {rs : List (List Int × Int)} (f : ∀ t r, RowAt K H t r → RowAt K H' t r) (h : RowsAre K H vs rs) : RowsAre K H' vs rs := by
  induction h with
  | nil => exact .nil
  | cons r t ih => obtain ⟨a, e, z⟩ := r; exact .cons ⟨a, e, f _ _ z⟩ ih
theorem RowsAre.snoc {K : PySem.W.Frag} {H : Hp} {vs : List V} {rs : List (List Int × Int)} {t : Addr} {r : List Int × Int} (h : RowsAre K H vs rs) (z : RowAt K H t r) : RowsAre K H (vs ++ [.ref t]) (rs ++ [r]) := by
  induction h with
  | nil => exact .cons ⟨t, rfl, z⟩ .nil
  | cons q t ih => exact .cons q ih
theorem RowsAre.get {K : PySem.W.Frag} {H : Hp} {vs : List V} {rs : List (List Int × Int)} (h : RowsAre K H vs rs) : ∀ {i : Nat} {v : V}, vs[i]? = some v → ∃ t r, v = .ref t ∧ rs[i]? = some r ∧ RowAt K H t r := by
  induction h with
  | nil => intro i v e; simp at e
  | cons q t ih =>
    intro i v e
    cases i with
    | zero => obtain ⟨a, e1, z⟩ := q; simp at e; subst e; exact ⟨a, _, e1, rfl, z⟩
    | succ i => obtain ⟨a, r, e1, e2, z⟩ := ih (i := i) (v := v) (by simpa using e); exact ⟨a, r, e1, by simpa using e2, z⟩
theorem RowsAre.length {K : PySem.W.Frag} {H : Hp} {vs : List V} {rs : List (List Int × Int)} (h : RowsAre K H vs rs) : vs.length = rs.length := Paired.length h
noncomputable def ProbAt (K : PySem.W.Frag) (H : Hp) (t : Addr) (rs : List (List Int × Int)) (cs : List Int) : Prop := ∃ l c vs, SqT K H t [.ref l, .ref c] ∧ SqL K H l vs ∧ RowsAre K H vs rs ∧ SqT K H c (cs.map V.int)
theorem ProbAt.same {K : PySem.W.Frag} {H H' : Hp} {t : Addr} {rs : List (List Int × Int)} {cs : List Int} (e : Same H H') (h : ProbAt K H t rs cs) : ProbAt K H' t rs cs :=
  let ⟨l, c, vs, h1, h2, h3, h4⟩ := h; ⟨l, c, vs, e.tup h1, e.seq h2, h3.imp fun _ _ z => z.same e, e.tup h4⟩
theorem at0 {x y : V} : atI [x, y] 0 = some x := by rfl
theorem at1 {x y : V} : atI [x, y] 1 = some y := by rfl
noncomputable def dot (ns ms : List Int) : Int := (List.zipWith (· * ·) ns ms).sum
noncomputable def keepB (ms : List Int) (r : List Int × Int) : Bool := decide (r.2 ≤ dot r.1 ms)
theorem takeS {α : Type} {l : List α} {i : Nat} {x : α} (h : l[i]? = some x) : l.take (i + 1) = l.take i ++ [x] := by rw [List.take_succ, h]; rfl
theorem getMapI {ns : List Int} {i : Nat} {v : V} (h : (ns.map V.int)[i]? = some v) : ∃ n, ns[i]? = some n ∧ v = .int n := by
  rw [List.getElem?_map] at h
  cases e : ns[i]? with
  | none => rw [e] at h; cases h
  | some n => rw [e] at h; exact ⟨n, rfl, (Option.some.inj h).symm⟩
theorem getZip {ns ms : List Int} {i : Nat} {n m : Int} (h1 : ns[i]? = some n) (h2 : ms[i]? = some m) : (List.zipWith (· * ·) ns ms)[i]? = some (n * m) := by
  rw [List.getElem?_zipWith, h1, h2]
theorem memI {ms : List Int} {i : Nat} {m : Int} (h : ms[i]? = some m) : m ∈ ms := List.mem_of_getElem? h
noncomputable def spWeighed (K : PySem.W.Frag) : Sp := fun vs H Q _ => ∃ (a b : Addr) (ns ms : List Int), vs = [.ref a, .ref b] ∧ SqT K H a (ns.map V.int) ∧ SqT K H b (ms.map V.int) ∧ ns.length ≤ 1000 ∧ (∀ m ∈ ms, m = 0 ∨ m = 1) ∧ ∀ H', Same H H' → Q (.int (dot ns ms)) H'
noncomputable def spCost (K : PySem.W.Frag) : Sp := fun vs H Q _ => ∃ (t b : Addr) (rs : List (List Int × Int)) (cs ms : List Int), vs = [.ref t, .ref b] ∧ ProbAt K H t rs cs ∧ SqT K H b (ms.map V.int) ∧ cs.length ≤ 1000 ∧ (∀ m ∈ ms, m = 0 ∨ m = 1) ∧ ∀ H', Same H H' → Q (.int (dot cs ms)) H'
noncomputable def rowD (r : List Int × Int) : D := .tup [.tup (r.1.map .int), .int r.2]
noncomputable def probD (rs : List (List Int × Int)) (cs : List Int) : D := .tup [.lst (rs.map rowD), .tup (cs.map .int)]
theorem intsD {K : PySem.W.Frag} {H : Hp} {a : Addr} {ns : List Int} (h : SqT K H a (ns.map V.int)) : HasD K H (.ref a) (.tup (ns.map .int)) := by
  refine .tup h (by rw [List.length_map, List.length_map]) fun i v x e1 e2 => ?_
  obtain ⟨n, en, rfl⟩ := getMapI e1
  rw [List.getElem?_map, en] at e2
  cases e2
  exact .int n
theorem pairD {K : PySem.W.Frag} {H : Hp} {a : Addr} {v w : V} {d e : D} (h : SqT K H a [v, w]) (h1 : HasD K H v d) (h2 : HasD K H w e) : HasD K H (.ref a) (.tup [d, e]) := by
  refine .tup h rfl fun i v x e1 e2 => ?_
  match i with
  | 0 => simp at e1 e2; subst e1 e2; exact h1
  | 1 => simp at e1 e2; subst e1 e2; exact h2
  | i + 2 => simp at e1
theorem RowAt.hasD {K : PySem.W.Frag} {H : Hp} {t : Addr} {r : List Int × Int} (h : RowAt K H t r) : HasD K H (.ref t) (rowD r) := by
  obtain ⟨p, h1, h2⟩ := h
  exact pairD h1 (intsD h2) (.int _)
theorem RowsAre.hasD {K : PySem.W.Frag} {H : Hp} {l : Addr} {vs : List V} {rs : List (List Int × Int)} (hl : SqL K H l vs) (h : RowsAre K H vs rs) : HasD K H (.ref l) (.lst (rs.map rowD)) := by
  refine .lst hl (by rw [List.length_map]; exact h.length) fun i v x e1 e2 => ?_
  obtain ⟨t, r, rfl, er, hr⟩ := h.get e1
  rw [List.getElem?_map, er] at e2
  cases e2
  exact hr.hasD
theorem ProbAt.hasD {K : PySem.W.Frag} {H : Hp} {t : Addr} {rs : List (List Int × Int)} {cs : List Int} (h : ProbAt K H t rs cs) : HasD K H (.ref t) (probD rs cs) := by
  obtain ⟨l, c, vs, h1, h2, h3, h4⟩ := h
  exact pairD h1 (RowsAre.hasD h2 h3) (intsD h4)
theorem alikeInts {n : Nat} (ns ms : List Int) : Alike (n + 1) (.tup (ns.map .int)) (.tup (ms.map .int)) := by
  refine .tup fun i x y e1 e2 => ?_
  rw [List.getElem?_map] at e1 e2
  obtain ⟨a, _, rfl⟩ := Option.map_eq_some_iff.mp e1
  obtain ⟨b, _, rfl⟩ := Option.map_eq_some_iff.mp e2
  exact .int a b
theorem alikePair {n : Nat} {a b c d : D} (h1 : Alike n a c) (h2 : Alike n b d) : Alike (n + 1) (.tup [a, b]) (.tup [c, d]) := by
  refine .tup fun i x y e1 e2 => ?_
  match i with
  | 0 => simp at e1 e2; subst e1 e2; exact h1
  | 1 => simp at e1 e2; subst e1 e2; exact h2
  | i + 2 => simp at e1
theorem alikeRow {n : Nat} (r r' : List Int × Int) : Alike (n + 2) (rowD r) (rowD r') := alikePair (alikeInts _ _) (.int _ _)
theorem alikeRows {n : Nat} (rs rs' : List (List Int × Int)) : Alike (n + 3) (.lst (rs.map rowD)) (.lst (rs'.map rowD)) := by
  refine .lst fun i x y e1 e2 => ?_
  rw [List.getElem?_map] at e1 e2
  obtain ⟨a, _, rfl⟩ := Option.map_eq_some_iff.mp e1
  obtain ⟨b, _, rfl⟩ := Option.map_eq_some_iff.mp e2
  exact alikeRow a b
theorem alikeProb {n : Nat} (rs rs' : List (List Int × Int)) (cs cs' : List Int) : Alike (n + 4) (probD rs cs) (probD rs' cs') := alikePair (alikeRows rs rs') (alikeInts _ _)
theorem atNat {α : Type} {xs : List α} {k : Nat} {x : α} (h : xs[k]? = some x) : atI xs (k : Int) = some x := atI_nat h
noncomputable def spLaw (K : PySem.W.Frag) : Sp := fun vs H Q _ => ∃ (a : Addr) (ns : List Int), vs = [.ref a] ∧ SqL K H a (ns.map V.int) ∧ ns.length ≤ 63 ∧ ∀ H', Q (.bl true) H'
end Nb
namespace L2
open PySem PySem.Spec PyProof.Rows
end L2
namespace L2
open PySem PySem.Spec PyProof.Rows
section
variable (P : Program) (w : World)
end
section
variable {P : Program} {w : World} {H H' : Hp} {h h' : Heap} {a : Addr} {o : HO}
end
section
variable {P : Program} {w : World} {H : Hp} {h h' : Heap} {x e : Addr} {o' : HO}
end
section
variable {fs fs' ex ex' : List Addr} {H H1 H2 : Hp} {h h1 h2 h' : Heap} {a x e : Addr} {o : HO}
end
end L2
namespace L2
open PySem PySem.Spec PyProof.Rows
section
variable {X : Cx} {pins : List (Addr × Obj)} {σ : List (Option V)} {H H' : Hp} {s : Shared} {h' : Heap}
end
end L2
namespace L2
open PySem PySem.Spec PyProof.Rows
section
variable {X : Cx}
variable {a b : Expr} {ta tb : TE} {pos : Pos}
variable {tA tB' : TT} {rest : List Expr}
end
end L2
namespace L2
open PySem PySem.Spec PyProof.Rows
section
variable {X : Cx} {pins : List (Addr × Obj)} {σ : St} {H : Hp} {s : Shared} {a : Addr} {xs ys : List V}
end
section
variable {X : Cx} {pins : List (Addr × Obj)} {σ : St} {H : Hp} {s : Shared} {E : Value → Shared → Prop}
end
section
variable {X : Cx} {st : Stmt} {rest : List Stmt} {t u : TS} {e : Expr} {te : TE} {pos : Pos}
end
section
variable {X : Cx} {pos : Pos}
end
section
variable {X : Cx} {pos : Pos}
end
end L2
namespace L2
open PySem PySem.Spec PyProof.Rows
section
variable {X : Cx} {tg : Expr}
end
end L2
namespace L2
open PySem PySem.Spec PyProof.Rows
section
variable {X : Cx} {a b c : Expr} {ta tb tc : TE} {pos : Pos}
end
section
variable {X : Cx} {a b c : Expr} {ta tb tc : TE} {pos : Pos}
end
end L2
namespace L2
open PySem PySem.Spec PyProof.Rows
section
variable {prog : Program} {w : World} {A : Around} {E : Value → Shared → Prop} {s : Shared} {K : PySem.W.Frag} {x dx C f : Addr} {mA : Str → Option Value} {name : Str} {v : Value}
end
section
variable {P : Program} {w : World} {H H' : Hp} {h h' : Heap} {a C dx : Addr} {fs fs' : List (Str × V)}
end
section
variable {X : Cx} {pins : List (Addr × Obj)} {σ : St} {H : Hp} {s : Shared} {a C dx : Addr} {fs : List (Str × V)} {f : Str} {v : V} {A : Around} {E : Value → Shared → Prop}
end
section
variable {X : Cx} {o e value : Expr} {f : Str} {pos pos' tpos : Pos} {ta tv : TE}
end
section
variable {X : Cx} {pins : List (Addr × Obj)} {σ : St} {H : Hp} {s : Shared} {A : Around} {E : Value → Shared → Prop} {Q : Value → Shared → Prop} {c : Value} {b : Bool}
end
end L2
namespace L2
open PySem PySem.Spec PyProof.Rows
section
variable {X : Cx} {e : Expr} {es : List Expr} {te : TE} {t : TA} {pos : Pos}
end
section
variable {X : Cx} {pins : List (Addr × Obj)} {σ : St} {H : Hp} {s s' : Shared}
end
section
variable {X : Cx} {CX : CXT} {k : Nat} {f C : Addr} {fd : FuncData} {ps : List Str} {sp : Sp} {dvs : List V} {ds : List Value} {E : XK} {x m : Str} {p pos apos : Pos} {e o : Expr} {es : List Expr} {ta : TE} {t : TA}
end
section
variable {X : Cx} {CX : CXT} {k : Nat} {f C : Addr} {fd : FuncData} {ps ks : List Str} {sp : Sp} {E : XK} {x m : Str} {p pos apos kpos : Pos} {e o : Expr} {es : List Expr} {kws : List Keyword} {te ta : TE} {t tk : TA} {nm : Option Str}
variable {g : List Value → List Value → List Value} {gV : List V → List V → List V}
end
end L2
namespace L2
open PySem PySem.Spec PyProof.Rows
section
variable {X : Cx} {x : Str} {p pos : Pos} {e : Expr} {es : List Expr} {t : TA} {id T : String} {r : List V → Hp → VK → Prop}
end
end L2
namespace L2
open PySem PySem.Spec PyProof.Rows
section
variable {κ : Type} [DecidableEq κ]
noncomputable def valV (kvs : List (κ × V)) (k : κ) : Option V := (kvs.find? fun kv => decide (kv.1 = k)).map (·.2)
noncomputable def putK (kvs : List (κ × V)) (k : κ) (v : V) : List (κ × V) :=
  if (kvs.any fun kv => decide (kv.1 = k)) = true then kvs.map (fun kv => if kv.1 = k then (kv.1, v) else kv) else kvs ++ [(k, v)]
theorem valV_pos {p : κ × V} {r : List (κ × V)} {k : κ} (e : p.1 = k) : valV (p :: r) k = some p.2 := by simp [valV, List.find?_cons, e]
theorem valV_neg {p : κ × V} {r : List (κ × V)} {k : κ} (e : ¬ p.1 = k) : valV (p :: r) k = valV r k := by simp [valV, List.find?_cons, e]
theorem valV_any (k : κ) : ∀ kvs : List (κ × V), (kvs.any fun kv => decide (kv.1 = k)) = (valV kvs k).isSome
  | [] => rfl
  | p :: r => by
    rw [List.any_cons]
    by_cases e : p.1 = k
    · simp only [valV_pos e, decide_eq_true e, Bool.true_or, Option.isSome_some]
    · rw [valV_neg e, decide_eq_false e, Bool.false_or]; exact valV_any k r
theorem valV_map (k j : κ) (y : V) : ∀ kvs : List (κ × V), valV (kvs.map fun kv => if kv.1 = k then (kv.1, y) else kv) j = (valV kvs j).map fun x => if j = k then y else x
  | [] => rfl
  | p :: r => by
    have ih := valV_map k j y r
    rw [List.map_cons]
    by_cases h : p.1 = k
    · rw [if_pos h]
      by_cases e : p.1 = j
      · rw [valV_pos (p := (p.1, y)) e, valV_pos e, Option.map_some, if_pos (e.symm.trans h)]
      · rw [valV_neg (p := (p.1, y)) e, valV_neg e, ih]
    · rw [if_neg h]
      by_cases e : p.1 = j
      · rw [valV_pos (p := p) e, valV_pos e, Option.map_some, if_neg (fun z => h (e.trans z))]
      · rw [valV_neg (p := p) e, valV_neg e, ih]
theorem valV_snoc (k j : κ) (y : V) : ∀ kvs : List (κ × V), valV kvs k = none → valV (kvs ++ [(k, y)]) j = if j = k then some y else valV kvs j
  | [], _ => by
    by_cases e : k = j
    · rw [if_pos e.symm]; exact valV_pos (p := (k, y)) e
    · rw [if_neg (fun z => e z.symm)]; exact valV_neg (p := (k, y)) e
  | p :: r, hn => by
    rw [List.cons_append]
    have hk : ¬ p.1 = k := fun z => by rw [valV_pos z] at hn; cases hn
    rw [valV_neg hk] at hn
    have ih := valV_snoc k j y r hn
    by_cases e : p.1 = j
    · rw [valV_pos e, valV_pos e, if_neg (fun z => hk (e.trans z))]
    · rw [valV_neg e, valV_neg e, ih]
theorem valV_put (kvs : List (κ × V)) (k j : κ) (y : V) : valV (putK kvs k y) j = if j = k then some y else valV kvs j := by
  unfold putK
  by_cases a : (kvs.any fun kv => decide (kv.1 = k)) = true
  · rw [if_pos a, valV_map]
    rw [valV_any] at a
    by_cases e : j = k
    · obtain ⟨x, hx⟩ := Option.isSome_iff_exists.mp a
      rw [if_pos e, e, hx, Option.map_some, if_pos rfl]
    · rw [if_neg e]
      cases valV kvs j with
      | none => rfl
      | some x => rw [Option.map_some, if_neg e]
  · rw [if_neg a]
    refine valV_snoc k j y kvs ?_
    rw [valV_any] at a
    cases q : valV kvs k with
    | none => rfl
    | some x => rw [q] at a; exact (a rfl).elim
theorem length_putK (kvs : List (κ × V)) (k : κ) (v : V) : (putK kvs k v).length ≤ kvs.length + 1 := by
  unfold putK
  split
  · rw [List.length_map]; omega
  · rw [List.length_append, List.length_cons, List.length_nil]; omega
theorem RelO.getD {o : Option V} {u : Option Value} {d : V} {d' : Value} (r : RelO o u) (rd : RelV d d') : RelV (o.getD d) (u.getD d') := by
  cases o with
  | none => cases u with
    | none => exact rd
    | some _ => exact (show False from r).elim
  | some _ => cases u with
    | none => exact (show False from r).elim
    | some _ => exact r
theorem KV.val {kvs : List (κ × V)} {vs : List (κ × Value)} (r : KV kvs vs) (k : κ) : RelO (valV kvs k) (valueAt vs k) := by
  unfold KV at r
  induction r with
  | nil => exact True.intro
  | @cons p q ps qs h t ih =>
    obtain ⟨h1, h2⟩ := h
    by_cases e : p.1 = k
    · have e' : q.1 = k := h1.symm.trans e
      have b : valueAt (q :: qs) k = some q.2 := by simp [valueAt, List.find?_cons, e']
      rw [valV_pos e, b]; exact h2
    · have e' : ¬ q.1 = k := fun z => e (h1.trans z)
      have b : valueAt (q :: qs) k = valueAt qs k := by simp [valueAt, List.find?_cons, e']
      rw [valV_neg e, b]; exact ih
theorem KV.any {kvs : List (κ × V)} {vs : List (κ × Value)} (r : KV kvs vs) (k : κ) : (kvs.any fun kv => decide (kv.1 = k)) = vs.any fun kv => decide (kv.1 = k) := by
  unfold KV at r
  induction r with
  | nil => rfl
  | cons h t ih => rw [List.any_cons, List.any_cons, ih, h.1]
theorem KV.repl {kvs : List (κ × V)} {vs : List (κ × Value)} (r : KV kvs vs) (k : κ) {y : V} {u : Value} (ry : RelV y u) :
    KV (kvs.map fun kv => if kv.1 = k then (kv.1, y) else kv) (vs.map fun kv => if kv.1 = k then (kv.1, u) else kv) := by
  unfold KV at r ⊢
  induction r with
  | nil => exact .nil
  | @cons p q ps qs h t ih =>
    rw [List.map_cons, List.map_cons]
    refine .cons ?_ ih
    obtain ⟨h1, h2⟩ := h
    by_cases e : p.1 = k
    · rw [if_pos e, if_pos (h1.symm.trans e)]; exact ⟨h1, ry⟩
    · rw [if_neg e, if_neg (fun z => e (h1.trans z))]; exact ⟨h1, h2⟩
theorem KV.put {kvs : List (κ × V)} {vs : List (κ × Value)} (r : KV kvs vs) (k : κ) {y : V} {u : Value} (ry : RelV y u) : KV (putK kvs k y) (stored vs k u) := by
  unfold putK stored
  rw [r.any k]
  by_cases e : (vs.any fun kv => decide (kv.1 = k)) = true
  · rw [if_pos e, if_pos e]; exact r.repl k ry
  · rw [if_neg e, if_neg e]; exact Paired.snoc r ⟨rfl, ry⟩
theorem KV.length {kvs : List (κ × V)} {vs : List (κ × Value)} (r : KV kvs vs) : kvs.length = vs.length := Paired.length r
end
theorem kV_is {P : Program} {w : World} {k : Key} {u : Value} (r : RelV (kV k) u) : (mixKind P w).is k u = true := by
  cases k with
  | inl i => obtain ⟨t, e⟩ := (show ∃ t, u = Value.int i t from r); subst e; exact mixKind_int P w i t
  | inr x => obtain ⟨t, e⟩ := (show ∃ t, u = Value.str x t from r); subst e; exact mixKind_str P w x t
theorem items_are {P : Program} {w : World} : ∀ {ks : List Key} {us : List Value}, Vals (ks.map kV) us → ItemsAre (mixKind P w) ks us
  | [], _, r => by rw [List.map_nil] at r; cases r; exact .nil
  | k :: ks, _, r => by
    rw [List.map_cons] at r
    cases r with
    | cons h t => exact .cons (kV_is h) (items_are t)
noncomputable abbrev KT (H : Hp) : List (List Key × V) → List (List Key × Addr × Value) → Prop := Paired fun p q => p.1 = q.1 ∧ H q.2.1 = some (.tup (p.1.map kV)) ∧ RelV p.2 q.2.2
theorem KT.val {H : Hp} {kvs : List (List Key × V)} {xs : List (List Key × Addr × Value)} (r : KT H kvs xs) (k : List Key) : RelO (valV kvs k) ((atKey xs k).map (·.2)) := by
  induction r with
  | nil => exact True.intro
  | @cons p q ps qs h t ih =>
    obtain ⟨h1, _, h2⟩ := h
    by_cases e : p.1 = k
    · have e' : q.1 = k := h1.symm.trans e
      have b : atKey (q :: qs) k = some q.2 := by simp [atKey, List.find?_cons, e']
      rw [valV_pos e, b]; exact h2
    · have e' : ¬ q.1 = k := fun z => e (h1.trans z)
      have b : atKey (q :: qs) k = atKey qs k := by simp [atKey, List.find?_cons, e']
      rw [valV_neg e, b]; exact ih
section
variable {P : Program} {w : World} {H : Hp} {h : Heap} {a : Addr}
theorem rd_of {u : HO} (ok : HOk P w H h) (e : Rd H a u) : ObjOk P w H h a u := e.ok ok
theorem dk_rd {kvs : List (Key × V)} (ok : HOk P w H h) (e : Rd H a (.dK kvs)) : kvs.length ≤ sizeLine ∧ (a == sysModules) = false ∧ ∃ vs, KV kvs vs ∧ h.DictOf (mixKind P w) a vs :=
  show ObjOk P w H h a (.dK kvs) from rd_of ok e
theorem dk_of {kvs : List (Key × V)} (ok : HOk P w H h) (e : H a = some (.dK kvs)) : kvs.length ≤ sizeLine ∧ (a == sysModules) = false ∧ ∃ vs, KV kvs vs ∧ h.DictOf (mixKind P w) a vs := dk_rd ok (.inl e)
theorem key_of {ks : List Key} (ok : HOk P w H h) (e : H a = some (.tup (ks.map kV))) : (tupleKind (mixKind P w)).is h ks a := by
  obtain ⟨_, its, r, o, h1, h2, n, h3⟩ := (show ObjOk P w H h a (.tup (ks.map kV)) from ok a _ e)
  exact ⟨o, its.toArray, n, h1, h2, h3, by simpa using items_are r⟩
theorem dt_rd {kvs : List (List Key × V)} (ok : HOk P w H h) (e : Rd H a (.dT kvs)) : kvs.length ≤ sizeLine ∧ (a == sysModules) = false ∧
    ∃ xs, KT H kvs xs ∧ h.DictOfH (tupleKind (mixKind P w)) a xs := by
  obtain ⟨z, y, xs, r, o, es, ep, h1, h2, h3, h4, h5⟩ := (show ObjOk P w H h a (.dT kvs) from rd_of ok e)
  refine ⟨z, y, xs, r, o, es, ep, h1, h2, h3, h4, fun x hx => ?_, h5⟩
  have all : ∀ {l : List (List Key × V)} {m : List (List Key × Addr × Value)}, KT H l m → ∀ x ∈ m, (tupleKind (mixKind P w)).is h x.1 x.2.1 := by
    intro l m q
    induction q with
    | nil => intro x hx; exact nomatch hx
    | @cons p q ps qs hq t ih =>
      intro x hx
      rcases List.mem_cons.mp hx with e | hx
      · subst e
        exact key_of ok (by rw [← hq.1]; exact hq.2.1)
      · exact ih x hx
  exact all r x hx
end
noncomputable def DGet (H : Hp) (a : Addr) (y : V) (r : Option V) : Prop :=
  (∃ kvs k, Rd H a (.dK kvs) ∧ y = kV k ∧ r = valV kvs k) ∨ ∃ kvs k b, Rd H a (.dT kvs) ∧ y = .ref b ∧ H b = some (.tup (k.map kV)) ∧ r = valV kvs k
theorem DGet.k {H : Hp} {a : Addr} {kvs : List (Key × V)} {k : Key} (e : H a = some (.dK kvs)) : DGet H a (kV k) (valV kvs k) := .inl ⟨kvs, k, .inl e, rfl, rfl⟩
section
variable {X : Cx} {pins : List (Addr × Obj)} {σ : St} {H : Hp} {s : Shared} {a : Addr} {y v : V} {u r : Value} {o : Option V} {A : Around} {E : Value → Shared → Prop}
theorem Inv.big (I : Inv X pins σ H s) : sysModules < s.heap.objs.size := by
  have h : mainGlobals < s.heap.objs.size := (I.mod.glob.keeps I.bk).lt
  exact Nat.lt_trans (by decide) h
theorem d_write {h' : Heap} {t' : Nat} {ob : HO} (I : Inv X pins σ H s) (mu : Mut (H a)) (hs : Heap.SameBut a s.heap h') (he : ∃ q, h'.get? a = some q) (new : ObjOk X.prog X.w (upd H a ob) h' a ob) :
    Inv X pins σ (upd H a ob) { s with heap := h', toks := t' } :=
  I.write (x := a) (e := a) mu (.inl rfl) (fun b q hb z => (hs.2 b hb).trans z) he new
theorem dk_new {P : Program} {w : World} {H' : Hp} {h' : Heap} {kvs : List (Key × V)} {vs : List (Key × Value)} (z : kvs.length ≤ sizeLine) (hd : (a == sysModules) = false) (rel : KV kvs vs) (dd : h'.DictOf (mixKind P w) a vs) :
    ObjOk P w H' h' a (.dK kvs) := ⟨z, hd, vs, rel, dd⟩
end
section
variable {X : Cx} {pins : List (Addr × Obj)} {σ : St} {H : Hp} {s : Shared} {a : Addr} {kvs : List (Key × V)} {k : Key} {u : Value} {A : Around} {E : Value → Shared → Prop}
end
section
variable {X : Cx} {o i e value : Expr} {pos pos' tpos : Pos} {td ty tv : TE}
end
theorem dk_empty {P : Program} {w : World} {H : Hp} (h : Heap) (hb : sysModules < h.objs.size) : ObjOk P w H (h.push { cls := .type "dict", data := .dict #[] }) h.objs.size (.dK []) :=
  ⟨Nat.zero_le _, beq_eq_false_iff_ne.mpr (Ne.symm (Nat.ne_of_lt hb)), [], .nil, Heap.DictOf.new h⟩
section
variable {X : Cx} {pos : Pos}
end
structure M1 (X : Cx) (o : Expr) (m : Str) (apos : Pos) (e : Expr) (cpos : Pos) : Prop where
  base : attributeBase o m X.env (eval o X.env) = eval o X.env
  few : ((backTo cpos (starEach [e] X.env)).all (fun x => !x.1) && (backToKw cpos (keywordEach [] X.env)).all (fun x => x.1.isSome)
    && decide (([e] : List Expr).length + ([] : List Keyword).length + (if ([] : List Keyword).isEmpty then 0 else 1) < 30)) = true
  line : (apos.endLine == cpos.line) = true
  trees : backTo cpos (starEach [e] X.env) = [(false, eval e X.env)]
noncomputable def IsD (H : Hp) (a : Addr) : Prop := (∃ kvs, Rd H a (.dK kvs)) ∨ ∃ kvs, Rd H a (.dT kvs)
theorem isD_at {X : Cx} {pins : List (Addr × Obj)} {σ : St} {H : Hp} {s : Shared} {a : Addr} (I : Inv X pins σ H s) (d : IsD H a) :
    s.TypeIs (.ref a) "dict" ∧ (∀ b, Value.ref a = .ref b → ∃ ob, s.heap.get? b = some ob ∧ ob.dict = none) ∧ (a == sysModules) = false := by
  rcases d with ⟨kvs, e⟩ | ⟨kvs, e⟩
  · obtain ⟨_, hd, vs, _, dd⟩ := dk_rd I.hok e
    refine ⟨dd.typeIs, fun b q => ?_, hd⟩
    cases q
    obtain ⟨ob, _, _, h1, h2, _⟩ := dd
    exact ⟨ob, h1, h2.2.1⟩
  · obtain ⟨_, hd, xs, _, dd⟩ := dt_rd I.hok e
    refine ⟨dd.typeIs, fun b q => ?_, hd⟩
    cases q
    obtain ⟨ob, _, _, h1, h2, _⟩ := dd
    exact ⟨ob, h1, h2.2.1⟩
section
variable {X : Cx} {pins : List (Addr × Obj)} {σ : St} {H : Hp} {s : Shared} {a : Addr} {y d : V} {u r : Value} {o : Option V} {A : Around} {E : Value → Shared → Prop}
theorem d_get1 {Q : Value → Shared → Prop} (hu : A.units + 1 < cLine) (I : Inv X pins σ H s) (g : DGet H a y o) (ry : RelV y u) (h : ∀ w' s', Inv X pins σ H s' → RelV (o.getD .non) w' → Q w' s') :
    wpAny (model X.prog X.w) A (call (.builtin "dict.get") [.ref a, u]) Q E s := by
  rcases g with ⟨kvs, k, e, ey, l⟩ | ⟨kvs, k, b, e, ey, eb, l⟩
  · subst ey
    obtain ⟨z, hd, vs, rel, dd⟩ := dk_rd I.hok e
    refine call_meetsIn PySem.F.slot_dict_get dd.typeIs PySem.F.entry_dict_get (PySem.F.args_dict_get_2 _ _) (meets_dict_get (mixKind X.prog X.w) a (kV_is ry) hd) ⟨_, dd.mapOf, h _ _ (I.tok _) ?_⟩
    rw [l]
    exact (rel.val k).getD rfl
  · subst ey
    cases (show u = Value.ref b from ry)
    obtain ⟨z, hd, xs, rel, dd⟩ := dt_rd I.hok e
    refine call_meetsIn PySem.F.slot_dict_get dd.typeIs PySem.F.entry_dict_get (PySem.F.args_dict_get_2 _ _) (meetsH_dict_get (tupleKind (mixKind X.prog X.w)) a b hd) ⟨tupleKind_room_in1 hu, k, xs, key_of I.hok eb, dd, h _ _ (I.tok _) ?_⟩
    rw [l]
    exact (rel.val k).getD rfl
end
noncomputable def tDGet1 (td ty : TE) : TE := fun σ H Q => td σ H fun x H1 => ∃ a, x = .ref a ∧ IsD H1 a ∧ ty σ H1 fun y H2 => ∃ o, DGet H2 a y o ∧ Q (o.getD .non) H2
section
variable {X : Cx} {o e f : Expr} {apos cpos : Pos} {td ty tx : TE}
theorem pe_dget1 (hu : X.A.units + 1 < cLine) (ho : PE X o td) (he : PE X e ty) (m : M1 X o "get" apos e cpos) : PE X (.Call (.Attribute o "get" apos) [e] [] cpos) (tDGet1 td ty) := by
  intro pins s σ H Q I h
  refine wpAny_Call_method m.base m.few m.line PySem.F.plainAttrs_dict PySem.F.slot_dict_get PySem.F.type_dict_get (thn (ho pins s σ H _ I h) fun u s1 ⟨x, H1, I1, rx, a, ex, d, q1⟩ => ?_)
  subst ex
  obtain rfl : u = Value.ref a := rx
  obtain ⟨t1, t2, _⟩ := isD_at I1 d
  refine ⟨t1, t2, ?_⟩
  rw [m.trees]
  refine Calls.callWith_builtin rfl (Calls.evalArgs_plain (Calls.spliced_cons (thn (he pins s1 σ H1 _ I1 q1) fun iv s2 ⟨y, H2, I2, ry, ov, g, q2⟩ => Calls.spliced_nil ?_)))
  exact d_get1 hu I2 g ry fun w' s3 I3 rw' => ⟨_, H2, I3, rw', q2⟩
end
section
variable {X : Cx} {pins : List (Addr × Obj)} {σ : St} {H : Hp} {s : Shared} {a : Addr} {kvs : List (Key × V)} {A : Around} {E : Value → Shared → Prop}
end
section
variable {X : Cx} {pins : List (Addr × Obj)} {σ : St} {H : Hp} {s : Shared} {a : Addr} {y : V} {u : Value} {A : Around} {E : Value → Shared → Prop}
end
end L2
namespace Att
open PySem PySem.W PySem.Calls PyProof.Rows
section
variable {prog : Program} {w : World} {A : Around} {E : Value → Shared → Prop} {s : Shared} {K : Frag}
end
end Att
namespace L2
open PySem PySem.Spec PyProof.Rows
end L2
namespace L2
open PySem PySem.Spec PyProof.Rows
end L2
namespace L2
open PySem PySem.Spec PyProof.Rows
section
variable {P : Program} {w : World} {K : PySem.W.Frag} {mg : Str → Option Value} {base : Heap}
end
section
variable {X : Cx}
end
section
variable {κ : Type} [DecidableEq κ]
end
end L2
namespace L2
open PySem PySem.Spec PyProof.Rows
theorem lk_list_keys : typeLookup (.type "list") "keys" = pure none := by rw [typeLookup_type, builtinLookup_eq_fast]; kernel_rfl
section
variable {prog : Program} {w : World} {A : Around} {E : Value → Shared → Prop}
theorem getAttrQ_keys {s : Shared} {a : Addr} {xs : Array Value} {k : Nat} {sl : Array (Option Value)} {Q : Option Value → Shared → Prop} (hx : s.heap.get? a = some { cls := .type "list", dict := none, data := .seq xs k, slots := sl }) (hA : A.handled = none)
    (h : ∀ h' tk, (∀ b o, s.heap.get? b = some o → h'.get? b = some o) → Q none { s with heap := h', toks := tk }) : wpAny (model prog w) A (getAttr? (.ref a) "keys") Q E s := by
  obtain ⟨hp, g, d, tk, os⟩ := s
  have hT : ∀ tk', (⟨hp, g, d, tk', os⟩ : Shared).TypeIs (.ref a) "list" := fun _ => ⟨_, hx, rfl⟩
  have f1 := sub_AttributeError
  have f3 := F.slot_list_getattribute.lookup
  have f4 := F.slot_list_getattribute.bind (.ref a)
  have f5 := am_list_getattr_none
  have hname : (["__module__", "__name__", "__qualname__", "__doc__", "__annotations__"] : List Str).contains "keys" = false := by decide +kernel
  unfold getAttr? getAttrBy? getAttrBy
  repeat (any_goals (first | assumption | exact hT _ | ((with_reducible show wpAny _ _ (call (Value.builtin "list.__getattribute__") _ _) _ _ _); refine call_meets F.slot_list_getattribute (hT _) am_entry_list_getattribute (F.args_list_getattribute_2 _ _) (meets_getattribute_miss_list a xs k sl "keys" _ lk_list_keys hname (by decide +kernel)) ⟨hx, hA, fun h' tk' e hx' => ?_⟩) | wp_step))
  have hxo := hx'.of
  obtain ⟨⟨cl, dc, da, sl2⟩, vs, he, hc, _, _⟩ := hxo.there
  simp only at hc
  subst hc
  have hE : ∀ tk2, (⟨h', g, d, tk2, os⟩ : Shared).TypeIs (.ref e) "AttributeError" := fun _ => ⟨_, he, rfl⟩
  show wpAny _ _ (getattributeRaised _ _ _ _ _ _ _) _ _ _
  unfold getattributeRaised
  repeat (any_goals (first | assumption | exact hE _ | wp_step))
  all_goals exact h _ _ hxo.keeps
end
noncomputable def entry_dul : entryFor table "dict.update.loop" = some Builtin.«dict.update.loop» := entryFor_of_tree (by kernel_rfl)
theorem plain_dul : plainId "dict.update.loop" = true := by decide +kernel
section
variable {X : Cx}
noncomputable def PairsAre (K : PySem.W.Frag) (H : Hp) : List V → List (Int × V) → Prop := Paired fun v p => ∃ t, v = .ref t ∧ SqT K H t [.int p.1, p.2]
theorem PairsAre.get {K : PySem.W.Frag} {H : Hp} {vs : List V} {ps : List (Int × V)} (h : PairsAre K H vs ps) : ∀ {i : Nat} {v : V}, vs[i]? = some v → ∃ t p, v = .ref t ∧ ps[i]? = some p ∧ SqT K H t [.int p.1, p.2] := by
  induction h with
  | nil => intro i v e; simp at e
  | cons q t ih =>
    intro i v e
    cases i with
    | zero => obtain ⟨a, e1, z⟩ := q; simp at e; subst e; exact ⟨a, _, e1, rfl, z⟩
    | succ i => obtain ⟨a, r, e1, e2, z⟩ := ih (i := i) (v := v) (by simpa using e); exact ⟨a, r, e1, by simpa using e2, z⟩
theorem PairsAre.length {K : PySem.W.Frag} {H : Hp} {vs : List V} {ps : List (Int × V)} (h : PairsAre K H vs ps) : vs.length = ps.length := Paired.length h
noncomputable def dictOf2 (ps : List (Int × V)) : List (Key × V) := ps.foldl (fun d p => putK d (Sum.inl p.1) p.2) []
theorem dictOf2_snoc {ps : List (Int × V)} {i : Nat} {p : Int × V} (h : ps[i]? = some p) : dictOf2 (ps.take (i + 1)) = putK (dictOf2 (ps.take i)) (Sum.inl p.1) p.2 := by
  unfold dictOf2
  rw [List.take_succ, h, List.foldl_append]
  rfl
theorem dictOf2_len (ps : List (Int × V)) : (dictOf2 ps).length ≤ ps.length := by
  have : ∀ (l : List (Int × V)) (d : List (Key × V)), (l.foldl (fun d p => putK d (Sum.inl p.1) p.2) d).length ≤ d.length + l.length := by
    intro l
    induction l with
    | nil => intro d; simp
    | cons p r ih => intro d; have := ih (putK d (Sum.inl p.1) p.2); have h2 := length_putK d (Sum.inl p.1 : Key) p.2; simp only [List.foldl_cons, List.length_cons] at *; omega
  exact Nat.le_trans (this ps []) (by simp)
theorem upd_loop {pins : List (Addr × Obj)} {σ : St} {H : Hp} {d it l : Addr} {vs : List V} {ps : List (Int × V)} {A : Around} {R : Result → Shared → Prop} (hh : A.handled = none) (hd : H d = none) (hl : SqL X.K H l vs) (hp : PairsAre X.K H vs ps) (hz : ps.length < sizeLine)
    (hR : ∀ s', Inv X pins σ (upd H d (.dK (dictOf2 ps))) s' → R (.ok (.ret .none)) s') :
    ∀ (k i : Nat) (s : Shared), ps.length - i = k → i ≤ ps.length → Inv X pins σ (upd H d (.dK (dictOf2 (ps.take i)))) s → s.heap.IsListIter it l i → FpOk X pins (upd H d (.dK (dictOf2 (ps.take i)))) it →
      codeAny (model X.prog X.w) A (.builtin "dict.update.loop" ⟨[.ref d, .ref it, rawInt i, .none], []⟩) R s := by
  intro k
  induction k with
  | zero =>
    intro i s hk hi I st f
    have ei : i = ps.length := by omega
    subst ei
    rw [List.take_length] at I f
    have sm : Same H (upd H d (.dK (dictOf2 ps))) := same_new' hd _
    obtain ⟨its, r, p, _⟩ := I.list (sm.seq hl)
    have lv := hp.length
    have lr := r.length
    refine codeAny_builtin entry_dul ?_
    rw [Around.under_plainId plain_dul _]
    show wpAny _ A.in1 (pyNext (.ref it) >>= _) _ _ s
    refine wpAny_bind (wpAny_pyNext_list_end (A := A.in1) hh st p.isList (by simp; omega) fun h' eb => ?_)
    refine wpAny_bind (wpAny_pure (wpAny_pure ?_))
    exact hR _ (I.turned (t' := s.toks) (fun b o hb e => eb b o hb e) f.1 f.2.1 f.2.2.2.1 f.2.2.2.2.1 f.2.2.2.2.2)
  | succ k ih =>
    intro i s hk hi I st f
    have sm : Same H (upd H d (.dK (dictOf2 (ps.take i)))) := same_new' hd _
    obtain ⟨its, r, p, _⟩ := I.list (sm.seq hl)
    have lv := hp.length
    have hlt : i < vs.length := by omega
    obtain ⟨t, pr, ev, ep, hT⟩ := hp.get (List.getElem?_eq_getElem hlt)
    obtain ⟨u, hu, ru⟩ := r.get (List.getElem?_eq_getElem hlt)
    rw [ev] at ru
    cases ru
    refine codeAny_builtin entry_dul ?_
    rw [Around.under_plainId plain_dul _]
    show wpAny _ A.in1 (pyNext (.ref it) >>= _) _ _ s
    refine wpAny_bind (wpAny_pyNext_list_item st p.isList (x := .ref t) (by simpa using hu) fun h' st' sb => ?_)
    have I1 : Inv X pins σ (upd H d (.dK (dictOf2 (ps.take i)))) { s with heap := h' } := I.turned (t' := s.toks) (fun b o hb e => (sb.2 b hb).trans e) f.1 f.2.1 f.2.2.2.1 f.2.2.2.2.1 f.2.2.2.2.2
    obtain ⟨its2, r2, ⟨ot, gt, ct, nt, dt⟩, _⟩ := I1.tuple (sm.tup hT)
    obtain ⟨u1, u2, rfl, ⟨tk1, rfl⟩, ru2⟩ := r2.two
    refine wpAny_bind (wpAny_holding ?_)
    refine wpAny_bind (wpAny_tryCatch ?_)
    unfold Builtin.Dict.pairItems
    refine wpAny_bind (wpAny_typeOf (T := "tuple") ⟨ot, gt, ct⟩ ?_)
    rw [if_pos (by simp)]
    refine wpAny_bind (wpAny_seqItems gt dt (wpAny_pure ?_))
    show wpAny _ _ (holding [Value.int pr.1 tk1, u2] (dictSet d (Value.int pr.1 tk1) u2)) _ _ _
    obtain ⟨z, hdS, kv, rel, dd⟩ := dk_of I1.hok (upd_same (H := H) (a := d) (o := .dK (dictOf2 (ps.take i))))
    have l1 := dictOf2_len (ps.take i)
    rw [List.length_take] at l1
    have hz2 : kv.length ≤ sizeLine := by rw [← rel.length]; exact z
    refine wpAny_holding (wpAny_dictSet_pairs (hsz := hz2) (knd := mixKind X.prog X.w) (k := (Sum.inl pr.1 : Key)) (mixKind_int _ _ _ _) dd fun h2 dd' hs2 => ?_)
    have he2 : ∃ q, h2.get? d = some q := let ⟨q, _, _, hq, _⟩ := dd'; ⟨q, hq⟩
    have l2 := length_putK (dictOf2 (ps.take i)) (Sum.inl pr.1 : Key) pr.2
    have I2 : Inv X pins σ (upd (upd H d (.dK (dictOf2 (ps.take i)))) d (.dK (putK (dictOf2 (ps.take i)) (Sum.inl pr.1) pr.2))) { s with heap := h2, toks := s.toks + 1 } :=
      d_write (s := { s with heap := h' }) I1 (by rw [upd_same]; exact True.intro) hs2 he2 (dk_new (by omega) hdS (rel.put _ ru2) dd')
    rw [upd_upd, ← dictOf2_snoc ep] at I2
    have nit : it ≠ d := fun e => by have := f.1; rw [e, upd_same] at this; cases this
    refine wpAny_pure ⟨plainId_quiet plain_dul _, ?_⟩
    have ei : rawInt ((i : Int) + 1) = rawInt ((i + 1 : Nat) : Int) := by push_cast; rfl
    rw [ei]
    refine ih (i + 1) _ (by omega) (by omega) I2 (st'.at fun o e => hs2.extBut _ _ nit e) ⟨?_, f.2⟩
    have := f.1
    rw [upd_ne nit] at this ⊢
    exact this
theorem call_dict_of (hc : X.calm = true) : CallR X (.type "dict") (fun xs H Q => ∃ (l : Addr) (vs : List V) (ps : List (Int × V)), xs = [.ref l] ∧ SqL X.K H l vs ∧ PairsAre X.K H vs ps ∧ ps.length < sizeLine ∧ ∀ d, H d = none → Q (.ref d) (upd H d (.dK (dictOf2 ps)))) := by
  intro pins s σ H xs us Q I rv h
  obtain ⟨l, vs, ps, rfl, hl, hp, hz, q⟩ := h
  obtain ⟨u, rfl, ru⟩ := rv.one
  cases ru
  refine callType_codes (Q₁ := fun obj s1 => obj = .ref s.heap.objs.size ∧ s1 = { s with heap := s.heap.push { cls := .type "dict", data := .dict #[] } }) F.kt_called_dict (F.kt_typeCall_dict_1 _) F.entry_dict_init (kt_code_dict_new _ ⟨rfl, rfl⟩) ?_
  rintro obj s1 ⟨rfl, rfl⟩
  have hd : H s.heap.objs.size = none := I.hok.fresh (Nat.le_refl _)
  have I1 : Inv X pins σ (upd H s.heap.objs.size (.dK [])) { s with heap := s.heap.push { cls := .type "dict", data := .dict #[] } } := I.laid (t' := s.toks) (fun _ _ q => Heap.get?_push_of_some _ q) (Nat.le_refl _) (dk_empty s.heap I.big)
  have sm : Same H (upd H s.heap.objs.size (.dK [])) := same_new' hd _
  obtain ⟨z, hdS, kv, rel, dd⟩ := dk_of I1.hok (upd_same (H := H) (a := s.heap.objs.size) (o := .dK []))
  refine ⟨dd.typeIs, F.args_dict_init_2 _ _, ?_⟩
  unfold Builtin.«dict.__init__»
  refine wpAny_bind ?_
  unfold Builtin.Dict.selfAndRest
  refine wpAny_bind (wpAny_notOrdered_dict dd.typeIs ?_)
  show wpAny _ _ (pure (s.heap.objs.size, [Value.ref l])) _ _ _
  refine wpAny_pure ?_
  show wpAny _ _ (Builtin.Dict.updateFrom "dict.__init__" s.heap.objs.size (.ref l) [] .none) _ _ _
  unfold Builtin.Dict.updateFrom
  obtain ⟨its, r, ⟨o, n, e, c, dn, sl⟩, _⟩ := I1.list (sm.seq hl)
  obtain ⟨cls, dct, dat, sls⟩ := o
  simp only at c dn sl
  subst c dn sl
  refine wpAny_bind (wpAny_typeOf (T := "list") ⟨_, e, rfl⟩ ?_)
  rw [if_pos (by decide)]
  refine wpAny_bind (getAttrQ_keys (s := { s with heap := s.heap.push { cls := .type "dict", data := .dict #[] } }) e (by exact I.ok.hd hc) fun h2 tk2 hk2 => ?_)
  have I2 : Inv X pins σ (upd H s.heap.objs.size (.dK [])) { s with heap := h2, toks := tk2 } := I1.kept hk2
  rw [if_pos (by rfl)]
  refine wpAny_bind (wpAny_rule (wpAny_bind ?_))
  obtain ⟨its2, r2, p2, _⟩ := I2.list (sm.seq hl)
  refine wpAny_pyIter_list (s := { s with heap := h2, toks := tk2 }) p2.isList ?_
  refine wpAny_pure ⟨plainId_quiet plain_dul _, ?_⟩
  have I3 : Inv X pins σ (upd H s.heap.objs.size (.dK [])) { s with heap := h2.push { cls := .type "list_iterator", data := .fields #[.ref l, .int 0 0] }, toks := tk2 } := I2.kept (t' := tk2) fun b o e => Heap.get?_push_of_some _ e
  have hfr := I2.hok.fresh (a := h2.objs.size) (Nat.le_refl _)
  refine upd_loop (X := X) (pins := pins) (σ := σ) (H := H) (vs := vs) (ps := ps) (A := X.A.in1) (by exact I.ok.hd hc) hd hl hp hz (fun s' I' => ⟨rfl, .ref s.heap.objs.size, _, I', rfl, q _ hd⟩) ps.length 0 _ (by omega) (Nat.zero_le _) I3 ⟨_, Heap.get?_push_size _ rfl, rfl, rfl⟩ (I2.fpOk (Nat.le_refl _) hfr)
end
end L2
namespace L2
open PySem PySem.Spec PyProof.Rows
section
variable {P : Program} {w : World} {A : Around} {E : Value → Shared → Prop} {s : Shared} {e it l : Addr} {st : Nat → Heap → Prop} {src : List Value → Heap → Prop} {i : Nat} {xs : List Value} {old : Value}
theorem enumNext_item {x : Value} {Q : Option Value → Shared → Prop} (dr : Drw P w it l st src) (hE : IsEnum s.heap e it i old) (hI : st i s.heap) (hl : src xs s.heap) (hx : xs[i]? = some x) (hne : e ≠ it)
    (hQ : ∀ h', IsEnumOut h' e it ((i : Int) + 1) x s.heap.objs.size → st (i + 1) h' → h'.get? s.heap.objs.size = some { cls := .type "tuple", data := .seq #[.int i s.toks, x] } →
      (∀ b o, b ≠ e → b ≠ it → s.heap.get? b = some o → h'.get? b = some o) → Q (some (.ref s.heap.objs.size)) { s with heap := h', toks := s.toks + 1 }) : wpAny (model P w) A (pyNext (.ref e)) Q E s := by
  have hTy : s.TypeIs (.ref e) "enumerate" := ⟨_, hE, rfl⟩
  unfold pyNext
  refine wpAny_bind (wpAny_attempt (wpAny_callSpecial?_slot (name := Str.ofString "__next__") hTy F.slot_enumerate_next (wpAny_call_entry F.slot_enumerate_next hTy F.entry_enumerate_next ?_ (F.args_enumerate_next_1 _))))
  obtain ⟨hp, g, d, tk, os⟩ := s
  show wpAny _ _ (field (.ref e) 2 >>= _) _ _ _
  refine wpAny_bind (wpAny_field hE rfl (x := .ref it) rfl ?_)
  refine wpAny_bind (dr.item _ _ ⟨hp, g, d, tk, os⟩ i xs x _ hI hl hx fun g1 hI1 e1 => ?_)
  replace e1 : Heap.SameBut it hp g1 := e1
  have hE1 : IsEnum g1 e it i old := (e1.2 e hne).trans hE
  show wpAny _ _ (field (.ref e) 3 >>= _) _ _ ⟨g1, g, d, tk, os⟩
  refine wpAny_bind (wpAny_field hE1 rfl (x := rawInt i) rfl ?_)
  show wpAny _ _ (field (.ref e) 4 >>= _) _ _ ⟨g1, g, d, tk, os⟩
  refine wpAny_bind (wpAny_field hE1 rfl (x := .none) rfl ?_)
  show wpAny _ _ (mkInt i >>= _) _ _ ⟨g1, g, d, tk, os⟩
  refine wpAny_bind (wpAny_mkInt ?_)
  show wpAny _ _ (setField (.ref e) 3 (rawInt ((i : Int) + 1)) >>= _) _ _ ⟨g1, g, d, tk + 1, os⟩
  refine wpAny_bind (wpAny_setField_rec hE1 (by simp) fun g2 hE2 e2 => ?_)
  replace e2 : Heap.SameBut e g1 g2 := e2
  replace hE2 : IsEnum g2 e it ((i : Int) + 1) old := hE2
  show wpAny _ _ (setField (.ref e) 4 .none >>= _) _ _ ⟨g2, g, d, tk + 1, os⟩
  refine wpAny_bind (wpAny_setField_rec hE2 (by simp) fun g3 hE3 e3 => ?_)
  replace e3 : Heap.SameBut e g2 g3 := e3
  replace hE3 : IsEnum g3 e it ((i : Int) + 1) old := hE3
  show wpAny _ _ (newTuple [.int i tk, x] >>= _) _ _ ⟨g3, g, d, tk + 1, os⟩
  refine wpAny_bind (wpAny_newTuple ?_)
  have hE4 : IsEnum (g3.push { cls := .type "tuple", data := .seq #[.int i tk, x] }) e it ((i : Int) + 1) old := Heap.get?_push_of_some _ hE3
  generalize hg4 : g3.push { cls := .type "tuple", data := .seq #[.int i tk, x] } = g4 at hE4
  have hsz : g3.objs.size = hp.objs.size := by rw [e3.1, e2.1, e1.1]
  have hel : e < hp.objs.size := Heap.lt_size hE
  have hT4 : g4.get? hp.objs.size = some { cls := .type "tuple", data := .seq #[.int i tk, x] } := by rw [← hg4, ← hsz]; exact Heap.get?_push_size _ rfl
  have hk4 : ∀ b o, b ≠ e → b ≠ it → hp.get? b = some o → g4.get? b = some o := fun b o hbe hbi hb => by
    rw [← hg4]; exact Heap.get?_push_of_some _ (e3.extBut b o hbe (e2.extBut b o hbe (e1.extBut b o hbi hb)))
  have hI4 : st (i + 1) g4 := dr.keep _ _ _ hI1 fun q z => by rw [← hg4]; exact Heap.get?_push_of_some _ (e3.extBut _ _ hne.symm (e2.extBut _ _ hne.symm z))
  show wpAny _ _ (Builtin.SmallTypes.ownedTupleIsFree (.ref e) >>= _) _ _ ⟨g4, g, d, tk + 1, os⟩
  rw [hsz]
  clear hg4 hE3 e3 hE2 e2 hE1 e1 hI1 hsz
  refine wpAny_bind ?_
  unfold Builtin.SmallTypes.ownedTupleIsFree
  refine wpAny_bind (wpAny_field hE4 rfl (x := .none) rfl (wpAny_pure ?_))
  simp only [if_true]
  refine wpAny_bind (wpAny_rule (wpAny_bind (wpAny_field hE4 rfl (x := old) rfl (wpAny_bind (wpAny_setField_rec hE4 (by simp) fun g5 hE5 e5 => ?_)))))
  replace e5 : Heap.SameBut e g4 g5 := e5
  replace hE5 : IsEnum g5 e it ((i : Int) + 1) x := hE5
  show wpAny _ _ (Builtin.SmallTypes.ownedTupleHandOut (.ref e) (.ref hp.objs.size) >>= _) _ _ ⟨g5, g, d, tk + 1, os⟩
  refine wpAny_bind ?_
  unfold Builtin.SmallTypes.ownedTupleHandOut
  refine wpAny_bind (wpAny_setField_rec hE5 (by simp) fun g6 hE6 e6 => ?_)
  replace e6 : Heap.SameBut e g5 g6 := e6
  replace hE6 : IsEnumOut g6 e it ((i : Int) + 1) x hp.objs.size := hE6
  refine wpAny_setField_rec hE6 (by simp) fun g7 hE7 e7 => ?_
  replace e7 : Heap.SameBut e g6 g7 := e7
  replace hE7 : IsEnumOut g7 e it ((i : Int) + 1) x hp.objs.size := hE7
  have up : ∀ b o, b ≠ e → g4.get? b = some o → g7.get? b = some o := fun b o hb z => e7.extBut b o hb (e6.extBut b o hb (e5.extBut b o hb z))
  refine wpAny_bind (wpAny_letGo (wpAny_pure ⟨_, rfl, wpAny_pure (hQ g7 hE7 ?_ ?_ ?_)⟩))
  · exact dr.keep _ _ _ hI4 fun q z => up _ _ hne.symm z
  · exact up _ _ (Nat.ne_of_gt hel) hT4
  · exact fun b o hbe hbi hb => up b o hbe (hk4 b o hbe hbi hb)
theorem enumNext_end {Q : Option Value → Shared → Prop} (hh : A.handled = none) (dr : Drw P w it l st src) (hE : IsEnum s.heap e it i old) (hI : st i s.heap) (hl : src xs s.heap) (hx : xs[i]? = none)
    (hQ : ∀ h', Heap.ExtBut it s.heap h' → Q none { s with heap := h' }) : wpAny (model P w) A (pyNext (.ref e)) Q E s := by
  have hTy : s.TypeIs (.ref e) "enumerate" := ⟨_, hE, rfl⟩
  unfold pyNext
  refine wpAny_bind (wpAny_attempt (wpAny_callSpecial?_slot (name := Str.ofString "__next__") hTy F.slot_enumerate_next (wpAny_call_entry F.slot_enumerate_next hTy F.entry_enumerate_next ?_ (F.args_enumerate_next_1 _))))
  show wpAny _ _ (field (.ref e) 2 >>= _) _ _ _
  refine wpAny_bind (wpAny_field hE rfl (x := .ref it) rfl ?_)
  refine wpAny_bind (dr.done _ _ s i xs _ hh hI hl hx fun h' x eb hx' => ?_)
  obtain ⟨o, ho, hc⟩ := hx'
  refine wpAny_bind (wpAny_isInstance (T := "StopIteration") (b := true) ⟨o, ho, hc⟩ isSubtype_stop (wpAny_pure (hQ _ eb)))
end
theorem meets_enum {n : String} {l : Addr} {p : Heap → Prop} (I : Itr0 n l p) :
    Meets (Builtin.«enumerate.__new__» ⟨[.type "enumerate", .ref l], []⟩) (fun _ R s => p s.heap ∧ R (.ok (.ret (.ref (s.heap.push (itObj n l)).objs.size))) { s with heap := (s.heap.push (itObj n l)).push { cls := .type "enumerate", data := .fields #[.none, .bool false, .ref s.heap.objs.size, rawInt 0, .none, .none] } }) :=
  .of_wp fun prog w A R s h => by
    obtain ⟨hp, g, d, tk, os⟩ := s
    obtain ⟨q, h⟩ := h
    have hsub := sub_enumerate
    have f1 := fun (A : Around) (E : Value → Shared → Prop) (Q : Value → Shared → Prop) => I.go prog w A E ⟨hp, g, d, tk, os⟩ Q q
    wp_walk
    refine wpAny_stack_any fun stk => wpAny_pure ?_
    split
    · rename_i c _ _ _ _ _
      cases (c == Value.type "enumerate")
      · wp_walk using f1 _ _ _
        exact ⟨_, rfl, h⟩
      · wp_walk using f1 _ _ _
        exact ⟨_, rfl, h⟩
    · wp_walk using f1 _ _ _
      exact ⟨_, rfl, h⟩
noncomputable def Ite (K : PySem.W.Frag) (m : Bool) (a : Addr) : It :=
  ⟨fun i H => ∃ xs x, Sq K m H a xs ∧ xs[i]? = some x,
   fun i H v H' => ∃ T x, v = .ref T ∧ H T = none ∧ H' = upd H T (.tup [.int (i : Nat), x]) ∧ (∀ xs, Sq K m H a xs → xs[i]? = some x),
   fun i H => ∃ xs, Sq K m H a xs ∧ xs.length ≤ i⟩
noncomputable def eTn (m : Bool) (e it a : Addr) (i : Nat) (h : Heap) : Prop := (∃ old, IsEnum h e it i old) ∧ itSt m it a i h
theorem turn_enum {P : Program} {w : World} {K : PySem.W.Frag} {es : List Expr} {kk : Nat} {tp : Pos} {m : Bool} {e it a : Addr} (hne : e ≠ it) (hea : a ≠ e) (hia : a ≠ it) :
    Turn P w K (.Tuple es kk tp) (Ite K m a) [e, it] e (eTn m e it a) where
  mem := by simp
  obj := fun i h st c hc => by
    obtain ⟨⟨old, h1⟩, h2⟩ := st
    simp only [List.mem_cons, List.mem_nil_iff, or_false] at hc
    rcases hc with rfl | rfl
    · exact ⟨_, h1, fun v z => by cases z⟩
    · exact (drw_of (P := P) (w := w) m c a).obj i h h2
  keep := fun i h h' st k => by
    obtain ⟨⟨old, h1⟩, h2⟩ := st
    exact ⟨⟨old, k e (by simp) _ h1⟩, (drw_of (P := P) (w := w) m it a).keep i h h' h2 (k it (by simp))⟩
  item := by
    intro X hP hw hK hc i pins s σ H E I hf st hg
    subst hP hw hK
    obtain ⟨xs, x, q1, hx⟩ := hg
    obtain ⟨is1, r1, p1, z1⟩ := I.sq q1
    obtain ⟨v1, e1, rv1⟩ := r1.get hx
    obtain ⟨⟨old, hE⟩, s1⟩ := st
    refine enumNext_item (drw_of m it a) hE s1 p1 e1 hne fun h' a1 a2 a3 a4 => ⟨_, rfl, ?_⟩
    have kk : ∀ c q, c ∉ [e, it] → s.heap.get? c = some q → h'.get? c = some q := fun c q hc e => by
      simp only [List.mem_cons, List.mem_nil_iff, or_false, not_or] at hc
      exact a4 c q hc.1 hc.2 e
    have I1 : Inv X pins σ (upd H s.heap.objs.size (.tup [.int (i : Nat), x])) { s with heap := h' } := I.tupNew (ch := [e, it]) (its := [.int i s.toks, v1]) (Nat.le_refl _) (.cons ⟨_, rfl⟩ (.cons rv1 .nil)) (by show 2 ≤ sizeLine; decide) a3 hf kk (fun c hc => by
      simp only [List.mem_cons, List.mem_nil_iff, or_false] at hc
      rcases hc with rfl | rfl
      · exact ⟨_, a1⟩
      · obtain ⟨q, z, _⟩ := (drw_of (P := X.prog) (w := X.w) m c a).obj _ _ a2; exact ⟨q, z⟩)
    refine wpAny_letOwnedTupleGo_enum (s := { s with heap := h', toks := s.toks + 1 }) a1 fun h2 g1 g2 => ?_
    obtain ⟨f0, f1, f2, f3, f4, f5⟩ := hf e (by simp)
    have lte : e < s.heap.objs.size := Heap.lt_size hE
    have I2 : Inv X pins σ (upd H s.heap.objs.size (.tup [.int (i : Nat), x])) { s with heap := h2, toks := s.toks + 1 } := I1.turned (h' := h2) (t' := s.toks + 1) (fun c q hc z => g2.extBut c q hc z) (by rw [upd_ne (Nat.ne_of_lt lte)]; exact f0) f1 f3 f4 f5
    refine ⟨.ref s.heap.objs.size, _, I2, rfl, ⟨_, x, rfl, I.hok.fresh (Nat.le_refl _), rfl, fun xs' hq => by rw [I.sq_inj hq q1]; exact hx⟩, ⟨⟨_, by exact_mod_cast g1⟩, (drw_of (P := X.prog) (w := X.w) m it a).keep _ _ _ a2 fun q z => g2.extBut _ _ hne.symm z⟩, fun c hc => ?_⟩
    have hlt : c ≠ s.heap.objs.size := by
      simp only [List.mem_cons, List.mem_nil_iff, or_false] at hc
      rcases hc with rfl | rfl
      · exact Nat.ne_of_lt lte
      · obtain ⟨q, z, _⟩ := (drw_of (P := X.prog) (w := X.w) m c a).obj _ _ s1; exact Nat.ne_of_lt (Heap.lt_size z)
    rw [upd_ne hlt]
    exact (hf c hc).1
  done := by
    intro X hP hw hK hc i pins s σ H E I hf st hg
    subst hP hw hK
    obtain ⟨xs, q1, hx⟩ := hg
    obtain ⟨is1, r1, p1, z1⟩ := I.sq q1
    obtain ⟨⟨old, hE⟩, s1⟩ := st
    have l1 := r1.length
    obtain ⟨f0, f1, f2, f3, f4, f5⟩ := hf it (by simp)
    exact enumNext_end (I.ok.hd hc) (drw_of m it a) hE s1 p1 (List.getElem?_eq_none_iff.mpr (by omega)) fun h' eb => ⟨rfl, I.turned (t' := s.toks) (fun b o hb z => eb b o hb z) f0 f1 f3 f4 f5⟩
  self := fun _ _ _ _ _ st h => by
    obtain ⟨⟨old, h1⟩, _⟩ := st
    exact wpAny_pyIter_enum h1 h
section
variable {X : Cx}
noncomputable def iEnum (K : PySem.W.Frag) (m : Bool) (ta : TA) : TI := fun σ H R => ta σ H fun vs H1 => ∃ a, vs = [.ref a] ∧ (∃ xs, Sq K m H1 a xs) ∧ R (Ite K m a) H1
theorem pi_enum {a : Expr} {ta : TA} {p pos tp : Pos} {es : List Expr} {kk : Nat} (m : Bool) (hg : Gl X "enumerate") (hm : X.mg "enumerate" = none) (ha : PA X [a] ta) (hs : autoParam (starEach [a] X.env = [(false, eval a X.env)]) L2.aRfl._auto_1) :
    PI X (.Tuple es kk tp) (.Call (.Name "enumerate" p) [a] [] pos) (iEnum X.K m ta) := by
  intro pins s σ H R I h
  refine Call_ (ld_blt I hg hm bt_enumerate (PyProof.Rows.callWith_type1 (thn (ha pos pins s σ H _ I h) fun us s1 ⟨vs, H1, I1, r1, q1⟩ => ?_) hs rfl))
  obtain ⟨l1, e, ⟨xs, q1⟩, q⟩ := q1
  subst e
  obtain ⟨u1, rfl, e1⟩ := r1.one
  cases e1
  obtain ⟨is1, r1, p1, z1⟩ := I1.sq q1
  refine callType_new F.called_enumerate (by decide) (F.typeCall_enumerate_1 _) (F.newCall_enumerate_1 _) (fun obj => F.args_object_init_2 obj _) F.entry_enumerate_new (meets_enum (itr0_of m l1 is1)) ⟨p1, ?_⟩
  have z2 : (s1.heap.push (itObj (itN m) l1)).objs.size = s1.heap.objs.size + 1 := Heap.size_push ..
  have g2 : ((s1.heap.push (itObj (itN m) l1)).push { cls := .type "enumerate", data := .fields #[.none, .bool false, .ref s1.heap.objs.size, rawInt 0, .none, .none] }).get? (s1.heap.push (itObj (itN m) l1)).objs.size = some { cls := .type "enumerate", data := .fields #[.none, .bool false, .ref s1.heap.objs.size, rawInt 0, .none, .none] } := Heap.get?_push_size _ rfl
  have g1 : ((s1.heap.push (itObj (itN m) l1)).push { cls := .type "enumerate", data := .fields #[.none, .bool false, .ref s1.heap.objs.size, rawInt 0, .none, .none] }).get? s1.heap.objs.size = some (itObj (itN m) l1) := Heap.get?_push_of_some _ (Heap.get?_push_size _ rfl)
  rw [z2] at g2
  show _ ∧ _
  rw [z2]
  have kp : ∀ b o, s1.heap.get? b = some o → ((s1.heap.push (itObj (itN m) l1)).push { cls := .type "enumerate", data := .fields #[.none, .bool false, .ref s1.heap.objs.size, rawInt 0, .none, .none] }).get? b = some o := fun b o z => Heap.get?_push_of_some _ (Heap.get?_push_of_some _ z)
  generalize (s1.heap.push (itObj (itN m) l1)).push { cls := .type "enumerate", data := .fields #[.none, .bool false, .ref s1.heap.objs.size, rawInt 0, .none, .none] } = h' at g1 g2 kp
  have I2 : Inv X pins σ H1 { s1 with heap := h' } := I1.kept (t' := s1.toks) kp
  have ltl : l1 < s1.heap.objs.size := itSrc_lt p1
  refine ⟨⟨_, g2, rfl⟩, wpAny_pyIter_enum (s := { s1 with heap := h' }) g2 ⟨_, [s1.heap.objs.size + 1, s1.heap.objs.size], _, _, H1, rfl, I2, turn_enum (m := m) (a := l1) (Nat.succ_ne_self _) (Nat.ne_of_lt (Nat.lt_succ_of_lt ltl)) (Nat.ne_of_lt ltl), ⟨⟨_, g2⟩, itSt_new m g1⟩, fun c hc => ?_, q⟩⟩
  have hle : s1.heap.objs.size ≤ c := by
    simp only [List.mem_cons, List.mem_nil_iff, or_false] at hc
    rcases hc with rfl | rfl
    · exact Nat.le_add_right _ _
    · exact Nat.le_refl _
  exact I1.fpOk hle (I1.hok.fresh hle)
end
theorem for_enum {K : PySem.W.Frag} {m : Bool} {a : Addr} {xs : List V} {g : TG} {tb : TS} {D : Ends} {σ : St} {H : Hp} (Pv : Nat → St → Hp → Prop) (h0 : Pv 0 σ H) (hl : ∀ i σ H, i ≤ xs.length → Pv i σ H → Sq K m H a xs)
    (hs : ∀ i x σ H T, xs[i]? = some x → Pv i σ H → H T = none → g (.ref T) σ (upd H T (.tup [.int (i : Nat), x])) fun σ2 H2 => tb { D with nx := Pv (i + 1), ct := Pv (i + 1), bk := D.nx } σ2 H2) (hd : ∀ σ H, Pv xs.length σ H → D.nx σ H) :
    ∃ W : Nat → Nat → St → Hp → Prop, (∃ m, W 0 m σ H) ∧ ∀ i n σ H, W i n σ H →
      ((Ite K m a).stop i H ∧ D.nx σ H) ∨ ((Ite K m a).go i H ∧ ∃ N : St → Hp → Prop, (∀ σ' H', N σ' H' → ∃ m', m' < n ∧ W (i + 1) m' σ' H') ∧ ∀ x H', (Ite K m a).yld i H x H' → g x σ H' fun σ2 H2 => tb { D with nx := N, ct := N, bk := D.nx } σ2 H2) := by
  refine ⟨fun i n σ H => n = xs.length - i ∧ i ≤ xs.length ∧ Pv i σ H, ⟨_, rfl, Nat.zero_le _, h0⟩, ?_⟩
  rintro i n σ H ⟨rfl, hi, p⟩
  have q1 := hl i σ H hi p
  by_cases hlt : i < xs.length
  · refine .inr ⟨⟨xs, xs[i], q1, by simp [hlt]⟩, Pv (i + 1), fun σ' H' p' => ⟨xs.length - (i + 1), by omega, rfl, hlt, p'⟩, fun x H' y => ?_⟩
    obtain ⟨T, u, rfl, hT, rfl, y1⟩ := y
    exact hs i u σ H T (y1 xs q1) p hT
  · have e : i = xs.length := by omega
    subst e
    exact .inl ⟨⟨xs, q1, Nat.le_refl _⟩, hd σ H p⟩
end L2
namespace L2
open PySem PySem.Spec PyProof.Rows
section
variable {prog : Program} {w : World} {A : Around} {E : Value → Shared → Prop} {s : Shared}
end
section
variable {X : Cx}
end
end L2
namespace L2
open PySem PySem.Spec PyProof.Rows
section
variable {P : Program} {w : World} {A : Around} {E : Value → Shared → Prop} {s : Shared}
end
section
variable {P : Program} {w : World} {A : Around} {E : Value → Shared → Prop} {s : Shared} {z u o i1 i2 l1 l2 : Addr} {st1 st2 : Nat → Heap → Prop} {src1 src2 : List Value → Heap → Prop} {k1 k2 : Nat} {xs ys : List Value}
end
section
variable {X : Cx} {pins : List (Addr × Obj)} {σ : St} {H : Hp} {s : Shared} {m1 m2 : Bool} {z u o i1 i2 a b : Addr} {i : Nat} {xs ys : List V} {E : Value → Shared → Prop} {A : Around}
end
section
variable {X : Cx}
end
noncomputable def Itr3 (lo c : Int) (n : Nat) : It := ⟨fun i _ => i < n, fun i H x H' => H' = H ∧ x = .int (lo + (i : Nat) * c), fun i _ => n ≤ i⟩
theorem turn_range3 {P : Program} {w : World} {K : PySem.W.Frag} {tg : Expr} (it : Addr) (lo c : Int) (n : Nat) : Turn P w K tg (Itr3 lo c n) [it] it (fun i h => IsRangeIter h it (lo + (i : Nat) * c) ((n : Int) - (i : Nat)) c) where
  mem := by simp
  obj := fun i h st b hb => by
    have e : b = it := by simpa using hb
    subst e
    exact ⟨_, st, fun v z => by
      have z' : Data.fields _ = Data.cell v := z
      cases z'⟩
  keep := fun i h h' st k => k it (by simp) _ st
  item := by
    intro X hP hw hK hc i pins s σ H E I hf st hg
    subst hP hw hK
    obtain ⟨f0, f1, f2, f3, f4, f5⟩ := hf it (by simp)
    have W := Walks.range (prog := X.prog) (w := X.w) (I.ok.hd hc) it lo c n
    refine W.item i s _ _ hg st fun v h' tk hv st' kk => ?_
    obtain ⟨t, rfl⟩ := hv
    have I1 : Inv X pins σ H { s with heap := h', toks := tk } := I.turned (fun b o hb e => kk b o (by simpa using hb) e) f0 f1 f3 f4 f5
    exact ⟨_, rfl, go_of (s := { s with heap := h', toks := tk }) (n := "range_iterator") st' rfl rfl (by decide) ⟨.int (lo + (i : Nat) * c), H, I1, ⟨t, rfl⟩, ⟨rfl, rfl⟩, st', fun b hb => (hf b hb).1⟩⟩
  done := by
    intro X hP hw hK hc i pins s σ H E I hf st hg
    subst hP hw hK
    obtain ⟨f0, f1, f2, f3, f4, f5⟩ := hf it (by simp)
    exact wpAny_pyNext_range_end (I.ok.hd hc) st (by have : n ≤ i := hg; omega) fun h' eb => ⟨rfl, I.turned (t' := s.toks) (fun b o hb e => eb b o hb e) f0 f1 f3 f4 f5⟩
  self := fun _ _ _ _ _ st h => wpAny_pyIter_rangeiter st h
theorem size_nonneg (a b c : Int) (hc : c ≠ 0) : 0 ≤ Builtin.Range.rangeSize a b c := by
  unfold Builtin.Range.rangeSize
  split
  · split
    · have := Int.ediv_nonneg (a := b - a - 1) (b := c) (by omega) (by omega); omega
    · exact Int.le_refl 0
  · split
    · have := Int.ediv_nonneg (a := a - b - 1) (b := -c) (by omega) (by omega); omega
    · exact Int.le_refl 0
section
variable {X : Cx} {tg : Expr}
noncomputable def iRng3 (ta : TA) : TI := fun σ H R => ta σ H fun vs H1 => ∃ i j c : Int, vs = [.int i, .int j, .int c] ∧ (c ≠ 0 ∧ c.natAbs < 1073741824 ∧ Builtin.Range.small i j c = true) ∧ R (Itr3 i c (Builtin.Range.rangeSize i j c).toNat) H1
theorem pi_range3 {a b c : Expr} {ta : TA} {p pos : Pos} (hg : Gl X "range") (hm : X.mg "range" = none) (ha : PA X [a, b, c] ta) (hs : autoParam (starEach [a, b, c] X.env = [(false, eval a X.env), (false, eval b X.env), (false, eval c X.env)]) L2.aRfl._auto_1) (hs2 : autoParam (starEach [b, c] X.env = [(false, eval b X.env), (false, eval c X.env)]) L2.aRfl._auto_1) :
    PI X tg (.Call (.Name "range" p) [a, b, c] [] pos) (iRng3 ta) := by
  intro pins s σ H R I h
  refine Call_ (ld_blt I hg hm boot_range (PyProof.Rows.callWith_type1 (thn (ha pos pins s σ H _ I h) fun us s1 ⟨vs, H1, I1, r1, q1⟩ => ?_) (by rw [hs, hs2]) (by rw [hs2]; rfl)))
  obtain ⟨i, j, k, e, ⟨h1, h2, h3⟩, q⟩ := q1
  subst e
  cases r1 with
  | cons r rr =>
    cases rr with
    | cons r' rr =>
      cases rr with
      | cons r'' rr =>
        cases rr
        obtain ⟨t, rfl⟩ := r
        obtain ⟨t', rfl⟩ := r'
        obtain ⟨t'', rfl⟩ := r''
        refine call_range_3 h1 ?_ (.inl (PyProof.noPylong_small h2))
        refine wpAny_pyIter_range (IsRange.new ..) h3 ?_
        have I2 : Inv X pins σ H1 { s1 with heap := s1.heap.push { cls := .type "range", data := .fields #[.int i t, .int j t', .int k t''] }, toks := s1.toks } := I1.kept fun b o e => Heap.get?_push_of_some _ e
        refine ⟨(s1.heap.push { cls := .type "range", data := .fields #[.int i t, .int j t', .int k t''] }).objs.size, [(s1.heap.push { cls := .type "range", data := .fields #[.int i t, .int j t', .int k t''] }).objs.size], _, _, H1, rfl,
          I2.kept (t' := s1.toks) fun b o e => Heap.get?_push_of_some _ e, turn_range3 _ i k (Builtin.Range.rangeSize i j k).toNat, ?_, fun b hb => ?_, q⟩
        · have e1 : i + ((0 : Nat) : Int) * k = i := by simp
          have e2 : (((Builtin.Range.rangeSize i j k).toNat : Nat) : Int) - ((0 : Nat) : Int) = Builtin.Range.rangeSize i j k := by have := size_nonneg i j k h1; omega
          show IsRangeIter _ _ (i + ((0 : Nat) : Int) * k) ((((Builtin.Range.rangeSize i j k).toNat : Nat) : Int) - ((0 : Nat) : Int)) k
          rw [e1, e2]
          exact Heap.get?_push_size _ rfl
        · have e : b = (s1.heap.push { cls := .type "range", data := .fields #[.int i t, .int j t', .int k t''] }).objs.size := by simpa using hb
          subst e
          exact I2.fpOk (Nat.le_refl _) (I2.hok.fresh (Nat.le_refl _))
end
theorem for_range3 {lo c : Int} {n : Nat} {g : TG} {tb : TS} {D : Ends} {σ : St} {H : Hp} (Pv : Nat → St → Hp → Prop) (h0 : Pv 0 σ H)
    (hs : ∀ i σ H, i < n → Pv i σ H → g (.int (lo + (i : Nat) * c)) σ H fun σ2 H2 => tb { D with nx := Pv (i + 1), ct := Pv (i + 1), bk := D.nx } σ2 H2) (hd : ∀ σ H, Pv n σ H → D.nx σ H) :
    ∃ W : Nat → Nat → St → Hp → Prop, (∃ m, W 0 m σ H) ∧ ∀ i m σ H, W i m σ H →
      ((Itr3 lo c n).stop i H ∧ D.nx σ H) ∨ ((Itr3 lo c n).go i H ∧ ∃ N : St → Hp → Prop, (∀ σ' H', N σ' H' → ∃ m', m' < m ∧ W (i + 1) m' σ' H') ∧ ∀ x H', (Itr3 lo c n).yld i H x H' → g x σ H' fun σ2 H2 => tb { D with nx := N, ct := N, bk := D.nx } σ2 H2) := by
  refine ⟨fun i m σ H => m = n - i ∧ i ≤ n ∧ Pv i σ H, ⟨n, by simp, Nat.zero_le _, h0⟩, ?_⟩
  rintro i m σ H ⟨rfl, hi, p⟩
  by_cases hlt : i < n
  · refine .inr ⟨hlt, Pv (i + 1), fun σ' H' p' => ⟨n - (i + 1), by omega, rfl, hlt, p'⟩, fun x H' y => ?_⟩
    obtain ⟨e, y⟩ := y
    subst e y
    exact hs i σ _ hlt p
  · have e : i = n := by omega
    subst e
    exact .inl ⟨Nat.le_refl _, hd σ H p⟩
theorem range3_lt {a b c : Int} {i : Nat} (hc : 0 < c) (h : i < (Builtin.Range.rangeSize a b c).toNat) : a + (i : Nat) * c < b := by
  unfold Builtin.Range.rangeSize at h
  rw [if_pos hc] at h
  split at h
  · have h0 := Int.ediv_nonneg (a := b - a - 1) (b := c) (by omega) (by omega)
    have h1 : (i : Int) ≤ (b - a - 1) / c := by omega
    have h2 := Int.mul_le_mul_of_nonneg_right h1 (Int.le_of_lt hc)
    have h3 := Int.ediv_mul_le (b - a - 1) (Int.ne_of_gt hc)
    omega
  · simp at h
theorem small3 {a b c : Int} (ha : -1000000 ≤ a) (ha' : a ≤ 1000000) (hb : -1000000 ≤ b) (hb' : b ≤ 1000000) (hc : 0 < c) (hc' : c ≤ 1000000) : Builtin.Range.small a b c = true := by
  have h0 : Builtin.Range.rangeSize a b c ≤ 2000001 := by
    unfold Builtin.Range.rangeSize
    rw [if_pos hc]
    split
    · have h3 := Int.ediv_le_self (a := b - a - 1) c (by omega)
      omega
    · decide
  have h1 := size_nonneg a b c (Int.ne_of_gt hc)
  unfold Builtin.Range.small
  simp only [Builtin.Range.rangeFitsLong, Bool.and_eq_true, Bool.or_eq_true, decide_eq_true_eq, beq_iff_eq, hc, if_true]
  omega
end L2
namespace L2
open PySem PySem.Spec PyProof.Rows PySem.W
inductive IsT : String → Prop
  | int : IsT "int"
  | bool : IsT "bool"
  | tuple : IsT "tuple"
  | list : IsT "list"
  | str : IsT "str"
noncomputable def isiW (K : PySem.W.Frag) (H : Hp) : V → String → Bool → Prop
  | .non, _, b => b = false
  | .int _, T, b => b = decide (T = "int")
  | .bl _, T, b => b = decide (T = "int" ∨ T = "bool")
  | .str _, T, b => b = decide (T = "str")
  | .ref a, T, b => ((∃ xs, SqT K H a xs) ∧ b = decide (T = "tuple")) ∨ ((∃ xs, SqL K H a xs) ∧ b = decide (T = "list"))
  | _, _, _ => False
theorem call_isiW {X : Cx} : CallR X (.builtin "isinstance") (fun xs H Q => ∃ x T b, xs = [x, .ty T] ∧ IsT T ∧ isiW X.K H x T b ∧ Q (.bl b) H) := by
  intro pins s σ H xs us Q I rv h
  obtain ⟨x, T, b, rfl, hT, hi, q⟩ := h
  obtain ⟨u, v, rfl, ru, rT⟩ := rv.two
  cases rT
  have fin : ∀ (tk : Nat), EP X pins σ Q (.bool b) { s with toks := tk } := fun tk => ⟨.bl b, H, I.tok tk, rfl, q⟩
  cases x with
  | int n =>
    obtain ⟨t, rfl⟩ := ru
    cases hT <;> (subst hi)
    · exact IsiPair.int_int (fin s.toks)
    · exact IsiPair.int_bool (fin _)
    · exact IsiPair.int_tuple (fin _)
    · exact IsiPair.int_list (fin _)
    · exact IsiPair.int_str (fin _)
  | bl n =>
    cases ru
    cases hT <;> (subst hi)
    · exact IsiPair.bool_int (fin s.toks)
    · exact IsiPair.bool_bool (fin s.toks)
    · exact IsiPair.bool_tuple (fin _)
    · exact IsiPair.bool_list (fin _)
    · exact IsiPair.bool_str (fin _)
  | str n =>
    obtain ⟨t, rfl⟩ := ru
    cases hT <;> (subst hi)
    · exact IsiPair.str_int (fin _)
    · exact IsiPair.str_bool (fin _)
    · exact IsiPair.str_tuple (fin _)
    · exact IsiPair.str_list (fin _)
    · exact IsiPair.str_str (fin s.toks)
  | non =>
    cases ru
    cases hT <;> (subst hi)
    · exact IsiPair.NoneType_int (fin _)
    · exact IsiPair.NoneType_bool (fin _)
    · exact IsiPair.NoneType_tuple (fin _)
    · exact IsiPair.NoneType_list (fin _)
    · exact IsiPair.NoneType_str (fin _)
  | ref a =>
    cases ru
    rcases hi with ⟨⟨xs, hq⟩, hi⟩ | ⟨⟨xs, hq⟩, hi⟩
    · obtain ⟨its, r, ⟨o, e, c, _⟩, _⟩ := I.tuple hq
      cases hT <;> (subst hi)
      · exact IsiPair.tuple_int e c (fin _)
      · exact IsiPair.tuple_bool e c (fin _)
      · exact IsiPair.tuple_tuple e c (fin s.toks)
      · exact IsiPair.tuple_list e c (fin _)
      · exact IsiPair.tuple_str e c (fin _)
    · obtain ⟨its, r, pl, _⟩ := I.list hq
      obtain ⟨o, e, c, _⟩ := pl.isList
      cases hT <;> (subst hi)
      · exact IsiPair.list_int e c (fin _)
      · exact IsiPair.list_bool e c (fin _)
      · exact IsiPair.list_tuple e c (fin _)
      · exact IsiPair.list_list e c (fin s.toks)
      · exact IsiPair.list_str e c (fin _)
  | byt _ => exact hi.elim
  | flt _ => exact hi.elim
  | ty _ => exact hi.elim
open Att in
section
variable {prog : Program} {w : World} {A : Around} {R : Result → Shared → Prop} {I : Addr} {fp wr : List Addr} {n : Nat} {P : Nat → Value → Prop} {St : Nat → Heap → Prop}
end
section
variable {prog : Program} {w : World} {A : Around} {E : Value → Shared → Prop} {s : Shared} {l : Addr} {xs : Array (Int × Tok)}
end
section
variable {X : Cx}
end
end L2
namespace L2
open PySem PySem.Spec PyProof.Rows PySem.W
theorem args_min_dflt (a v : Value) : argsOk "min" ⟨[a], [(Str.ofString "default", v)]⟩ := by unfold argsOk; kernel_rfl
section
variable {prog : Program} {w : World} {A : Around} {R : Result → Shared → Prop} {I : Addr} {fp wr : List Addr} {n : Nat} {P : Nat → Value → Prop} {St : Nat → Heap → Prop}
theorem min_loopD (kw : List (Str × Value)) (W : Walks prog w A.in1 I fp wr n P St) (bt : Nat → Nat → Bool) (hcmp : CmpOf prog w A.in1 .Lt P bt) (S : Addr) (hSf : S ∉ fp) :
    ∀ (k j : Nat) (s : Shared) (vb : Value) (c : Nat), n - (j + 1) = k → j + 1 ≤ n → St (j + 1) s.heap → P (argBest bt j) vb →
    s.heap.get? S = some { cls := .type "list", dict := none, data := .seq #[vb, vb] c, slots := #[] } →
    (∀ v h' tk, P (argBest bt (n - 1)) v → (∀ b o, b ∉ wr → b ≠ S → s.heap.get? b = some o → h'.get? b = some o) → R (.ok (.ret v)) { s with heap := h', toks := tk }) →
    codeAny (model prog w) A (.builtin "min.loop" ⟨[.ref I, .none, .ref S], kw⟩) R s := by
  have hSw : S ∉ wr := fun h => hSf (W.sub _ h)
  have hname : (toString "min" ++ toString ".loop" : String) = "min.loop" := by decide
  intro k
  induction k with
  | zero =>
    intro j s vb c hk hj hst hPb hS hR
    have hin : j + 1 = n := by omega
    refine codeAny_builtin F.entry_min_loop ?_
    rw [Around.under_plainId F.plain_min_loop _]
    show wpAny _ A.in1 (seqItems? (.ref S) >>= _) _ _ s
    refine wpAny_bind (wpAny_seqItems hS rfl ?_)
    show wpAny _ A.in1 (tryCatch (pyNext (.ref I)) _ >>= _) _ _ s
    refine wpAny_bind (wpAny_tryCatch (W.done s _ _ (hin ▸ hst) fun h' tk hk' => ?_))
    have hS' := hk' S _ hSw hS
    show wpAny _ A.in1 (updateSeq S (fun _ => #[]) >>= _) _ _ _
    refine wpAny_bind ?_
    refine wpAny_updateSeq hS' rfl (wpAny_bind (wpAny_letGo (wpAny_pure ?_)))
    refine hR vb _ tk (by rw [← hin]; exact hPb) fun b o hbw hbS e => (Heap.get?_update_other _ _ (Ne.symm hbS)).trans (hk' b o hbw e)
  | succ k ih =>
    intro j s vb c hk hj hst hPb hS hR
    have hlt : j + 1 < n := by omega
    refine codeAny_builtin F.entry_min_loop ?_
    rw [Around.under_plainId F.plain_min_loop _]
    show wpAny _ A.in1 (seqItems? (.ref S) >>= _) _ _ s
    refine wpAny_bind (wpAny_seqItems hS rfl ?_)
    show wpAny _ A.in1 (tryCatch (pyNext (.ref I)) _ >>= _) _ _ s
    refine wpAny_bind (wpAny_tryCatch (W.item (j + 1) s _ _ hlt hst fun v h' tk hP hst' hk' => ?_))
    have hS' := hk' S _ hSw hS
    show wpAny _ A.in1 (tryCatch (holding [v, v] (richCompare .Lt v vb >>= _)) _ >>= _) _ _ _
    refine wpAny_bind (wpAny_tryCatch (wpAny_holding (wpAny_bind (hcmp (j + 1) (argBest bt j) v vb _ _ _ hP hPb ?_))))
    refine wpAny_bind (wpAny_holding (wpAny_truthy_bool ?_))
    refine wpAny_bind (wpAny_letGo (wpAny_pure ?_))
    cases hb : bt (j + 1) (argBest bt j) with
    | true =>
      simp only [if_true]
      refine wpAny_bind ?_
      refine wpAny_updateSeq hS' rfl (wpAny_bind (wpAny_letGo ?_))
      rw [hname]
      refine wpAny_pure ⟨plainId_quiet F.plain_min_loop _, ih (j + 1) _ v _ (by omega) hlt (W.frame _ _ _ hst' fun b hbf o e => ?_) (by simp only [argBest, hb, if_true]; exact hP) (Heap.get?_update_self _ hS' rfl)
        fun v' h'' tk'' hP' hk'' => ?_⟩
      · exact (Heap.get?_update_other _ _ (fun h : S = b => hSf (by rw [h]; exact hbf))).trans e
      · exact hR v' h'' tk'' hP' fun b o hbw hbS e => hk'' b o hbw hbS ((Heap.get?_update_other _ _ (Ne.symm hbS)).trans (hk' b o hbw e))
    | false =>
      simp only [Bool.false_eq_true, if_false]
      refine wpAny_bind (wpAny_letGo ?_)
      rw [hname]
      refine wpAny_pure ⟨plainId_quiet F.plain_min_loop _, ih (j + 1) _ vb c (by omega) hlt hst' (by simp only [argBest, hb, Bool.false_eq_true, if_false]; exact hPb) hS' fun v' h'' tk'' hP' hk'' => ?_⟩
      exact hR v' h'' tk'' hP' fun b o hbw hbS e => hk'' b o hbw hbS (hk' b o hbw e)
theorem min_firstD (d : Value) (W : Walks prog w A.in1 I fp wr n P St) (bt : Nat → Nat → Bool) (hcmp : CmpOf prog w A.in1 .Lt P bt) (S : Addr) (hSf : S ∉ fp) {s : Shared} {c : Nat} (hst : St 0 s.heap)
    (hS : s.heap.get? S = some { cls := .type "list", dict := none, data := .seq #[] c, slots := #[] })
    (h0 : n = 0 → ∀ h' tk, (∀ b o, b ∉ wr → b ≠ S → s.heap.get? b = some o → h'.get? b = some o) → R (.ok (.ret d)) { s with heap := h', toks := tk })
    (hR : 0 < n → ∀ v h' tk, P (argBest bt (n - 1)) v → (∀ b o, b ∉ wr → b ≠ S → s.heap.get? b = some o → h'.get? b = some o) → R (.ok (.ret v)) { s with heap := h', toks := tk }) :
    codeAny (model prog w) A (.builtin "min.loop" ⟨[.ref I, .none, .ref S], [(Str.ofString "default", d)]⟩) R s := by
  have hSw : S ∉ wr := fun h => hSf (W.sub _ h)
  have hname : (toString "min" ++ toString ".loop" : String) = "min.loop" := by decide
  refine codeAny_builtin F.entry_min_loop ?_
  rw [Around.under_plainId F.plain_min_loop _]
  show wpAny _ A.in1 (seqItems? (.ref S) >>= _) _ _ s
  refine wpAny_bind (wpAny_seqItems hS rfl ?_)
  show wpAny _ A.in1 (tryCatch (pyNext (.ref I)) _ >>= _) _ _ s
  rcases Nat.eq_zero_or_pos n with e0 | hn
  · refine wpAny_bind (wpAny_tryCatch (W.done s _ _ (e0 ▸ hst) fun h' tk hk' => ?_))
    show wpAny _ A.in1 (rule _ >>= fun _ => ret d) _ _ _
    exact wpAny_bind (wpAny_rule (wpAny_pure (h0 e0 h' tk fun b o hb _ e => hk' b o hb e)))
  refine wpAny_bind (wpAny_tryCatch (W.item 0 s _ _ hn hst fun v h' tk hP hst' hk' => ?_))
  have hS' := hk' S _ hSw hS
  show wpAny _ A.in1 (updateSeq S (fun _ => #[v, v]) >>= _) _ _ _
  refine wpAny_bind ?_
  refine wpAny_updateSeq hS' rfl ?_
  rw [hname]
  refine wpAny_pure ⟨plainId_quiet F.plain_min_loop _, min_loopD _ W bt hcmp S hSf _ 0 _ v _ rfl hn (W.frame _ _ _ hst' fun b hbf o e => ?_) hP (Heap.get?_update_self _ hS' rfl) fun v' h'' tk'' hP' hk'' => ?_⟩
  · exact (Heap.get?_update_other _ _ (fun h : S = b => hSf (by rw [h]; exact hbf))).trans e
  · exact hR hn v' h'' tk'' hP' fun b o hbw hbS e => hk'' b o hbw hbS ((Heap.get?_update_other _ _ (Ne.symm hbS)).trans (hk' b o hbw e))
end
section
variable {prog : Program} {w : World} {A : Around} {E : Value → Shared → Prop} {s : Shared} {l : Addr} {xs : Array (Int × Tok)}
theorem min_intListD {d : Value} {Q : Value → Shared → Prop} (hh : A.handled = none) (hl : s.heap.IsList l (intItems xs))
    (h0 : xs.size = 0 → ∀ h' tk, (∀ b o, s.heap.get? b = some o → h'.get? b = some o) → Q d { s with heap := h', toks := tk })
    (h : 0 < xs.size → ∀ v h' tk, (intItems xs)[argBest (fun i j => decide (numAt xs i < numAt xs j)) (xs.size - 1)]? = some v → (∀ b o, s.heap.get? b = some o → h'.get? b = some o) → Q v { s with heap := h', toks := tk }) :
    wpAny (model prog w) A (call (.builtin "min") [.ref l] [(Str.ofString "default", d)]) Q E s := by
  have hname : (toString "min" ++ toString ".loop" : String) = "min.loop" := by decide
  refine kmk_tree PySem.F.kind_min PySem.F.plain_min PySem.F.entry_min (args_min_dflt _ _) ?_
  show wpAny _ A.in1 (Builtin.Builtins.bindParams "min" ["key", "default"] 0 ⟨[], [(Str.ofString "default", d)]⟩ >>= _) _ _ s
  refine wpAny_bind (wpAny_of_eq (show Builtin.Builtins.bindParams "min" ["key", "default"] 0 ⟨[], [(Str.ofString "default", d)]⟩ = pure [none, some d] from rfl) ?_)
  refine wpAny_bind (wpAny_pure ?_)
  refine wpAny_bind (iter_intList hl fun s₂ e st hfp hlI => ?_)
  subst e
  refine wpAny_bind (wpAny_newObj_type ?_)
  rw [hname]
  have W := Walks.list (prog := prog) (w := w) (A := A.in1) hh _ l hlI (intItems xs)
  refine wpAny_pure ⟨plainId_quiet F.plain_min_loop _, min_firstD d W _ (CmpOf.ints_lt (numAt xs) (fun _ _ => intItems_at)) _ (fun hm => Nat.lt_irrefl _ (hfp _ hm)) (W.frame _ _ _ st fun b _ o e => Heap.get?_push_of_some _ e) (Heap.get?_push_size _ rfl) (fun e0 h' tk hk => ?_) fun hp v h' tk hP hk => ?_⟩
  · exact h0 (by simpa [intItems] using e0) h' tk (old_kept fun b o hb e => hk b o hb (Nat.ne_of_lt (Heap.lt_size e)) (Heap.get?_push_of_some _ e))
  · exact h (by simpa [intItems] using hp) v h' tk (by simpa [intItems] using hP) (old_kept fun b o hb e => hk b o hb (Nat.ne_of_lt (Heap.lt_size e)) (Heap.get?_push_of_some _ e))
end
section
variable {X : Cx}
theorem pe_minDV {a e : Expr} {ta : TA} {td : TE} {p pos kp : Pos} (hc : X.calm = true) (hg : Gl X "min") (hm : X.mg "min" = none) (ha : PA X [a] ta) (hd : PE X e td) (hs : autoParam (starEach [a] X.env = [(false, eval a X.env)]) L2.aRfl._auto_1) :
    PE X (.Call (.Name "min" p) [a] [⟨some "default", e, kp⟩] pos) (fun σ H Q => ta σ H fun vs H1 => td σ H1 fun dv H2 => ∃ (l : Addr) (ns : List Int), vs = [.ref l] ∧ SqL X.K H2 l (ns.map V.int) ∧ ∀ v : V, (ns = [] → v = dv) → (ns ≠ [] → ∃ m, v = .int m ∧ m ∈ ns ∧ ∀ x ∈ ns, m ≤ x) → Q v H2) := by
  intro pins s σ H Q I h
  refine wpAny_Call_Name_kw (ld_blt I hg hm (u := .builtin "min") (by rfl) ?_)
  refine PyProof.Rows.callWith_kw (thn (ha pos pins s σ H _ I h) fun us s1 ⟨vs, H1, I1, r1, q1⟩ => ?_) (he := by rw [hs]; rfl) (hplain := by rw [hs]; rfl)
  refine kws_cons (thn (hd pins s1 σ H1 _ I1 q1) fun u s2 ⟨dv, H2, I2, r2, q2⟩ => kws_nil ?_)
  obtain ⟨l, ns, rfl, hq, q⟩ := q2
  obtain ⟨u', rfl, ru⟩ := r1.one
  cases ru
  obtain ⟨its, r, p, hz⟩ := I2.list hq
  have hi : IntsAre its.toArray.toList ns := intsAre_of r
  obtain ⟨xs, hx⟩ := hi.allInts.items
  have hl' : s2.heap.IsList l (intItems xs) := hx ▸ p.isList
  have e1 : ns = xs.toList.map (·.1) := by rw [← nums_intItems, ← hx]; exact (show numsOf its.toArray.toList = ns from hi.numsOf).symm
  have ls : xs.size = ns.length := by rw [e1]; simp
  have at' : ∀ i, i < xs.size → ns[i]? = some (numAt xs i) := fun i hi => by rw [e1]; simp [numAt, hi]
  obtain ⟨b1, b2⟩ := argBest_lt (numAt xs) (xs.size - 1)
  refine min_intListD (I.ok.hd hc) hl' (fun e0 h' tk hk => ?_) fun hp v h' tk hv hk => ?_
  · exact ⟨dv, H2, I2.kept hk, r2, q dv (fun _ => rfl) fun z => absurd (List.eq_nil_of_length_eq_zero (by omega)) z⟩
  · obtain ⟨t, rfl⟩ := intItems_at hv
    refine ⟨.int _, H2, I2.kept hk, ⟨_, rfl⟩, q _ (fun z => absurd hp (by rw [ls, z]; exact Nat.lt_irrefl 0)) fun _ => ⟨_, rfl, List.mem_of_getElem? (at' _ (by omega)), fun x hx => ?_⟩⟩
    obtain ⟨i, hi, rfl⟩ := List.mem_iff_getElem.mp hx
    have h2 := at' i (by omega)
    rw [List.getElem?_eq_getElem hi] at h2
    have h3 : ns[i] = numAt xs i := Option.some.inj h2
    rw [h3]
    exact b2 i (by omega)
theorem pe_minDI {a e : Expr} {ta : TA} {td : TE} {p pos kp : Pos} (hc : X.calm = true) (hg : Gl X "min") (hm : X.mg "min" = none) (ha : PA X [a] ta) (hd : PE X e td) (hs : autoParam (starEach [a] X.env = [(false, eval a X.env)]) L2.aRfl._auto_1) :
    PE X (.Call (.Name "min" p) [a] [⟨some "default", e, kp⟩] pos) (fun σ H Q => ta σ H fun vs H1 => td σ H1 fun dv H2 => ∃ (l : Addr) (ns : List Int) (d : Int), vs = [.ref l] ∧ dv = .int d ∧ SqL X.K H2 l (ns.map V.int) ∧ ∀ m : Int, (ns = [] → m = d) → (ns ≠ [] → m ∈ ns ∧ ∀ x ∈ ns, m ≤ x) → Q (.int m) H2) := by
  intro pins s σ H Q I h
  refine wpAny_Call_Name_kw (ld_blt I hg hm (u := .builtin "min") (by rfl) ?_)
  refine PyProof.Rows.callWith_kw (thn (ha pos pins s σ H _ I h) fun us s1 ⟨vs, H1, I1, r1, q1⟩ => ?_) (he := by rw [hs]; rfl) (hplain := by rw [hs]; rfl)
  refine kws_cons (thn (hd pins s1 σ H1 _ I1 q1) fun u s2 ⟨dv, H2, I2, r2, q2⟩ => kws_nil ?_)
  obtain ⟨l, ns, d, rfl, rfl, hq, q⟩ := q2
  obtain ⟨u', rfl, ru⟩ := r1.one
  cases ru
  obtain ⟨its, r, p, hz⟩ := I2.list hq
  have hi : IntsAre its.toArray.toList ns := intsAre_of r
  obtain ⟨xs, hx⟩ := hi.allInts.items
  have hl' : s2.heap.IsList l (intItems xs) := hx ▸ p.isList
  have e1 : ns = xs.toList.map (·.1) := by rw [← nums_intItems, ← hx]; exact (show numsOf its.toArray.toList = ns from hi.numsOf).symm
  have ls : xs.size = ns.length := by rw [e1]; simp
  have at' : ∀ i, i < xs.size → ns[i]? = some (numAt xs i) := fun i hi => by rw [e1]; simp [numAt, hi]
  obtain ⟨b1, b2⟩ := argBest_lt (numAt xs) (xs.size - 1)
  refine min_intListD (I.ok.hd hc) hl' (fun e0 h' tk hk => ?_) fun hp v h' tk hv hk => ?_
  · exact ⟨.int d, H2, I2.kept hk, r2, q d (fun _ => rfl) fun z => absurd (List.eq_nil_of_length_eq_zero (by omega)) z⟩
  · obtain ⟨t, rfl⟩ := intItems_at hv
    refine ⟨.int _, H2, I2.kept hk, ⟨_, rfl⟩, q _ (fun z => absurd hp (by rw [ls, z]; exact Nat.lt_irrefl 0)) fun _ => ⟨List.mem_of_getElem? (at' _ (by omega)), fun x hx => ?_⟩⟩
    obtain ⟨i, hi, rfl⟩ := List.mem_iff_getElem.mp hx
    have h2 := at' i (by omega)
    rw [List.getElem?_eq_getElem hi] at h2
    have h3 : ns[i] = numAt xs i := Option.some.inj h2
    rw [h3]
    exact b2 i (by omega)
end
section
variable {X : Cx}
theorem call_minL (hc : X.calm = true) : CallR X (.builtin "min") (fun xs H Q => ∃ (a : Addr) (ns : List Int), xs = [.ref a] ∧ SqL X.K H a (ns.map V.int) ∧ ns ≠ [] ∧ ∀ m, m ∈ ns → (∀ x ∈ ns, m ≤ x) → Q (.int m) H) := by
  intro pins s σ H xs us Q I rv h
  obtain ⟨a, ns, rfl, hq, hne, q⟩ := h
  obtain ⟨u, rfl, ru⟩ := rv.one
  cases ru
  obtain ⟨its, r, p, hz⟩ := I.list hq
  have hi : IntsAre its.toArray.toList ns := intsAre_of r
  obtain ⟨xs, hx⟩ := hi.allInts.items
  have hl' : s.heap.IsList a (intItems xs) := hx ▸ p.isList
  have e1 : ns = xs.toList.map (·.1) := by rw [← nums_intItems, ← hx]; exact (show numsOf its.toArray.toList = ns from hi.numsOf).symm
  have ls : xs.size = ns.length := by rw [e1]; simp
  have hp : 0 < xs.size := by rw [ls]; exact List.length_pos_iff.mpr hne
  have at' : ∀ i, i < xs.size → ns[i]? = some (numAt xs i) := fun i hi => by rw [e1]; simp [numAt, hi]
  obtain ⟨b1, b2⟩ := argBest_lt (numAt xs) (xs.size - 1)
  refine min_intList (I.ok.hd hc) hl' hp fun v h' tk hv hk => ?_
  obtain ⟨t, rfl⟩ := intItems_at hv
  refine ⟨.int _, H, I.kept hk, ⟨_, rfl⟩, q _ (List.mem_of_getElem? (at' _ (by omega))) fun x hx => ?_⟩
  obtain ⟨i, hi, rfl⟩ := List.mem_iff_getElem.mp hx
  have h2 := at' i (by omega)
  rw [List.getElem?_eq_getElem hi] at h2
  have h3 : ns[i] = numAt xs i := Option.some.inj h2
  rw [h3]
  exact b2 i (by omega)
end
theorem call_allBK {X : Cx} {K : PySem.W.Frag} (hK : X.K = K) (hc : X.calm = true) : CallR X (.builtin "all") (fun xs H Q => ∃ (a : Addr) (bs : List Bool), xs = [.ref a] ∧ SqL K H a (bs.map V.bl) ∧ Q (.bl (bs.all id)) H) := by subst hK; exact call_allB hc
end L2
namespace L2
open PySem PySem.Spec PySem.Calls PyProof.Rows PySem.W
section
variable {P : Program} {w : World} {K : PySem.W.Frag} {mg : Str → Option Value} {base : Heap} {N : List Str} {qual : Str} {scope : Scope} {f : Addr} {cd : Value} {A : Around} {outer : List Env} {s₀ : Shared} {H₀ : Hp} {E : XK} {C : Addr}
  {pins : List (Addr × Obj)} {σ : St} {H : Hp} {s : Shared}
end
end L2
namespace L2
open PySem PySem.Spec PySem.Calls PyProof.Rows PySem.W
section
variable {X : Cx} {pins : List (Addr × Obj)} {σ : St} {H H' : Hp} {s : Shared} {e : Addr}
end
section
variable {X : Cx} {k : Nat} {f C D : Addr} {fd : FuncData} {ps : List Str} {sp : Sp} {g x n c : Str} {p np pc pn cpos epos hpos apos pos : Pos} {a : Expr} {es : List Expr} {t : TA} {i j : Nat}
end
end L2
namespace L2
open PySem PySem.Spec PySem.Calls PyProof.Rows PySem.W
section
variable {prog : Program} {w : World} {A : Around} {E : Value → Shared → Prop} {h : Heap} {g : Array GenState} {d : Drawn} {t : Nat} {os : OsState} {a C : Addr} {o : Obj} {K : Frag}
open Builtin Builtin.ObjectAttr Builtin.Getset_descriptor in
end
end L2
namespace L2
open PySem PySem.Spec PySem.Calls PyProof.Rows PySem.W
section
variable {X : Cx}
end
noncomputable def Big (i : Int) : Prop := i.natAbs < 2 ^ 4000
section
variable {X : Cx}
theorem op_fdivG : OpR X (binaryOp .FloorDiv) (rI (fun _ j => j ≠ 0 ∧ Big j) fun i j => .int (i.fdiv j)) := opI fun i j _ _ _ _ _ hc q => floordiv_int hc.1 q (.inl (PyProof.noPylong_of_log2 (Nat.lt_of_lt_of_le ((Nat.log2_lt (by have := hc.1; omega)).mpr hc.2) (by decide))))
end
section
variable {P : Program} {w : World} {K : PySem.W.Frag} {mg : Str → Option Value} {base : Heap} {N : List Str} {qual : Str} {scope : Scope} {f : Addr} {cd : Value} {A : Around} {outer : List Env} {s₀ : Shared} {H₀ : Hp} {E : XK} {C : Addr}
end
end L2
namespace L2
open PySem PySem.Spec PySem.Calls PyProof.Rows PySem.W
end L2
namespace L2
open PySem PySem.Spec PyProof.Rows
theorem cf_case : ∀ (names : List (Str × NameKind)) (n : Nat) (acc : List (Str × Addr)) {x : Str} {c : Addr}, (cellsFrom n names acc).lookup x = some c → ((x, NameKind.cell) ∈ names ∧ n ≤ c) ∨ acc.lookup x = some c
  | [], n, acc, x, c, h => .inr h
  | (y, k) :: r, n, acc, x, c, h => by
    unfold cellsFrom at h
    by_cases hk : (k == NameKind.cell) = true
    · rw [if_pos hk] at h
      rcases cf_case r (n + 1) ((y, n) :: acc) h with ⟨h1, h2⟩ | h
      · exact .inl ⟨List.mem_cons_of_mem _ h1, by omega⟩
      · rw [List.lookup_cons] at h
        cases hx : x == y with
        | true =>
          rw [hx] at h
          have e1 : x = y := by simpa using hx
          have e2 : n = c := Option.some.inj h
          have e3 : k = .cell := by simpa using hk
          subst e1 e3
          exact .inl ⟨List.mem_cons_self, by omega⟩
        | false => rw [hx] at h; exact .inr h
    · rw [if_neg hk] at h
      rcases cf_case r n acc h with ⟨h1, h2⟩ | h
      · exact .inl ⟨List.mem_cons_of_mem _ h1, h2⟩
      · exact .inr h
theorem cf_inj : ∀ (names : List (Str × NameKind)) (n : Nat) (acc : List (Str × Addr)), (∀ x c, acc.lookup x = some c → c < n) → (∀ x y c, acc.lookup x = some c → acc.lookup y = some c → x = y) → ∀ x y c, (cellsFrom n names acc).lookup x = some c → (cellsFrom n names acc).lookup y = some c → x = y
  | [], n, acc, _, hi => hi
  | (z, k) :: r, n, acc, hl, hi => by
    unfold cellsFrom
    by_cases hk : (k == NameKind.cell) = true
    · rw [if_pos hk]
      have look : ∀ x c, ((z, n) :: acc).lookup x = some c → (x = z ∧ c = n) ∨ acc.lookup x = some c := fun x c h => by
        rw [List.lookup_cons] at h
        cases hx : x == z with
        | true => rw [hx] at h; exact .inl ⟨by simpa using hx, (Option.some.inj h).symm⟩
        | false => rw [hx] at h; exact .inr h
      refine cf_inj r (n + 1) ((z, n) :: acc) (fun x c h => ?_) fun x y c h1 h2 => ?_
      · rcases look x c h with ⟨_, e⟩ | h
        · rw [e]; exact Nat.lt_succ_self _
        · exact Nat.lt_succ_of_lt (hl x c h)
      · rcases look x c h1 with ⟨e1, e2⟩ | h1 <;> rcases look y c h2 with ⟨e3, e4⟩ | h2
        · rw [e1, e3]
        · exact absurd (hl y c h2) (by rw [e2]; exact Nat.lt_irrefl _)
        · exact absurd (hl x c h1) (by rw [e4]; exact Nat.lt_irrefl _)
        · exact hi x y c h1 h2
    · rw [if_neg hk]
      exact cf_inj r n acc hl hi
theorem cf_old : ∀ (names : List (Str × NameKind)) (n : Nat) (acc : List (Str × Addr)) {x : Str}, (x, NameKind.cell) ∉ names → (cellsFrom n names acc).lookup x = acc.lookup x
  | [], n, acc, x, h => rfl
  | (y, k) :: r, n, acc, x, h => by
    unfold cellsFrom
    by_cases hk : (k == NameKind.cell) = true
    · rw [if_pos hk, cf_old r (n + 1) _ fun z => h (List.mem_cons_of_mem _ z), List.lookup_cons]
      have e3 : k = .cell := by simpa using hk
      subst e3
      cases hx : x == y with
      | true =>
        have e1 : x = y := by simpa using hx
        subst e1
        exact absurd List.mem_cons_self h
      | false => rfl
    · rw [if_neg hk]
      exact cf_old r n acc fun z => h (List.mem_cons_of_mem _ z)
theorem ci_mem {env : Env} : ∀ (l : List (Str × NameKind)) (cs : List (Str × Addr)) {x : Str} {c : Addr}, (cellsIn env l cs).lookup x = some c → (x, NameKind.free) ∈ l ∨ cs.lookup x = some c
  | [], cs, x, c, h => .inr h
  | (n, k) :: r, cs, x, c, h => by
    unfold cellsIn at h
    rcases ci_mem r _ h with h | h
    · exact .inl (List.mem_cons_of_mem _ h)
    · by_cases hk : k = .free
      · rw [if_pos hk, List.lookup_cons] at h
        cases hx : x == n with
        | true =>
          have e1 : x = n := by simpa using hx
          subst e1 hk
          exact .inl List.mem_cons_self
        | false => rw [hx] at h; exact .inr h
      · rw [if_neg hk] at h
        exact .inr h
theorem pc_cells (names : List (Str × NameKind)) : ∀ (h : Heap) (acc : List (Str × Addr)) {x : Str} {c : Addr}, (cellsFrom h.objs.size names acc).lookup x = some c → acc.lookup x = some c ∨ (pushCells h names).IsCell c none := by
  induction names with
  | nil => intro h acc x c e; exact .inl e
  | cons p r ih =>
    obtain ⟨y, k⟩ := p
    intro h acc x c e
    unfold cellsFrom at e
    unfold pushCells
    by_cases hk : (k == NameKind.cell) = true
    · rw [if_pos hk] at e ⊢
      have := ih (h.push { cls := .type "cell", data := .cell none }) ((y, h.objs.size) :: acc) (x := x) (c := c) (by rw [Heap.size_push]; exact e)
      rcases this with e2 | e2
      · rw [List.lookup_cons] at e2
        cases hx : x == y with
        | true =>
          rw [hx] at e2
          have e3 : h.objs.size = c := Option.some.inj e2
          subst e3
          exact .inr ⟨_, pushCells_keeps r _ _ _ (Heap.get?_push_size _ rfl), rfl⟩
        | false => rw [hx] at e2; exact .inl e2
      · exact .inr e2
    · rw [if_neg hk] at e ⊢
      exact ih h acc e
theorem env_around {M : Model} {A : Around} {E : Value → Shared → Prop} {s : Shared} {scope : Scope} {globals : Addr} {closure : List (Str × Addr)} {qual : Str} {env : Env} {Q : Env → Shared → Prop}
    (hQ : Q { scope := scope, locals := s.heap.objs.size, globals := globals, cells := cellsFrom (s.heap.objs.size + 1) scope.names closure, qual := qual, func := none, code := env.code, frame := env.frame, builtins := env.builtins } { s with heap := pushCells (s.heap.push { cls := .type "dict", data := .dict #[] }) scope.names }) :
    wpAny M A (newFunctionEnv scope globals closure [] qual none .none (some env)) Q E s := by
  simp only [newFunctionEnv, Option.isSome_some, if_true]
  refine wpAny_bind (wpAny_alloc ?_)
  refine wpAny_bind (wpAny_layCells _ (fun name kind cells => by cases hkc : kind == NameKind.cell <;> simp [hkc]) _ _ _ _ ?_)
  rw [show ({ s with heap := s.heap.push { cls := .type "dict", data := .dict #[] } } : Shared).heap.objs.size = s.heap.objs.size + 1 from Heap.size_push ..]
  refine wpAny_bind ?_
  rw [List.forIn_nil]
  exact wpAny_pure (wpAny_pure hQ)
noncomputable def oneKind (scope : Scope) : Bool := scope.names.all fun p => scope.names.lookup p.1 == some p.2
theorem oneKind_mem {scope : Scope} (h : oneKind scope = true) {x : Str} {k : NameKind} (hm : (x, k) ∈ scope.names) : scope.names.lookup x = some k := by
  have := List.all_eq_true.mp h _ hm
  simpa using this
noncomputable def bCells (X : Cx) (scope : Scope) (L : Addr) : List (Str × Addr) := cellsFrom (L + 1) scope.names (cellsIn X.env scope.names [])
noncomputable def cxBlockC (X : Cx) (N : List Str) (scope : Scope) (fp : List Addr) (H : Hp) (s : Shared) : Cx :=
  { X with N := N, s₀ := s, H₀ := H, env := compEnvC scope (bCells X scope s.heap.objs.size) s.heap.objs.size X.env, outer := X.stack, stack := X.stack, ex := fp, fn := fun y => scope.names.lookup y == some .cell, pn := [], xe := fun _ _ => False }
section
variable {X : Cx}
theorem cxBlockC_ok {pins : List (Addr × Obj)} {σ : St} {H : Hp} {s : Shared} {N : List Str} {scope : Scope} {fp : List Addr} (I : Inv X pins σ H s) (hf : ∀ b ∈ fp, FpOk X pins H b) (hlt : ∀ b ∈ fp, b < s.heap.objs.size) (hk : scope.kind = .function)
    (hone : oneKind scope = true) (hfree : freeOk X.env.scope scope.names = true) : (cxBlockC X N scope fp H s).Ok := by
  have has : ∀ n, (n, NameKind.free) ∈ scope.names → ∃ c, X.env.cells.lookup n = some c := fun n hn => I.ok.has n (freeOk_mem hfree n hn)
  have sub : ∀ x c, (cellsIn X.env scope.names []).lookup x = some c → X.env.cells.lookup x = some c := cellsIn_sub _ _ has fun x c e => by simp at e
  have old : ∀ x c, (cellsIn X.env scope.names []).lookup x = some c → c < s.heap.objs.size := fun x c e => by obtain ⟨v, z⟩ := I.cell x c (sub x c e); exact z.lt
  have fs : ∀ b ∈ fp, b ∉ frs X.stack := fun b hb z => by
    obtain ⟨_, f1, f2, _⟩ := hf b hb
    rcases List.mem_cons.mp (I.stkSub b z) with e | e
    · exact f1 e
    · exact f2 e
  refine ⟨I.ok.mod, hk, I.ok.glob, I.ok.blt, Nat.le_refl _, fun x y c h1 h2 => ?_, fun x hx => ?_, fun x c h e => ?_, I.ok.hd, I.ok.frames, .inl rfl, fun b hb => ⟨Nat.ne_of_lt (hlt b hb), fun x c e => ?_⟩,
    I.bs, Nat.le_trans I.ok.bsz I.sz, fun b o e hb => ?_, fs, I.stack, I.stkFree⟩
  · exact cf_inj scope.names (s.heap.objs.size + 1) _ (fun x c e => Nat.lt_succ_of_lt (old x c e)) (fun x y c e1 e2 => I.ok.inj x y c (sub x c e1) (sub y c e2)) x y c h1 h2
  · have hx' : (scope.names.map fun (n, k) => if (k == NameKind.free && X.env.scope.kind == .function && X.env.kindOf n == some .cell) then (n, NameKind.cell) else (n, k)).lookup x = some .cell ∨
        (scope.names.map fun (n, k) => if (k == NameKind.free && X.env.scope.kind == .function && X.env.kindOf n == some .cell) then (n, NameKind.cell) else (n, k)).lookup x = some .free := hx
    have fr : scope.names.lookup x = some .cell ∨ (x, NameKind.free) ∈ scope.names := by
      rcases hx' with e | e
      · obtain ⟨k0, e0, z | z⟩ := relabel_lookup e
        · subst z
          exact .inl e0
        · obtain ⟨_, z⟩ := z
          subst z
          exact .inr (lookup_mem e0)
      · obtain ⟨k0, e0, z | z⟩ := relabel_lookup e
        · subst z
          exact .inr (lookup_mem e0)
        · exact nomatch z.1
    refine Option.isSome_iff_exists.mp (PySem.W.cellsFrom_some scope.names _ _ ?_)
    rcases fr with e | e
    · exact .inl e
    · exact .inr (cellsIn_has _ _ x (.inr e))
  · have h' : scope.names.lookup x = some .cell := by simpa using (show (scope.names.lookup x == some .cell) = true from h)
    rcases cf_case scope.names _ _ e with ⟨_, z⟩ | z
    · exact Nat.le_of_succ_le z
    · rcases ci_mem _ _ z with z | z
      · rw [oneKind_mem hone z] at h'; cases h'
      · simp at z
  · rcases cf_case scope.names _ _ e with ⟨_, z⟩ | z
    · exact fun y => absurd (hlt b hb) (by rw [← y]; exact Nat.not_lt.mpr (Nat.le_of_succ_le z))
    · exact (hf b hb).2.2.2.2.1 x c (sub x c z)
  · obtain ⟨_, _, _, f3, _⟩ := hf b hb
    rcases f3 with z | z
    · exact I.ok.noex b o e z
    · exact absurd (Nat.lt_of_lt_of_le (Heap.lt_size (I.ok.bs b o e).1) z) (Nat.lt_irrefl _)
theorem block_invC {pins : List (Addr × Obj)} {σ : St} {H : Hp} {s : Shared} {N : List Str} {scope : Scope} {fp : List Addr} {cp : List (Option Nat)} {h' : Heap} {m : Str → Option Value} {t' : Nat} (I : Inv X pins σ H s) (hf : ∀ b ∈ fp, FpOk X pins H b) (hlt : ∀ b ∈ fp, b < s.heap.objs.size) (hk : scope.kind = .function)
    (hone : oneKind scope = true) (hfree : freeOk X.env.scope scope.names = true) (hcap : capOk X scope N cp = true)
    (hns : h'.Ns s.heap.objs.size m) (hx : ∀ b o, s.heap.get? b = some o → h'.get? b = some o) (hnew : ∀ x c, (bCells X scope s.heap.objs.size).lookup x = some c → (cellsIn X.env scope.names []).lookup x = some c ∨ h'.IsCell c none) : Inv (cxBlockC X N scope fp H s) [] (capSt cp σ) H { s with heap := h', toks := t' } := by
  have has : ∀ n, (n, NameKind.free) ∈ scope.names → ∃ c, X.env.cells.lookup n = some c := fun n hn => I.ok.has n (freeOk_mem hfree n hn)
  have sub : ∀ x c, (cellsIn X.env scope.names []).lookup x = some c → X.env.cells.lookup x = some c := cellsIn_sub _ _ has fun x c e => by simp at e
  refine ⟨cxBlockC_ok I hf hlt hk hone hfree, rfl, I.bare, ⟨fun b o e n _ _ => hx b o e, fun b o e n _ _ => ⟨o.slots, hx b o e⟩, fun b o e n _ => n, fun b o e _ => ⟨o, hx b o e⟩, fun b xs e => e, fun b o xs e => e, fun b ps e => ⟨#[], by rw [Array.append_empty]; exact e⟩⟩, ⟨m, hns, fun i x v e1 e2 e3 => ?_⟩, fun x c e => ?_, I.hok.fresh (Nat.le_refl _), fun x c e => ?_, (fun p hp => nomatch hp), I.hok.kept hx, ?_⟩
  · obtain ⟨j, h1, h2, h3⟩ := capOk_get hcap e1 e2
    obtain ⟨m', _, hl⟩ := I.loc
    have hkx := freeOk_mem hfree x (lookup_mem h3)
    obtain ⟨u, r, l⟩ := hl j x v h1 h2 (.inr hkx)
    rcases l with ⟨l, _⟩ | ⟨_, c, hc, hcell'⟩
    · rcases hkx with z | z
      · exact nomatch (Option.some.inj (l.symm.trans z))
      · exact nomatch (Option.some.inj (l.symm.trans z))
    · obtain ⟨c', hc'⟩ := Option.isSome_iff_exists.mp (cellsIn_has (env := X.env) scope.names [] x (.inr (lookup_mem h3)))
      have ec := sub x c' hc'
      rw [hc] at ec
      cases ec
      have hcb : (bCells X scope s.heap.objs.size).lookup x = some c := by
        unfold bCells
        rw [cf_old scope.names _ _ fun z => ?_]
        · exact hc'
        · rw [oneKind_mem hone z] at h3; cases h3
      refine ⟨u, r, .inr ⟨?_, c, hcb, ?_⟩⟩
      · rcases e3 with z | z | z
        · obtain ⟨k0, e0, y | y⟩ := relabel_lookup (show (scope.names.map fun (n, k) => if (k == NameKind.free && X.env.scope.kind == .function && X.env.kindOf n == some .cell) then (n, NameKind.cell) else (n, k)).lookup x = some .local from z)
          · rw [h3] at e0; cases e0; cases y
          · exact nomatch y.1
        · exact .inl z
        · exact .inr z
      · obtain ⟨o, ho, hd⟩ := hcell'
        exact ⟨o, hx c o ho, hd⟩
  · rcases hnew x c e with z | z
    · obtain ⟨v, o, ho, hd⟩ := I.cell x c (sub x c z)
      exact ⟨v, o, hx c o ho, hd⟩
    · exact ⟨none, z⟩
  · rcases cf_case scope.names _ _ e with ⟨_, z⟩ | z
    · exact I.hok.fresh (Nat.le_of_succ_le z)
    · exact I.freeC x c (sub x c z)
  · show (capSt cp σ).length = N.length
    unfold capSt
    rw [List.length_map]
    exact capOk_len hcap
theorem block_afterC {pins : List (Addr × Obj)} {σ σ' : St} {H H' : Hp} {s s' : Shared} {N : List Str} {scope : Scope} {fp : List Addr} {pins' : List (Addr × Obj)} (I : Inv X pins σ H s) (hf : ∀ b ∈ fp, FpOk X pins H b)
    (J : Inv (cxBlockC X N scope fp H s) pins' σ' H' s') : Inv X pins σ H' s' :=
  I.call' (ch := fp) J.os J.base J.hok J.bare fun b hb => ⟨(hf b hb).2.2.2.1, (hf b hb).2.1, (hf b hb).2.2.2.2.1, (hf b hb).2.2.2.2.2⟩
theorem lc_blockC {elt iter target : Expr} {ifs : List Expr} {scope : Scope} {pos : Pos} {N : List Str} {cp : List (Option Nat)} {g : TG} {tt : TT} {te : TE} {pins : List (Addr × Obj)} {σ : St} {H : Hp} {s : Shared} {E : Value → Shared → Prop} {Q : Addr → Hp → Prop}
    {it : Addr} {fp : List Addr} {tn : Nat → Heap → Prop} {J : It} {RR : Value → Addr → Result → Shared → Prop} (hc : X.calm = true) (hk : scope.kind = .function) (hone : oneKind scope = true) (hfree : freeOk X.env.scope scope.names = true) (hcap : capOk X scope N cp = true)
    (hg : ∀ fp H s, PG (cxBlockC X N scope fp H s) target g) (ht : ∀ fp H s, PF (cxBlockC X N scope fp H s) ifs tt) (he : ∀ fp H s, PE (cxBlockC X N scope fp H s) elt te)
    (I : Inv X pins σ H s) (T : Turn X.prog X.w X.K target J fp it tn) (st : tn 0 s.heap) (hf : ∀ b ∈ fp, FpOk X pins H b)
    (h : ∀ D, H D = none → LcW J D (capSt cp σ) H g tt te Q)
    (hRR : ∀ D C s' H' m, Inv X pins σ H' s' → FpOk X pins H' C → s'.heap.Ns C m → Q D H' → RR (.ref D) C (.ok .next) s') :
    wpAny (model X.prog X.w) X.A (newList []) (fun acc s3 => wpAny (model X.prog X.w) X.A (newFunctionEnv scope X.env.globals (cellsIn X.env scope.names []) [] X.env.qual none .none (some X.env)) (fun cenv s4 =>
      codeAny (model X.prog X.w) X.A (.compStart (.ListComp elt [⟨target, iter, ifs, 0⟩] scope pos) 0 (.ref it) acc { cenv with scope := relabel scope X.env }) (RR acc cenv.locals) s4) E s3) E s := by
  have hlt : ∀ b ∈ fp, b < s.heap.objs.size := fun b hb => by
    obtain ⟨o, e, _⟩ := T.obj _ _ st b hb
    exact Heap.lt_size e
  refine wpAny_newObj_type (env_around ?_)
  have hD : H s.heap.objs.size = none := I.hok.fresh (Nat.le_refl _)
  have I3 : Inv X pins σ (upd H s.heap.objs.size (.lst [])) { s with heap := s.heap.push { cls := .type "list", dict := none, data := .seq ([] : List Value).toArray } } :=
    I.laid (t' := s.toks) (fun b u e => Heap.get?_push_of_some _ e) (Nat.le_refl _) ⟨Nat.zero_le _, [], 0, .nil, Heap.get?_push_size _ rfl⟩
  have hf3 : ∀ b ∈ fp, FpOk X pins (upd H s.heap.objs.size (.lst [])) b := fun b hb => ⟨by rw [upd_ne (Nat.ne_of_lt (hlt b hb))]; exact (hf b hb).1, (hf b hb).2⟩
  have hlt3 : ∀ b ∈ fp, b < (s.heap.push { cls := .type "list", dict := none, data := .seq ([] : List Value).toArray }).objs.size := fun b hb => by rw [Heap.size_push]; exact Nat.lt_succ_of_lt (hlt b hb)
  generalize hH2 : s.heap.push { cls := .type "list", dict := none, data := .seq ([] : List Value).toArray } = H2 at I3 hlt3 ⊢
  generalize hs3 : ({ s with heap := H2 } : Shared) = s3 at I3
  have hs3h : s3.heap = H2 := by rw [← hs3]
  have hns1 : (pushCells (H2.push { cls := .type "dict", data := .dict #[] }) scope.names).Ns H2.objs.size (fun _ => none) := (Heap.Ns.new H2 (.type "dict")).keeps (pushCells_keeps _ _)
  have hnew : ∀ x c, (bCells X scope s3.heap.objs.size).lookup x = some c → (cellsIn X.env scope.names []).lookup x = some c ∨ (pushCells (H2.push { cls := .type "dict", data := .dict #[] }) scope.names).IsCell c none := fun x c e => by
    rw [hs3h] at e
    exact pc_cells scope.names (H2.push { cls := .type "dict", data := .dict #[] }) _ (by rw [Heap.size_push]; exact e)
  have ext1 : ∀ b o, s3.heap.get? b = some o → (pushCells (H2.push { cls := .type "dict", data := .dict #[] }) scope.names).get? b = some o := fun b o e => by
    rw [hs3h] at e
    exact pushCells_keeps _ _ _ _ (Heap.get?_push_of_some _ e)
  generalize hh1 : pushCells (H2.push { cls := .type "dict", data := .dict #[] }) scope.names = h1 at hns1 hnew ext1
  have J0 : Inv (cxBlockC X N scope fp (upd H s.heap.objs.size (.lst [])) s3) [] (capSt cp σ) (upd H s.heap.objs.size (.lst [])) { s3 with heap := h1, toks := s.toks } :=
    block_invC I3 hf3 (by rw [hs3h]; exact hlt3) hk hone hfree hcap (by rw [hs3h]; exact hns1) ext1 hnew
  have st1 : tn 0 h1 := T.keep _ _ _ st fun b hb o e => ext1 b o (by rw [hs3h, ← hH2]; exact Heap.get?_push_of_some _ e)
  obtain ⟨W, ⟨m0, w0⟩, turn⟩ := h s.heap.objs.size hD
  have stat : ∀ {H' : Hp}, (∀ b ∈ fp, H' b = none) → ∀ b ∈ fp, FpOk (cxBlockC X N scope fp (upd H s.heap.objs.size (.lst [])) s3) [] H' b := fun {H'} hn b hb =>
    ⟨hn b hb, (J0.ok.exf b hb).1, J0.ok.exfs b hb, .inl hb, (J0.ok.exf b hb).2, fun p hp => nomatch hp⟩
  have loop : codeAny (model X.prog X.w) X.A (.compLoop (.ListComp elt [⟨target, iter, ifs, 0⟩] scope pos) 0 (.ref it) (.ref s.heap.objs.size) (compEnvC scope (bCells X scope H2.objs.size) H2.objs.size X.env))
      (RR (.ref s.heap.objs.size) H2.objs.size) { s3 with heap := h1, toks := s.toks } := by
    have eEnv : compEnvC scope (bCells X scope H2.objs.size) H2.objs.size X.env = (cxBlockC X N scope fp (upd H s.heap.objs.size (.lst [])) s3).env := by
      rw [← hs3h]; rfl
    rw [eEnv]
    refine compLoop_any (fun n s' => ∃ i τ ys H', Inv (cxBlockC X N scope fp (upd H s.heap.objs.size (.lst [])) s3) [] τ H' s' ∧ tn i s'.heap ∧ (∀ b ∈ fp, H' b = none) ∧ W i n τ ys H') ?_ m0 ⟨0, capSt cp σ, [], _, J0, st1, fun b hb => (hf3 b hb).1, w0⟩
    rintro n s4 ⟨i, τ, ys, H4, I4, st4, fr4, w4⟩
    obtain ⟨hD4, hh⟩ := turn i n τ ys H4 w4
    rcases hh with ⟨stop, qn⟩ | ⟨go, hlen, N1, N2, hN1, hN2, step⟩
    · refine thn (T.done (cxBlockC X N scope fp (upd H s.heap.objs.size (.lst [])) s3) rfl rfl rfl hc i [] s4 τ H4 _ I4 (stat fr4) st4 stop) fun r s5 ⟨hr, I5⟩ => ?_
      subst hr
      obtain ⟨m, hm, _⟩ := I5.loc
      have e5 : H2.objs.size = (cxBlockC X N scope fp (upd H s.heap.objs.size (.lst [])) s3).env.locals := by rw [← eEnv]; rfl
      refine hRR _ _ s5 H4 m (block_afterC I3 hf3 I5) ?_ (by rw [e5]; exact hm) qn
      exact I3.fpOk (by rw [hs3h]; exact Nat.le_refl _) (by rw [e5]; exact I5.free)
    · refine thn (T.item (cxBlockC X N scope fp (upd H s.heap.objs.size (.lst [])) s3) rfl rfl rfl hc i [] s4 τ H4 _ I4 (stat fr4) st4 go) fun r s5 ⟨u, hr, h5⟩ => ?_
      subst hr
      refine thn h5 fun _ s6 ⟨x, H6, I6, r6, y6, st6, fr6⟩ => ?_
      have I6' := I6.pinned (stat fr6) (T.obj _ _ st6)
      refine thn (hg fp _ _ _ s6 τ H6 x u _ I6' r6 (step x H6 y6)) fun _ s7 ⟨σ7, H7, I7, q7⟩ => ?_
      refine thn (ht fp _ _ _ s7 σ7 H7 _ I7 q7) fun ok s8 ⟨H8, I8, q8⟩ => ?_
      have back : ∀ {σ' : St} {H' : Hp} {s' : Shared}, Inv (cxBlockC X N scope fp (upd H s.heap.objs.size (.lst [])) s3) ([] ++ pinsAt fp s6.heap) σ' H' s' → Inv (cxBlockC X N scope fp (upd H s.heap.objs.size (.lst [])) s3) [] σ' H' s' ∧ tn (i + 1) s'.heap ∧ ∀ b ∈ fp, H' b = none := fun {σ' H' s'} I' => by
        refine ⟨I'.unpinned, T.keep _ _ _ st6 fun b hb o e => (I'.pin (b, o) (List.mem_append_right _ (List.mem_append_right _ (mem_pinsAt hb e)))).1, fun b hb => ?_⟩
        obtain ⟨o, e, d⟩ := T.obj _ _ st6 b hb
        exact (I'.pin (b, o) (List.mem_append_right _ (List.mem_append_right _ (mem_pinsAt hb e)))).2.1
      cases ok with
      | false =>
        rw [if_neg Bool.false_ne_true] at q8 ⊢
        obtain ⟨m', hm, w8⟩ := hN2 _ _ q8
        obtain ⟨b1, b2, b3⟩ := back I8
        exact ⟨m', hm, i + 1, σ7, ys, H8, b1, b2, b3, w8⟩
      | true =>
        rw [if_pos rfl] at q8 ⊢
        refine thn (he fp _ _ _ s8 σ7 H8 _ I8 q8) fun y s9 ⟨v, H9, I9, r9, hD9, n9⟩ => ?_
        obtain ⟨m', hm, w9⟩ := hN1 _ _ _ n9
        refine thn (mt_append _ s9 σ7 H9 (.ref s.heap.objs.size) [v] (.ref s.heap.objs.size) [y] (fun _ H' => H' = upd H9 s.heap.objs.size (.lst (ys ++ [v]))) I9 rfl (.cons r9 .nil) ⟨_, ys, v, rfl, rfl, hD9, hlen, rfl⟩) fun _ s10 ⟨_, H10, I10, _, e10⟩ => ?_
        subst e10
        obtain ⟨b1, b2, b3⟩ := back I10
        exact ⟨m', hm, i + 1, σ7, _, _, b1, b2, b3, w9⟩
  subst hs3
  subst hh1
  exact codeAny_compStart_list loop (T.self _ 0 _ _ _ st1 loop)
theorem ps_setCC {i : Nat} {x : Str} {px : Pos} {elt iter target : Expr} {ifs : List Expr} {scope : Scope} {pos spos : Pos} (N : List Str) (cp : List (Option Nat)) {wi : TI} {g : TG} {tt : TT} {te : TE} (hc : X.calm = true) (hN : X.N.Nodup) (hi' : X.N[i]? = some x) (hx : Loc X.env.scope x) (hi : PI X target iter wi)
    (hg : ∀ fp H s, PG (cxBlockC X N scope fp H s) target g) (ht : ∀ fp H s, PF (cxBlockC X N scope fp H s) ifs tt) (he : ∀ fp H s, PE (cxBlockC X N scope fp H s) elt te)
    (hsw : autoParam (swapsWith (.ListComp elt [⟨target, iter, ifs, 0⟩] scope pos) (some (.Name x px)) spos.line X.env = pure true) L2.aRfl._auto_1)
    (hk : autoParam (scope.kind = .function) L2.aRfl._auto_1) (hone : autoParam (oneKind scope = true) L2.aRfl._auto_1) (hfree : autoParam (freeOk X.env.scope scope.names = true) L2.aRfl._auto_1) (hcap : autoParam (capOk X scope N cp = true) L2.aRfl._auto_1)
    (hnames : autoParam ((scope.names.all fun p => p.2 != .local || scope.names.lookup p.1 == some .local) = true) L2.aRfl._auto_1) (hs : autoParam (∀ x, foldedSetIterable iter X.env x = pure x) L2.aIrf._auto_1)
    (hf : autoParam (X.fn x = true ∨ X.env.scope.names.lookup x = some .local) L2.aFst._auto_1) :
    PS X (.Assign [.Name x px] (.ListComp elt [⟨target, iter, ifs, 0⟩] scope pos) spos) (fun D σ H => tLC cp wi g tt te σ H fun a H' => D.nx (σ.set i (some (.ref a))) H') := by
  intro pins s σ H D I h
  have has : ∀ n, (n, NameKind.free) ∈ scope.names → ∃ c, X.env.cells.lookup n = some c := fun n hn => I.ok.has n (freeOk_mem hfree n hn)
  rw [exec_Assign_Name_used _ _ _ _ hsw]
  refine wpAny_bind (wpAny_standAt (wpAny_bind ?_))
  show wpAny _ _ (do let _ ← comprehension (.ListComp elt [⟨target, iter, ifs, 0⟩] scope pos) scope X.env _ (newList []) false (eval iter X.env) (some (assign (.Name x px) X.env))) _ _ s
  refine wpAny_bind (wpAny_mono (wpAny_comprehension_free (use := some (assign (.Name x px) X.env)) (Q := fun _ s' => SP X pins D .next s') rfl hs (closureFor_cells has) hk (fun x hx hl => ?_)
    (thn (hi pins s σ H _ I h) fun xv s1 h1 => thn h1 fun itv s2 h2 => ?_)) (fun _ s' hq => wpAny_pure (wpAny_pure hq)) fun _ _ e => e)
  · have := List.all_eq_true.mp hnames x hx
    simp only [Bool.or_eq_true, bne_iff_ne, beq_iff_eq] at this
    exact this.resolve_left fun z => z hl
  · obtain ⟨it, fp, tn, J, H2, e, I2, T, st2, f2, hW⟩ := h2
    subst e
    refine lc_blockC (N := N) (cp := cp) hc hk hone hfree hcap hg ht he I2 T st2 f2 hW fun D' C s' H' m I' fC hm q => ?_
    show wpAny _ _ (assign (.Name x px) X.env (.ref D')) _ _ _
    refine wpAny_assign_Name (store_ok2 I' hN hi' hx (v := .ref D') rfl (fun s'' I'' hsb => ?_) hf)
    obtain ⟨a, hsb, ha⟩ := hsb
    have hCa : C ≠ a := by
      rcases ha with e | e
      · rw [e]; exact fC.2.1
      · exact fun z => fC.2.2.2.2.1 x a e z.symm
    refine ⟨m, hm.sameBut hsb hCa, fun h' hsb' => ?_⟩
    exact ⟨_, H', I''.turned (t' := s''.toks) (fun b o hb e => hsb'.extBut b o hb e) fC.1 fC.2.1 fC.2.2.2.1 fC.2.2.2.2.1 fC.2.2.2.2.2, q⟩
end
end L2
namespace L2
open PySem PySem.Spec PyProof.Rows
noncomputable def rCatG (K : PySem.W.Frag) : R2 := fun x y H Q => ∃ a b xs ys, x = .ref a ∧ y = .ref b ∧ SqT K H a xs ∧ SqT K H b ys ∧ ys ≠ [] ∧ xs.length + ys.length ≤ sizeLine ∧ ∀ (p : Addr) (H' : Hp), Same H H' → SqT K H' p (xs ++ ys) → Q (.ref p) H'
theorem op_catG {X : Cx} : OpR X (binaryOp .Add) (rCatG X.K) := by
  intro pins s σ H x y v u Q I rx ry h
  obtain ⟨a, b, xs, ys, rfl, rfl, ha, hb, hy, hz, q⟩ := h
  by_cases hx : xs = []
  · subst hx
    cases rx
    cases ry
    obtain ⟨its, r1, p1, _⟩ := I.tuple ha
    obtain ⟨its2, r2, p2, _⟩ := I.tuple hb
    have e0 : its = [] := r1.nil_iff.mpr rfl
    subst e0
    obtain ⟨⟨c1, d1, da1, sl1⟩, ho, hc, n, hd⟩ := id p1
    obtain ⟨⟨c2, d2, da2, sl2⟩, ho2, hc2, n2, hd2⟩ := id p2
    simp only at hc hd hc2 hd2
    subst hc hd hc2 hd2
    exact concat_meets ⟨_, ho, rfl⟩ ⟨_, ho2, rfl⟩ noFill_tuple_add seq_tuple_add PySem.F.slot_tuple_add PySem.F.entry_tuple_add (PySem.F.args_tuple_add_2 _ _) (tuple_addW0 a b ([] : List Value).toArray its2.toArray n n2 d1 d2 sl1 sl2 (by simp)) ⟨ho, ho2, ⟨.ref b, H, I, rfl, q b H (Same.refl H) hb⟩⟩
  · exact op_catT pins s σ H (.ref a) (.ref b) v u Q I rx ry ⟨a, b, xs, ys, rfl, rfl, ha, hb, hx, hz, fun z => absurd z hy, fun _ p hp => q p _ (same_new' hp _) (sqT_new upd_same)⟩
theorem pi_listK {X : Cx} {K : PySem.W.Frag} {tg l : Expr} {tl : TE} (hK : X.K = K) (hl : PE X l tl) : PI X tg l (iList K tl) := by subst hK; exact pi_list hl
end L2
namespace L2
open PySem PySem.W PyProof.Rows
section
variable {r : Nat → Int} {n : Nat}
end
end L2
namespace L2
open PySem PySem.Spec PySem.W PyProof.Rows
open PySem.SeqAt
section
variable {prog : Program} {w : World} {A : Around} {E : Value → Shared → Prop} {s : Shared}
end
section
variable {prog : Program} {w : World} {A : Around} {E : Value → Shared → Prop} {s : Shared}
end
end L2
namespace L2
open PySem PySem.Spec PySem.W PyProof.Rows
open PySem.SeqAt
section
variable {prog : Program} {w : World} {A : Around} {E : Value → Shared → Prop} {s : Shared}
end
section
variable {X : Cx}
end
end L2
namespace L2
open PySem PySem.Spec PyProof.Rows PySem.W
section
variable {X : Cx}
end
end L2
namespace L2
open PySem PySem.Spec PySem.W PyProof.Rows
open PySem.SeqAt
section
variable {A : Around} {s : Shared}
end
section
variable {X : Cx}
open Classical in
open Classical in
end
end L2
namespace L2
open PySem PySem.Spec PySem.W PyProof.Rows
open PySem.SeqAt
section
variable {X : Cx}
open Classical in
end
end L2
namespace HT
open PySem PySem.Spec PyProof.Rows
section
variable {prog : Program} {w : World} {A : Around} {E : Value → Shared → Prop} {s : Shared}
end
end HT
namespace L2
open PySem PySem.Spec PySem.W PyProof.Rows
open PySem.SeqAt
section
variable {X : Cx}
end
end L2
namespace L2
open PySem
section
variable {X : Cx}
end
end L2
namespace L2
open PySem PySem.Spec PyProof.Rows
section
variable {X : Cx}
theorem lenS {α : Type} {l : List α} {n : Nat} (h : l.length = n + 1) : ∃ a t, l = a :: t ∧ t.length = n := by
  cases l with
  | nil => exact absurd h (Nat.succ_ne_zero n).symm
  | cons a t => exact ⟨a, t, rfl, Nat.succ.inj h⟩
theorem len1 {α : Type} {l : List α} (h : l.length = 1) : ∃ a, l = [a] := by
  obtain ⟨a, t, rfl, h'⟩ := lenS h
  exact ⟨a, congrArg _ (List.length_eq_zero_iff.mp h')⟩
theorem len2 {α : Type} {l : List α} (h : l.length = 2) : ∃ a b, l = [a, b] := by
  obtain ⟨a, t, rfl, h'⟩ := lenS h
  obtain ⟨b, rfl⟩ := len1 h'
  exact ⟨a, b, rfl⟩
theorem len3 {α : Type} {l : List α} (h : l.length = 3) : ∃ a b c, l = [a, b, c] := by
  obtain ⟨a, t, rfl, h'⟩ := lenS h
  obtain ⟨b, c, rfl⟩ := len2 h'
  exact ⟨a, b, c, rfl⟩
theorem bind1 {F : List Value → Prop} (h : ∀ a, F [a]) : ∀ us : List Value, us.length = 1 → F us := fun us hl => by
  obtain ⟨a, rfl⟩ := len1 hl
  exact h a
theorem bind2 {F : List Value → Prop} (h : ∀ a b, F [a, b]) : ∀ us : List Value, us.length = 2 → F us := fun us hl => by
  obtain ⟨a, b, rfl⟩ := len2 hl
  exact h a b
theorem bind3 {F : List Value → Prop} (h : ∀ a b c, F [a, b, c]) : ∀ us : List Value, us.length = 3 → F us := fun us hl => by
  obtain ⟨a, b, c, rfl⟩ := len3 hl
  exact h a b c
theorem seq_let3 {s1 s2 s3 : TS} {D : Ends} {σ : St} {H : Hp} (h : let r3 : TS := s3; let r2 : TS := tSeq s2 r3; tSeq s1 r2 D σ H) : (tSeq s1 (tSeq s2 (s3))) D σ H := h
theorem seq_let4 {s1 s2 s3 s4 : TS} {D : Ends} {σ : St} {H : Hp} (h : let r4 : TS := s4; let r3 : TS := tSeq s3 r4; let r2 : TS := tSeq s2 r3; tSeq s1 r2 D σ H) : (tSeq s1 (tSeq s2 (tSeq s3 (s4)))) D σ H := h
theorem seq_let5 {s1 s2 s3 s4 s5 : TS} {D : Ends} {σ : St} {H : Hp} (h : let r5 : TS := s5; let r4 : TS := tSeq s4 r5; let r3 : TS := tSeq s3 r4; let r2 : TS := tSeq s2 r3; tSeq s1 r2 D σ H) : (tSeq s1 (tSeq s2 (tSeq s3 (tSeq s4 (s5))))) D σ H := h
theorem seq_let6 {s1 s2 s3 s4 s5 s6 : TS} {D : Ends} {σ : St} {H : Hp} (h : let r6 : TS := s6; let r5 : TS := tSeq s5 r6; let r4 : TS := tSeq s4 r5; let r3 : TS := tSeq s3 r4; let r2 : TS := tSeq s2 r3; tSeq s1 r2 D σ H) : (tSeq s1 (tSeq s2 (tSeq s3 (tSeq s4 (tSeq s5 (s6)))))) D σ H := h
end
end L2
namespace Nb
open PySem L2
noncomputable def top (i : Nat) : Stmt := PySem.Challenge.pw_nonebetter_k33_all_points_told.main.body.getD i (.Pass ⟨0, 0, 0, 0⟩)
noncomputable abbrev sWeighed : Stmt := top 1
noncomputable abbrev sCost : Stmt := top 2
noncomputable abbrev sMost : Stmt := top 3
noncomputable abbrev sWhole : Stmt := top 9
noncomputable abbrev sCell : Stmt := top 10
noncomputable abbrev sMix2 : Stmt := top 11
noncomputable abbrev sLeft : Stmt := top 12
noncomputable def spMix2 : Sp := fun vs H Q _ => ∃ c k : Int, vs = [.int c, .int k] ∧ 0 ≤ k ∧ k ≤ 1000000 ∧ ∀ z : Int, 0 ≤ z → z < 2147483587 → Q (.int z) H
noncomputable def spLeft (K : PySem.W.Frag) : Sp := fun vs H Q _ => ∃ (a : Addr) (ns : List Int) (k n : Int), vs = [.ref a, .int k, .int n] ∧ SqL K H a (ns.map V.int) ∧ 0 ≤ k ∧ k ≤ 1000 ∧ 1 ≤ n ∧ n ≤ 1000 ∧ ∀ z : Int, Q (.int z) H
noncomputable def spRow22 (K : PySem.W.Frag) : Sp := fun vs H Q _ => ∃ (x many : Int) (g : Bool), vs = [.int x, .int many, .bl g] ∧ 0 ≤ many ∧ many ≤ 1000 ∧
  ∀ (t : Addr) (r : List Int × Int) (H' : Hp), Same H H' → RowAt K H' t r → (r.1.length : Int) = many → Q (.ref t) H'
noncomputable def spProblem22 (K : PySem.W.Frag) : Sp := fun vs H Q _ => ∃ (a : Addr) (ns : List Int) (many count : Int), vs = [.ref a, .int many, .int count] ∧ SqL K H a (ns.map V.int) ∧ 0 ≤ many ∧ many ≤ 100 ∧ 0 ≤ count ∧ count ≤ 100 ∧
  ∀ (t : Addr) (rs : List (List Int × Int)) (cs : List Int) (H' : Hp), Same H H' → ProbAt K H' t rs cs → (∀ r ∈ rs, (r.1.length : Int) = many) → (cs.length : Int) = many → (rs.length : Int) = count → Q (.ref t) H'
noncomputable def spCopy (K : PySem.W.Frag) : Sp := fun vs H Q _ => ∃ (t : Addr) (rs : List (List Int × Int)) (cs : List Int), vs = [.ref t] ∧ ProbAt K H t rs cs ∧ rs.length ≤ 1000 ∧ ∀ t' H', Same H H' → ProbAt K H' t' rs cs → Q (.ref t') H'
theorem p18 : (10 : Int) ^ (18 : Int).toNat = 1000000000000000000 := by decide +kernel
theorem bigB {b : Int} (h0 : 0 < b) (h1 : b ≤ 2000000000000000000) : b ≠ 0 ∧ Big b := ⟨by omega, Nat.lt_of_le_of_lt (show b.natAbs ≤ 2000000000000000000 by omega) (by decide +kernel)⟩
theorem baseAt (x : Int) (hx : 0 < x) (hx2 : x ≤ 100) (g : Bool) : ∃ b : Int, atI [V.int x, V.int (2 * (10 : Int) ^ (18 : Int).toNat - 1)] (if g = true then 1 else 0) = some (.int b) ∧ 0 < b ∧ b ≤ 2000000000000000000 := by
  rw [p18]
  cases g
  · exact ⟨x, rfl, hx, by omega⟩
  · exact ⟨2 * 1000000000000000000 - 1, rfl, by decide, by decide⟩
theorem atInt {ns : List Int} {i : Nat} (h : i < ns.length) : atI (ns.map V.int) (0 + (i : Int)) = some (.int (ns.getD i 0)) := by
  rw [show (0 : Int) + (i : Int) = ((i : Nat) : Int) by omega]
  refine atNat ?_
  rw [List.getElem?_map, List.getD_eq_getElem?_getD, List.getElem?_eq_getElem h]
  rfl
noncomputable def addOf (o : Option V) (n : Int) : Int := match o with
  | none => if 0 < n then n else 0
  | some (.int z) => z * n
  | some _ => 0
noncomputable def mostTo (d : List (Key × V)) (ns : List Int) (i : Nat) : Int := ((List.range i).map fun j => addOf (valV d (Sum.inl ((j : Nat) : Int))) (ns.getD j 0)).sum
theorem mostTo_succ (d : List (Key × V)) {ns : List Int} {i : Nat} {n : Int} (e : ns[i]? = some n) : mostTo d ns (i + 1) = mostTo d ns i + addOf (valV d (Sum.inl ((i : Nat) : Int))) n := by
  unfold mostTo
  have eg : ns.getD i 0 = n := by rw [List.getD_eq_getElem?_getD, e]; rfl
  rw [List.range_succ, List.map_append, List.sum_append, List.map_cons, List.map_nil, List.sum_cons, List.sum_nil, eg]
  omega
noncomputable def Worths (d : List (Key × V)) : Prop := ∀ k, valV d k = none ∨ valV d k = some (.int 0) ∨ valV d k = some (.int 1)
noncomputable def dOf (hs : List (Int × Int)) : List (Key × V) := dictOf2 (hs.map fun p => (p.1, V.int p.2))
theorem worths_fold (hs : List (Int × Int)) (hw : ∀ p ∈ hs, p.2 = 0 ∨ p.2 = 1) : ∀ d : List (Key × V), Worths d → Worths ((hs.map fun p => (p.1, V.int p.2)).foldl (fun d p => putK d (Sum.inl p.1) p.2) d) := by
  induction hs with
  | nil => intro d h; exact h
  | cons p r ih =>
    intro d h
    refine ih (fun q hq => hw q (List.mem_cons_of_mem _ hq)) _ fun k => ?_
    rw [valV_put]
    by_cases e : k = Sum.inl p.1
    · rw [if_pos e]
      rcases hw p (List.mem_cons_self ..) with z | z
      · exact .inr (.inl (congrArg (fun y => some (V.int y)) z))
      · exact .inr (.inr (congrArg (fun y => some (V.int y)) z))
    · rw [if_neg e]; exact h k
theorem worths_of {hs : List (Int × Int)} (hw : ∀ p ∈ hs, p.2 = 0 ∨ p.2 = 1) : Worths (dOf hs) := worths_fold hs hw [] fun _ => .inl rfl
noncomputable def HoldsAt (K : PySem.W.Frag) (H : Hp) (l : Addr) (hs : List (Int × Int)) : Prop := ∃ vs, SqL K H l vs ∧ PairsAre K H vs (hs.map fun p => (p.1, V.int p.2))
noncomputable def spMost (K : PySem.W.Frag) : Sp := fun vs H Q _ => ∃ (t l : Addr) (r : List Int × Int) (hs : List (Int × Int)), vs = [.ref t, .ref l] ∧ RowAt K H t r ∧ HoldsAt K H l hs ∧ hs.length ≤ 1000 ∧ (∀ p ∈ hs, p.2 = 0 ∨ p.2 = 1) ∧ ∀ H', Same H H' → Q (.int (mostTo (dOf hs) r.1 r.1.length)) H'
section
variable {P : Program} {w : World} {K : PySem.W.Frag} {mg : Str → Option Value} {base : Heap}
theorem scWeighed : FnScope ["numbers", "point"] ["numbers", "point"] (defScope sWeighed) := ⟨rfl, rfl, rfl, by decide +kernel, rfl, by decide +kernel, by decide +kernel⟩
theorem okWeighed (F : Fn K mg "weighed" sWeighed) (M : Mg mg) : Cal P w K mg base 1 "weighed" ["numbers", "point"] (spWeighed K) := by
  refine cal_of F scWeighed (fun _ _ _ _ _ _ => bind2 (fun _ _ => rfl)) (fun vs H Q E h => ?_) (fun f cdv A outer s H vs Q E hr h => ?_)
  · obtain ⟨a, b, ns, ms, rfl, _⟩ := h
    rfl
  obtain ⟨a, b, ns, ms, rfl, ha, hb, h1, hm, q⟩ := h
  refine ⟨_, (pss_one (ps_ret (pe_callB (call_sumI rfl) rfl M.sum bt_sum (pa_cons (pe_lc ["number", "worth"] [none, none] rfl (pi_zip false false rfl M.zip_ (pa_cons (pv 0) (pa_cons (pv 1) pa_nil))) (fun _ _ _ => (pg_pair (K := K) (i := 0) (j := 1) rfl rfl (show (["number", "worth"] : List Str).Nodup by decide +kernel) rfl rfl rfl rfl)) (fun _ _ _ => pf_nil) (fun _ _ _ => (pe_op op_mul (pv 0) (pv 1)))) pa_nil)))), ?_⟩
  have hz : (1000 : Nat) < sizeLine := by decide
  have lz : (List.zipWith (· * ·) ns ms).length = min ns.length ms.length := List.length_zipWith
  refine ⟨_, rfl, _, rfl, a, b, rfl, ⟨_, ha⟩, ⟨_, hb⟩, fun D hD => ?_⟩
  refine lc_any (n := min ns.length ms.length) (fun i τ ys H1 => ∃ u v : Option V, τ = [u, v] ∧ ys = ((List.zipWith (· * ·) ns ms).take i).map V.int ∧ H1 D = some (.lst ys) ∧ Same H H1) ?_ (fun i τ ys H1 hi h => ?_) (fun i τ ys H1 hi h => ?_) (fun τ ys H1 h => ?_) ?_ ?_
  · exact ⟨none, none, rfl, rfl, upd_same, same_new' hD _⟩
  · obtain ⟨u, v, rfl, rfl, hD1, s1⟩ := h
    exact ⟨hD1, by rw [List.length_map, List.length_take]; omega⟩
  · obtain ⟨u, v, rfl, rfl, hD1, s1⟩ := h
    have i1 : i < ns.length := by omega
    have i2 : i < ms.length := by omega
    exact ⟨_, _, .int ns[i], .int ms[i], s1.tup ha, s1.tup hb, by rw [List.getElem?_map, List.getElem?_eq_getElem i1]; rfl, by rw [List.getElem?_map, List.getElem?_eq_getElem i2]; rfl⟩
  · obtain ⟨u, v, rfl, rfl, hD1, s1⟩ := h
    exact ⟨_, _, s1.tup ha, s1.tup hb, by rw [List.length_map, List.length_map]; omega⟩
  · rintro i τ ys H1 x H2 hi ⟨u, v, rfl, rfl, hD1, s1⟩ ⟨T, x1, y1, rfl, hT, rfl, e1, e2⟩
    obtain ⟨n, en, rfl⟩ := getMapI (e1 _ (s1.tup ha))
    obtain ⟨m, em, rfl⟩ := getMapI (e2 _ (s1.tup hb))
    have hm1 := hm m (memI em)
    refine ⟨T, _, rfl, sqT_new upd_same, rfl, _, _, rfl, _, _, rfl, rfl, ?_⟩
    refine ⟨_, rfl, _, rfl, _, _, rfl, rfl, .inr ⟨by omega, by omega⟩, ?_, _, _, rfl, ?_, upd_same, fun b' o e => ?_⟩
    · rw [upd_ne (ne_of_none hD1 hT)]; exact hD1
    · rw [takeS (getZip en em), List.map_append]; rfl
    · rw [upd_ne (ne_of_none e hD), upd_ne (ne_of_none (s1 _ _ e) hT)]; exact s1 _ _ e
  · rintro τ ys H1 ⟨u, v, rfl, rfl, hD1, s1⟩
    rw [List.take_of_length_le (by omega)] at hD1
    exact ⟨D, _, rfl, sqL_new hD1, q _ s1⟩
theorem scCost : FnScope ["problem", "point"] ["problem", "point"] (defScope sCost) := ⟨rfl, rfl, rfl, by decide +kernel, rfl, by decide +kernel, by decide +kernel⟩
theorem okCost (F : Fn K mg "cost_of" sCost) (M : Mg mg) (c_weighed : Cal P w K mg base 1 "weighed" ["numbers", "point"] (spWeighed K)) : Cal P w K mg base 2 "cost_of" ["problem", "point"] (spCost K) := by
  refine cal_of F scCost (fun _ _ _ _ _ _ => bind2 (fun _ _ => rfl)) (fun vs H Q E h => ?_) (fun f cdv A outer s H vs Q E hr h => ?_)
  · obtain ⟨t, b, rs, cs, ms, rfl, _⟩ := h
    rfl
  obtain ⟨t, b, rs, cs, ms, rfl, ⟨l, c, vs, ht, hl, hrw, hc⟩, hb, h1, hm, q⟩ := h
  refine ⟨_, (pss_one (ps_ret (pe_fn c_weighed (hr.mono (by decide)) (pa_cons (pe_ix ix_tup (pv 0) pe_int (fun _ _ => rfl)) (pa_cons (pv 1) pa_nil))))), ?_⟩
  exact ⟨_, rfl, t, _, _, _, rfl, rfl, ht, at1, _, rfl, c, b, cs, ms, rfl, hc, hb, h1, hm, fun H' s' => q H' s'⟩
theorem scMost : FnScope ["row", "holds", "held", "most", "choice", "number", "worth"] ["row", "holds"] (defScope sMost) := ⟨rfl, rfl, rfl, by decide +kernel, rfl, by decide +kernel, by decide +kernel⟩
theorem okMost (F : Fn K mg "most_of" sMost) (M : Mg mg) : Cal P w K mg base 1 "most_of" ["row", "holds"] (spMost K) := by
  refine cal_of F scMost (fun _ _ _ _ _ _ => bind2 (fun _ _ => rfl)) (fun vs H Q E h => ?_) (fun f cdv A outer s H vs Q E hr h => ?_)
  · obtain ⟨t, l, r, hs, rfl, _⟩ := h
    rfl
  obtain ⟨t, l, r, hs, rfl, ⟨p, hr1, hr2⟩, ⟨vs, hl, hp⟩, hn, hw, q⟩ := h
  have hu : (A.deeper (PyProof.Rows.envOfC "most_of" (defScope sMost) s.heap.objs.size f cdv)).units + 1 < cLine := Nat.lt_of_le_of_lt (Nat.add_le_add_left (by decide) _) hr.un
  refine ⟨_, (pss_cons (ps_set (i := 2) scMost.nd rfl (Or.inl rfl) (pe_callTy (call_dict_of rfl) rfl M.dict_ bt_dict (pa_cons (pv 1) pa_nil)))
    (pss_cons (ps_set (i := 3) scMost.nd rfl (Or.inl rfl) pe_int)
    (pss_cons (ps_for PassesOwn.never rfl (pi_enum false rfl M.enumerate_ (pa_cons (pe_ix ix_tup (pv 0) pe_int (fun _ _ => rfl)) pa_nil)) (pg_pair (K := K) (i := 4) (j := 5) rfl rfl scMost.nd rfl rfl rfl rfl) (pss_cons (ps_set (i := 6) scMost.nd rfl (Or.inl rfl) (pe_dget1 hu (pv 2) (pv 4) ⟨rfl, rfl, rfl, rfl⟩))
    (pss_one (ps_if (PW.pt (pw_or (pt_cmpR op_eq (pv 6) pe_int (nomark _)) (pw_or1 (PW.pt (pw_and (pt_cmpR op_isN (pv 6) pe_non (nomark _)) (pw_and1 (pt_cmpR op_gt (pv 5) pe_int (nomark _)))))))) (pss_one (ps_aug (i := 3) scMost.nd rfl (Or.inl rfl) (pv 5) ip_add)) pss_nil))))
    (pss_one (ps_ret (pv 3)))))), ?_⟩
  refine seq_let4 ?_
  intro rT4 rT3 rT2
  have hz : (1000 : Nat) < sizeLine := by decide
  refine ⟨_, rfl, l, vs, _, rfl, hl, hp, by rw [List.length_map]; omega, fun d hd => ?_⟩
  have s1 : Same H (upd H d (.dK (dOf hs))) := same_new' hd _
  refine ⟨_, rfl, t, _, _, _, rfl, rfl, s1.tup hr1, at0, p, rfl, ⟨_, s1.tup hr2⟩, for_enum (K := K) (m := false) (a := p) (xs := r.1.map V.int) (fun i σ H1 => ∃ u v x : Option V, σ = [some (.ref t), some (.ref l), some (.ref d), some (.int (mostTo (dOf hs) r.1 i)), u, v, x] ∧ H1 d = some (.dK (dOf hs)) ∧ Same H H1) ⟨none, none, none, rfl, upd_same, s1⟩ (fun i σ H1 _ h => ?_) ?_ ?_⟩
  · obtain ⟨u, v, x, rfl, hd1, s2⟩ := h
    exact s2.tup hr2
  · rintro i x σ H1 T e1 ⟨u, v, y, rfl, hd1, s2⟩ hT
    obtain ⟨n, en, rfl⟩ := getMapI e1
    have hd2 : upd H1 T (.tup [.int ((i : Nat) : Int), .int n]) d = some (.dK (dOf hs)) := by rw [upd_ne (ne_of_none hd1 hT)]; exact hd1
    have s3 := s2.trans (same_new' hT (.tup [.int ((i : Nat) : Int), .int n]))
    have em := mostTo_succ (dOf hs) en
    refine ⟨T, _, rfl, sqT_new upd_same, rfl, _, _, rfl, _, _, rfl, rfl, ?_⟩
    refine ⟨_, rfl, d, rfl, .inl ⟨_, .inl hd2⟩, _, rfl, _, DGet.k (k := Sum.inl ((i : Nat) : Int)) hd2, ?_⟩
    rcases worths_of hw (Sum.inl ((i : Nat) : Int)) with e | e | e
    · rw [e] at em ⊢
      refine ⟨_, rfl, rfl, _, rfl, iteF ⟨_, rfl, rfl, _, rfl, iteT ⟨_, rfl, _, _, rfl, rfl, _, rfl, ite2 (fun c => ?_) (fun c => ?_)⟩⟩⟩
      · have c' : 0 < n := of_decide_eq_true c
        refine ⟨_, rfl, _, rfl, _, _, rfl, rfl, some (.int ((i : Nat) : Int)), some (.int n), some .non, ?_, hd2, s3⟩
        rw [em, show addOf none n = n from if_pos c']
        rfl
      · have c' : ¬ 0 < n := fun z => c (decide_eq_true z)
        refine ⟨some (.int ((i : Nat) : Int)), some (.int n), some .non, ?_, hd2, s3⟩
        rw [em, show addOf none n = 0 from if_neg c', Int.add_zero]
        rfl
    · rw [e] at em ⊢
      refine ⟨_, rfl, rfl, _, rfl, iteF ⟨_, rfl, rfl, _, rfl, iteF (iteF ?_)⟩⟩
      refine ⟨some (.int ((i : Nat) : Int)), some (.int n), some (.int 0), ?_, hd2, s3⟩
      rw [em, show addOf (some (.int 0)) n = 0 from Int.zero_mul n, Int.add_zero]
      rfl
    · rw [e] at em ⊢
      refine ⟨_, rfl, rfl, _, rfl, iteT (iteT ?_)⟩
      refine ⟨_, rfl, _, rfl, _, _, rfl, rfl, some (.int ((i : Nat) : Int)), some (.int n), some (.int 1), ?_, hd2, s3⟩
      rw [em, show addOf (some (.int 1)) n = n from Int.one_mul n]
      rfl
  · rintro σ H1 ⟨u, v, y, rfl, hd1, s2⟩
    rw [List.length_map]
    exact ⟨_, rfl, q H1 s2⟩
theorem scWhole : FnScope ["_law_found"] ["_law_found"] (defScope sWhole) := ⟨rfl, rfl, rfl, by decide +kernel, rfl, by decide +kernel, by decide +kernel⟩
theorem okWhole (F : Fn K mg "_law_whole" sWhole) (M : Mg mg) : Cal P w K mg base 1 "_law_whole" ["_law_found"] (spWhole) := by
  refine cal_of F scWhole (fun _ _ _ _ _ _ => bind1 (fun _ => rfl)) (fun vs H Q E h => ?_) (fun f cdv A outer s H vs Q E hr h => ?_)
  · obtain ⟨z, rfl, _⟩ := h
    rfl
  obtain ⟨z, rfl, q⟩ := h
  refine ⟨_, (pss_one (ps_ret (pe_and (pe_callB call_isi rfl M.isinstance bt_isinstance (pa_cons (pv 0) (pa_cons (pe_ty M.int_ bt_int) pa_nil))) (pe_one (pe_not (pe_callB call_isi rfl M.isinstance bt_isinstance (pa_cons (pv 0) (pa_cons (pe_ty M.bool_ bt_bool) pa_nil)))))))), ?_⟩
  refine ⟨_, rfl, _, "int", true, rfl, .inl ⟨rfl, rfl⟩, true, rfl, ?_⟩
  refine iteT ⟨_, rfl, _, "bool", false, rfl, .inr (.inl ⟨rfl, rfl⟩), false, rfl, q⟩
theorem scCell : FnScope ["_law_script", "_law_k"] ["_law_script", "_law_k"] (defScope sCell) := ⟨rfl, rfl, rfl, by decide +kernel, rfl, by decide +kernel, by decide +kernel⟩
theorem okCell (F : Fn K mg "_law_cell_at" sCell) (M : Mg mg) : Cal P w K mg base 1 "_law_cell_at" ["_law_script", "_law_k"] (spCell K) := by
  refine cal_of F scCell (fun _ _ _ _ _ _ => bind2 (fun _ _ => rfl)) (fun vs H Q E h => ?_) (fun f cdv A outer s H vs Q E hr h => ?_)
  · obtain ⟨a, ns, k, rfl, _⟩ := h
    rfl
  obtain ⟨a, ns, k, rfl, hS, h0, q⟩ := h
  refine ⟨_, (pss_cons (ps_if (pt_cmpR op_lt (pv 1) (pe_callB call_len_seq rfl M.len bt_len (pa_cons (pv 0) pa_nil)) (nomark _)) (pss_one (ps_ret (pe_ix ix_list (pv 0) (pv 1) (fun _ _ => rfl)))) pss_nil)
    (pss_one (ps_ret pe_int))), ?_⟩
  refine ⟨_, rfl, _, rfl, a, _, rfl, .inl hS, _, _, rfl, rfl, _, rfl, ?_⟩
  refine ite2 (fun c => ?_) (fun c => ?_)
  · obtain ⟨v, hv⟩ := atNs h0 (of_decide_eq_true c)
    exact ⟨_, rfl, _, rfl, a, _, _, _, rfl, rfl, hS, hv, q v⟩
  · exact q 0
theorem scMix2 : FnScope ["_law_cell", "_law_k", "_law_number"] ["_law_cell", "_law_k"] (defScope sMix2) := ⟨rfl, rfl, rfl, by decide +kernel, rfl, by decide +kernel, by decide +kernel⟩
theorem okMix2 (F : Fn K mg "_law_mixed" sMix2) (M : Mg mg) : Cal P w K mg base 1 "_law_mixed" ["_law_cell", "_law_k"] (spMix2) := by
  refine cal_of F scMix2 (fun _ _ _ _ _ _ => bind2 (fun _ _ => rfl)) (fun vs H Q E h => ?_) (fun f cdv A outer s H vs Q E hr h => ?_)
  · obtain ⟨c, k, rfl, _⟩ := h
    rfl
  obtain ⟨c, k, rfl, h0, h1, q⟩ := h
  refine ⟨_, (pss_cons (ps_set (i := 2) scMix2.nd rfl (Or.inl rfl) (pe_op op_mod (pe_op op_add (pe_op op_add (pe_op op_mul (pv 0) pe_int) (pe_op op_mul (pe_op op_mul (pv 1) (pv 1)) pe_int)) pe_int) pe_int))
    (pss_cons (ps_set (i := 2) scMix2.nd rfl (Or.inl rfl) (pe_op op_mod (pe_op op_mul (pv 2) (pv 2)) pe_int))
    (pss_one (ps_ret (pe_op op_mod (pe_op op_mul (pv 2) (pv 2)) pe_int))))), ?_⟩
  refine seq_let3 ?_
  intro rT3 rT2
  have b1 : ∀ x : Int, -(2 ^ 64) < x % 2147483647 ∧ x % 2147483647 < 2 ^ 64 := fun x => ⟨by omega, by omega⟩
  have b2 : ∀ x : Int, -(2 ^ 64) < x % 2147483629 ∧ x % 2147483629 < 2 ^ 64 := fun x => ⟨by omega, by omega⟩
  refine ⟨_, rfl, _, _, rfl, rfl, .inr ⟨by decide, by decide⟩, _, rfl, _, rfl, _, _, rfl, rfl, .inl ⟨by omega, by omega⟩, _, _, rfl, rfl, .inr ⟨by decide, by decide⟩, _, _, rfl, rfl, _, _, rfl, rfl, _, _, rfl, rfl, (by show (0 : Int) < _; decide +kernel), ?_⟩
  refine ⟨_, rfl, _, rfl, _, _, rfl, rfl, .inl (b1 _), _, _, rfl, rfl, (by show (0 : Int) < _; decide +kernel), ?_⟩
  refine ⟨_, rfl, _, rfl, _, _, rfl, rfl, .inl (b2 _), _, _, rfl, rfl, (by show (0 : Int) < _; decide +kernel), q _ (Int.emod_nonneg _ (by decide)) (Int.emod_lt_of_pos _ (by decide))⟩
theorem scLeft : FnScope ["_law_script", "_law_k", "_law_count", "_law_left_here", "_law_j", "_law_found"] ["_law_script", "_law_k", "_law_count"] (defScope sLeft) := ⟨rfl, rfl, rfl, by decide +kernel, rfl, by decide +kernel, by decide +kernel⟩
theorem okLeft (F : Fn K mg "_law_left" sLeft) (M : Mg mg) (cl_cell_at : Cal P w K mg base 1 "_law_cell_at" ["_law_script", "_law_k"] (spCell K)) (cl_mixed : Cal P w K mg base 1 "_law_mixed" ["_law_cell", "_law_k"] (spMix2)) : Cal P w K mg base 2 "_law_left" ["_law_script", "_law_k", "_law_count"] (spLeft K) := by
  refine cal_of F scLeft (fun _ _ _ _ _ _ => bind3 (fun _ _ _ => rfl)) (fun vs H Q E h => ?_) (fun f cdv A outer s H vs Q E hr h => ?_)
  · obtain ⟨a, ns, k, n, rfl, _⟩ := h
    rfl
  obtain ⟨a, ns, k, n, rfl, hS, h0, h1, h2, h3, q⟩ := h
  refine ⟨_, (pss_cons (ps_set (i := 3) scLeft.nd rfl (Or.inl rfl) (pe_fn cl_cell_at (hr.mono (by decide)) (pa_cons (pv 0) (pa_cons (pe_op op_add pe_int (pv 1)) pa_nil))))
    (pss_cons (ps_for PassesOwn.never rfl (pi_range3 rfl M.range_ (pa_cons (pe_op op_add (pe_op op_add pe_int (pv 1)) (pv 2)) (pa_cons (pe_callB (call_min2 rfl) rfl M.min bt_min (pa_cons pe_int (pa_cons (pe_callB call_len_seq rfl M.len bt_len (pa_cons (pv 0) pa_nil)) pa_nil))) (pa_cons (pv 2) pa_nil)))) (pg_name (i := 4) scLeft.nd rfl (Or.inl rfl) (Or.inl rfl)) (pss_one (ps_set (i := 3) scLeft.nd rfl (Or.inl rfl) (pe_op op_add (pv 3) (pe_fn cl_mixed (hr.mono (by decide)) (pa_cons (pe_ix ix_list (pv 0) (pv 4) (fun _ _ => rfl)) (pa_cons (pv 4) pa_nil)))))))
    (pss_cons (ps_if (pt_cmpR op_eq (pe_op op_mod (pe_op op_fdiv (pe_fn cl_cell_at (hr.mono (by decide)) (pa_cons (pv 0) (pa_cons pe_int pa_nil))) pe_int) pe_int) pe_int (nomark _)) (pss_one (ps_ret (pv 3))) pss_nil)
    (pss_cons (ps_set (i := 5) scLeft.nd rfl (Or.inl rfl) pe_int)
    (pss_cons (ps_for PassesOwn.never rfl (pi_range1 rfl M.range_ (pa_cons pe_int pa_nil)) (pg_name (i := 4) scLeft.nd rfl (Or.inl rfl) (Or.inl rfl)) (pss_one (ps_set (i := 5) scLeft.nd rfl (Or.inl rfl) (pe_op op_add (pe_op op_mul (pv 5) pe_int) (pe_fn cl_mixed (hr.mono (by decide)) (pa_cons (pv 3) (pa_cons (pe_op op_add (pv 4) (pe_op op_mul pe_int (pv 1))) pa_nil)))))))
    (pss_one (ps_ret (pv 5)))))))), ?_⟩
  refine seq_let6 ?_
  intro rT6 rT5 rT4 rT3 rT2
  refine ⟨_, rfl, _, rfl, _, _, rfl, rfl, a, ns, _, rfl, hS, by omega, fun z => ?_⟩
  have mx : (if (((ns.map V.int).length : Nat) : Int) < 63 then (((ns.map V.int).length : Nat) : Int) else 63) ≤ 63 ∧ 0 ≤ (if (((ns.map V.int).length : Nat) : Int) < 63 then (((ns.map V.int).length : Nat) : Int) else 63) ∧ (if (((ns.map V.int).length : Nat) : Int) < 63 then (((ns.map V.int).length : Nat) : Int) else 63) ≤ (((ns.map V.int).length : Nat) : Int) := by
    split <;> omega
  refine ⟨_, rfl, _, _, rfl, rfl, _, rfl, _, _, rfl, rfl, _, rfl, _, _, rfl, .inl hS, _, _, rfl, _, rfl, ?_⟩
  generalize (if (((ns.map V.int).length : Nat) : Int) < 63 then (((ns.map V.int).length : Nat) : Int) else 63) = e at mx ⊢
  obtain ⟨m1, m2, m3⟩ := mx
  refine ⟨_, _, _, rfl, ⟨by omega, by omega, small3 (by omega) (by omega) (by omega) (by omega) (by omega) (by omega)⟩, for_range3 (lo := 3 + k + n) (c := n) (n := (Builtin.Range.rangeSize (3 + k + n) e n).toNat) (fun i σ H1 => H1 = H ∧ ∃ (y : Int) (u : Option V), σ = [some (.ref a), some (.int k), some (.int n), some (.int y), u, none]) ⟨rfl, z, none, rfl⟩ ?_ ?_⟩
  · rintro i σ H1 hi ⟨rfl, y, u, rfl⟩
    have lt := range3_lt (show 0 < n by omega) hi
    have pn : 0 ≤ (i : Int) * n := Int.mul_nonneg (by omega) (by omega)
    obtain ⟨v, hv⟩ := atNs (ns := ns) (k := 3 + k + n + (i : Int) * n) (by omega) (by omega)
    exact ⟨_, rfl, _, rfl, _, rfl, a, _, _, _, rfl, rfl, hS, hv, _, rfl, v, _, rfl, by omega, by omega, fun x _ _ => ⟨_, _, rfl, rfl, rfl, _, _, rfl⟩⟩
  · rintro σ H1 ⟨rfl, y, u, rfl⟩
    refine ⟨_, rfl, a, ns, 1, rfl, hS, by decide, fun c => ⟨_, _, rfl, rfl, ⟨by decide, by decide⟩, _, _, rfl, rfl, (by show (0 : Int) < _; decide +kernel), rfl, _, rfl, ite2 (fun _ => ⟨_, rfl, q y⟩) (fun _ => ?_)⟩⟩
    refine ⟨5, rfl, by decide, by decide, for_range (lo := 0) (n := (5 : Int).toNat) (fun i σ H2 => H2 = H1 ∧ ∃ (f : Int) (u : Option V), σ = [some (.ref a), some (.int k), some (.int n), some (.int y), u, some (.int f)]) ⟨rfl, 0, _, rfl⟩ ?_ ?_⟩
    · rintro i σ H2 hi ⟨rfl, f, u, rfl⟩
      have hi' : i < 5 := hi
      exact ⟨_, rfl, _, _, rfl, rfl, .inr ⟨by decide, by decide⟩, _, rfl, _, rfl, _, rfl, _, _, rfl, rfl, .inl ⟨by decide, by decide⟩, _, _, rfl, rfl, y, _, rfl, by omega, by omega, fun x _ _ => ⟨_, _, rfl, rfl, rfl, _, _, rfl⟩⟩
    · rintro σ H2 ⟨rfl, f, u, rfl⟩
      exact ⟨_, rfl, q f⟩
end
end Nb
namespace Nb
open PySem L2
noncomputable abbrev sAt25 : Stmt := top 16
noncomputable abbrev sPoints : Stmt := top 17
noncomputable def TupsAre (K : PySem.W.Frag) (H : Hp) : List V → List (List Int) → Prop := Paired fun v ms => ∃ t, v = .ref t ∧ SqT K H t (ms.map V.int)
theorem TupsAre.imp {K : PySem.W.Frag} {H H' : Hp} {vs : List V} {ps : List (List Int)} (f : ∀ t xs, SqT K H t xs → SqT K H' t xs) (h : TupsAre K H vs ps) : TupsAre K H' vs ps := by
  unfold TupsAre at *
  induction h with
  | nil => exact .nil
  | cons r t ih => obtain ⟨a, e, z⟩ := r; exact .cons ⟨a, e, f _ _ z⟩ ih
theorem TupsAre.same {K : PySem.W.Frag} {H H' : Hp} {vs : List V} {ps : List (List Int)} (e : Same H H') (h : TupsAre K H vs ps) : TupsAre K H' vs ps := h.imp fun _ _ z => e.tup z
theorem TupsAre.upd {K : PySem.W.Frag} {H : Hp} {D : Addr} {ys zs vs : List V} {ps : List (List Int)} (hD : H D = some (.lst ys)) (h : TupsAre K H vs ps) : TupsAre K (upd H D (.lst zs)) vs ps := h.imp fun _ _ z => SqT_upd hD z
theorem TupsAre.app {K : PySem.W.Frag} {H : Hp} {vs ws : List V} {ps qs : List (List Int)} (h1 : TupsAre K H vs ps) (h2 : TupsAre K H ws qs) : TupsAre K H (vs ++ ws) (ps ++ qs) := by
  unfold TupsAre at *
  induction h1 with
  | nil => exact h2
  | cons a b ih => exact .cons a ih
theorem TupsAre.one {K : PySem.W.Frag} {H : Hp} {t : Addr} {ms : List Int} (h : SqT K H t (ms.map V.int)) : TupsAre K H [.ref t] [ms] := .cons ⟨t, rfl, h⟩ .nil
theorem TupsAre.length {K : PySem.W.Frag} {H : Hp} {vs : List V} {ps : List (List Int)} (h : TupsAre K H vs ps) : vs.length = ps.length := Paired.length h
theorem TupsAre.get {K : PySem.W.Frag} {H : Hp} {vs : List V} {ps : List (List Int)} (h : TupsAre K H vs ps) : ∀ {i : Nat} {v : V}, vs[i]? = some v → ∃ t ms, v = .ref t ∧ ps[i]? = some ms ∧ SqT K H t (ms.map V.int) := by
  unfold TupsAre at h
  induction h with
  | nil => intro i v e; simp at e
  | cons q t ih =>
    intro i v e
    cases i with
    | zero => obtain ⟨a, e1, z⟩ := q; simp at e; subst e; exact ⟨a, _, e1, rfl, z⟩
    | succ i => obtain ⟨a, r, e1, e2, z⟩ := ih (i := i) (v := v) (by simpa using e); exact ⟨a, r, e1, by simpa using e2, z⟩
noncomputable def tupD (ms : List Int) : D := .tup (ms.map .int)
theorem TupsAre.hasD {K : PySem.W.Frag} {H : Hp} {l : Addr} {vs : List V} {ps : List (List Int)} (hl : SqL K H l vs) (h : TupsAre K H vs ps) : HasD K H (.ref l) (.lst (ps.map tupD)) := by
  refine .lst hl (by rw [List.length_map]; exact h.length) fun i v x e1 e2 => ?_
  obtain ⟨t, r, rfl, er, hr⟩ := h.get e1
  rw [List.getElem?_map, er] at e2
  cases e2
  exact intsD hr
theorem alikeEmp {n : Nat} {xs : List D} : Alike (n + 1) (.lst xs) (.lst []) := .lst fun i x y _ e2 => by simp at e2
theorem hasEmp {K : PySem.W.Frag} {H : Hp} {l : Addr} (h : H l = some (.lst [])) : HasD K H (.ref l) (.lst []) := .lst (sqL_new h) rfl fun i v x e1 _ => by simp at e1
theorem TupsAre.sn {K : PySem.W.Frag} {H : Hp} {vs : List V} {ps : List (List Int)} {t : Addr} {ms : List Int} (h1 : TupsAre K H vs ps) (h2 : SqT K H t (ms.map V.int)) : TupsAre K H (vs ++ [.ref t]) (ps ++ [ms]) := h1.app (.one h2)
noncomputable def ptsM (l : List (List Int)) : List (List Int) := l.flatMap fun ms => [ms ++ [0], ms ++ [1]]
noncomputable def ptsI : Nat → List (List Int)
  | 0 => [[]]
  | k + 1 => ptsM (ptsI k)
theorem ptsM_len (l : List (List Int)) : (ptsM l).length = 2 * l.length := by
  unfold ptsM
  induction l with
  | nil => rfl
  | cons a t ih =>
    rw [List.flatMap_cons, List.length_append, ih]
    simp only [List.length_cons, List.length_nil]
    omega
theorem ptsI_len : ∀ n, (ptsI n).length = 2 ^ n
  | 0 => rfl
  | k + 1 => by show (ptsM _).length = _; rw [ptsM_len, ptsI_len k, Nat.pow_succ]; omega
theorem ptsI_small {i : Nat} (h : i ≤ 12) : (ptsI i).length ≤ 4096 := by
  rw [ptsI_len]
  exact Nat.le_trans (Nat.pow_le_pow_right (by decide) h) (by decide)
theorem ptsM_snoc {l : List (List Int)} {i : Nat} {ms : List Int} (h : l[i]? = some ms) : ptsM (l.take (i + 1)) = (ptsM (l.take i) ++ [ms ++ [0]]) ++ [ms ++ [1]] := by
  unfold ptsM
  rw [takeS h, List.flatMap_append, List.append_assoc]
  rfl
theorem ptsI_of : ∀ {n : Nat} {ms : List Int}, ms ∈ ptsI n → ms.length = n ∧ ∀ m ∈ ms, m = 0 ∨ m = 1
  | 0, ms, h => by
    have e : ms = [] := List.mem_singleton.mp h
    subst e
    exact ⟨rfl, fun m hm => nomatch hm⟩
  | k + 1, ms, h => by
    have h' : ms ∈ (ptsI k).flatMap fun ms => [ms ++ [0], ms ++ [1]] := h
    obtain ⟨xs, hx, hm⟩ := List.mem_flatMap.mp h'
    obtain ⟨h1, h2⟩ := ptsI_of hx
    have key : ∀ y : Int, (y = 0 ∨ y = 1) → ms = xs ++ [y] → ms.length = k + 1 ∧ ∀ m ∈ ms, m = 0 ∨ m = 1 := fun y hy e => by
      subst e
      refine ⟨by rw [List.length_append, h1]; rfl, fun m hm => ?_⟩
      rcases List.mem_append.mp hm with z | z
      · exact h2 m z
      · rw [List.mem_singleton.mp z]; exact hy
    rcases List.mem_cons.mp hm with e | e
    · exact key 0 (.inl rfl) e
    · exact key 1 (.inr rfl) (List.mem_singleton.mp e)
noncomputable def spPoints25 (K : PySem.W.Frag) : Sp := fun vs H Q _ => ∃ many : Int, vs = [.int many] ∧ 0 ≤ many ∧ many ≤ 12 ∧
  ∀ (l : Addr) (ws : List V) (H' : Hp), Same H H' → H' l = some (.lst ws) → TupsAre K H' ws (ptsI many.toNat) → Q (.ref l) H'
theorem dot_cons (x : Int) (xs : List Int) (y : Int) (ys : List Int) : dot (x :: xs) (y :: ys) = x * y + dot xs ys := by
  unfold dot
  rw [List.zipWith_cons_cons, List.sum_cons]
noncomputable def posW (n : Int) : Int := if 0 < n then n else 0
noncomputable def posS (ns : List Int) : Int := (ns.map posW).sum
noncomputable def spareB (r : List Int × Int) (b : List Int) : Int := dot r.1 b + posS (r.1.drop b.length) - r.2
noncomputable def lossW (w n : Int) : Int := if w = 0 then posW n else posW (-n)
theorem posW_nn (n : Int) : 0 ≤ posW n := by unfold posW; split <;> omega
theorem lossW_nn (w n : Int) : 0 ≤ lossW w n := by unfold lossW; split <;> exact posW_nn _
theorem dot_nilR (ns : List Int) : dot ns [] = 0 := by cases ns <;> rfl
theorem core_snoc (w : Int) (hw : w = 0 ∨ w = 1) : ∀ (b ns : List Int), b.length < ns.length → dot ns (b ++ [w]) + posS (ns.drop (b.length + 1)) = dot ns b + posS (ns.drop b.length) - lossW w (ns.getD b.length 0)
  | [], n :: ns, _ => by
    rw [List.nil_append, dot_cons, dot_nilR, dot_nilR]
    show n * w + 0 + posS ns = 0 + posS (n :: ns) - lossW w n
    have e : posS (n :: ns) = posW n + posS ns := by unfold posS; rw [List.map_cons, List.sum_cons]
    rw [e]
    unfold lossW posW
    rcases hw with e | e
    · subst e
      rw [if_pos rfl]
      omega
    · subst e
      rw [if_neg (show ¬ (1 : Int) = 0 by decide)]
      split <;> split <;> omega
  | [], [], h => by simp at h
  | x :: b, [], h => by simp at h
  | x :: b, n :: ns, h => by
    have ih := core_snoc w hw b ns (by simpa using h)
    rw [List.cons_append, dot_cons, dot_cons]
    have e1 : (n :: ns).drop ((x :: b).length + 1) = ns.drop (b.length + 1) := rfl
    have e2 : (n :: ns).drop ((x :: b).length) = ns.drop b.length := rfl
    have e3 : (n :: ns).getD ((x :: b).length) 0 = ns.getD b.length 0 := rfl
    rw [e1, e2, e3]
    omega
theorem spare_snoc {w : Int} (hw : w = 0 ∨ w = 1) {b : List Int} {r : List Int × Int} (h : b.length < r.1.length) : spareB r (b ++ [w]) = spareB r b - lossW w (r.1.getD b.length 0) := by
  unfold spareB
  have := core_snoc w hw b r.1 h
  rw [List.length_append, show [w].length = 1 from rfl]
  omega
theorem spare_full {b : List Int} {r : List Int × Int} (h : b.length = r.1.length) : decide (0 ≤ spareB r b) = keepB b r := by
  unfold spareB keepB
  rw [h, List.drop_length]
  show decide (0 ≤ dot r.1 b + 0 - r.2) = _
  exact decide_eq_decide.mpr ⟨fun z => by omega, fun z => by omega⟩
theorem spare_nil (r : List Int × Int) : spareB r [] = posS r.1 - r.2 := by
  unfold spareB
  rw [dot_nilR]
  show 0 + posS r.1 - r.2 = _
  omega
noncomputable abbrev P2 := List Int × List Int
noncomputable def leftW (w : Int) (ns sp : List Int) : List Int := List.zipWith (fun s l => s - l) sp (ns.map (lossW w))
noncomputable def okL (l : List Int) : Bool := l.all fun x => decide (0 ≤ x)
noncomputable def put1 (w : Int) (ns : List Int) (p : P2) : List P2 := if okL (leftW w ns p.2) = true then [(p.1 ++ [w], leftW w ns p.2)] else []
noncomputable def growM (ns : List Int) (ps : List P2) : List P2 := ps.flatMap fun p => put1 0 ns p ++ put1 1 ns p
noncomputable def okAt (rs : List (List Int × Int)) (b : List Int) : Bool := rs.all fun r => decide (0 ≤ spareB r b)
noncomputable def pairsOf (rs : List (List Int × Int)) (bs : List (List Int)) : List P2 := bs.map fun b => (b, rs.map fun r => spareB r b)
noncomputable def stg (rs : List (List Int × Int)) (k : Nat) : List P2 := pairsOf rs ((ptsI k).filter (okAt rs))
theorem left_spare {w : Int} (hw : w = 0 ∨ w = 1) {b : List Int} : ∀ {rs : List (List Int × Int)}, (∀ r ∈ rs, b.length < r.1.length) → leftW w (rs.map fun r => r.1.getD b.length 0) (rs.map fun r => spareB r b) = rs.map fun r => spareB r (b ++ [w])
  | [], _ => rfl
  | r :: rs, h => by
    have ih := left_spare hw (b := b) (rs := rs) fun q hq => h q (List.mem_cons_of_mem _ hq)
    unfold leftW at ih ⊢
    rw [List.map_cons, List.map_cons, List.map_cons, List.zipWith_cons_cons, ih, List.map_cons, spare_snoc hw (h r List.mem_cons_self)]
theorem okL_map (rs : List (List Int × Int)) (c : List Int) : okL (rs.map fun r => spareB r c) = okAt rs c := by
  unfold okL okAt
  rw [List.all_map]
  rfl
theorem okAt_snoc {w : Int} (hw : w = 0 ∨ w = 1) {b : List Int} {rs : List (List Int × Int)} (h : ∀ r ∈ rs, b.length < r.1.length) (ho : okAt rs (b ++ [w]) = true) : okAt rs b = true := by
  unfold okAt at ho ⊢
  rw [List.all_eq_true] at ho ⊢
  intro r hr
  have h1 := of_decide_eq_true (ho r hr)
  rw [spare_snoc hw (h r hr)] at h1
  have := lossW_nn w (r.1.getD b.length 0)
  exact decide_eq_true (by omega)
theorem put_one {w : Int} (hw : w = 0 ∨ w = 1) {b : List Int} {rs : List (List Int × Int)} (h : ∀ r ∈ rs, b.length < r.1.length) : put1 w (rs.map fun r => r.1.getD b.length 0) (b, rs.map fun r => spareB r b) = pairsOf rs ([b ++ [w]].filter (okAt rs)) := by
  unfold put1
  show (if okL (leftW w (rs.map fun r => r.1.getD b.length 0) (rs.map fun r => spareB r b)) = true then [(b ++ [w], leftW w (rs.map fun r => r.1.getD b.length 0) (rs.map fun r => spareB r b))] else []) = _
  rw [left_spare hw h, okL_map]
  cases e : okAt rs (b ++ [w]) with
  | true => rw [if_pos rfl, List.filter_cons, if_pos e]; rfl
  | false => rw [if_neg Bool.false_ne_true, List.filter_cons, if_neg (by rw [e]; exact Bool.false_ne_true)]; rfl
theorem grow_list {k : Nat} {rs : List (List Int × Int)} (h : ∀ r ∈ rs, k < r.1.length) : ∀ (l : List (List Int)), (∀ b ∈ l, b.length = k) → growM (rs.map fun r => r.1.getD k 0) (pairsOf rs (l.filter (okAt rs))) = pairsOf rs ((ptsM l).filter (okAt rs))
  | [], _ => rfl
  | b :: l, hl => by
    have ih := grow_list h l fun c hc => hl c (List.mem_cons_of_mem _ hc)
    have hb := hl b List.mem_cons_self
    subst hb
    have e1 : ptsM (b :: l) = [b ++ [0]] ++ ([b ++ [1]] ++ ptsM l) := rfl
    have p0 := put_one (.inl rfl) h
    have p1 := put_one (.inr rfl) h
    have e2 : pairsOf rs ((ptsM (b :: l)).filter (okAt rs)) = pairsOf rs ([b ++ [0]].filter (okAt rs)) ++ (pairsOf rs ([b ++ [1]].filter (okAt rs)) ++ pairsOf rs ((ptsM l).filter (okAt rs))) := by
      rw [e1, List.filter_append, List.filter_append]
      unfold pairsOf
      rw [List.map_append, List.map_append]
    rw [e2, ← ih, List.filter_cons]
    cases e : okAt rs b with
    | true =>
      rw [if_pos rfl, ← p0, ← p1, ← List.append_assoc]
      rfl
    | false =>
      have n0 : ∀ w : Int, (w = 0 ∨ w = 1) → [b ++ [w]].filter (okAt rs) = [] := fun w hw => by
        rw [List.filter_cons, if_neg]
        · rfl
        · intro z
          rw [okAt_snoc hw h z] at e
          cases e
      rw [if_neg Bool.false_ne_true, n0 0 (.inl rfl), n0 1 (.inr rfl)]
      rfl
theorem grow_stg {k : Nat} {rs : List (List Int × Int)} (h : ∀ r ∈ rs, k < r.1.length) : growM (rs.map fun r => r.1.getD k 0) (stg rs k) = stg rs (k + 1) := grow_list h _ fun _ hb => (ptsI_of hb).1
noncomputable def goodP (rs : List (List Int × Int)) (n : Nat) : List (List Int) := (ptsI n).filter fun b => rs.all (keepB b)
theorem stg_good {n : Nat} {rs : List (List Int × Int)} (h : ∀ r ∈ rs, r.1.length = n) : (stg rs n).map (·.1) = goodP rs n := by
  unfold stg pairsOf goodP
  rw [List.map_map]
  show List.map (fun b => b) _ = _
  rw [List.map_id']
  refine List.filter_congr fun b hb => ?_
  unfold okAt
  have hl := (ptsI_of hb).1
  have : ∀ l : List (List Int × Int), (∀ r ∈ l, r.1.length = n) → (l.all fun r => decide (0 ≤ spareB r b)) = l.all (keepB b) := fun l => by
    induction l with
    | nil => intro _; rfl
    | cons r l ih => intro h; rw [List.all_cons, List.all_cons, ih (fun q hq => h q (List.mem_cons_of_mem _ hq)), spare_full (by rw [hl]; exact (h r List.mem_cons_self).symm)]
  exact this rs h
theorem stg_zero (rs : List (List Int × Int)) : (if okL (rs.map fun r => spareB r []) = true then [(([] : List Int), rs.map fun r => spareB r [])] else []) = stg rs 0 := by
  rw [okL_map]
  unfold stg pairsOf
  show _ = List.map _ ([[]].filter (okAt rs))
  cases e : okAt rs [] with
  | true => rw [if_pos rfl, List.filter_cons, if_pos e]; rfl
  | false => rw [if_neg Bool.false_ne_true, List.filter_cons, if_neg (by rw [e]; exact Bool.false_ne_true)]; rfl
theorem put1_len (w : Int) (ns : List Int) (p : P2) : (put1 w ns p).length ≤ 1 := by unfold put1; split <;> simp
theorem growM_len (ns : List Int) : ∀ ps : List P2, (growM ns ps).length ≤ 2 * ps.length
  | [] => by simp [growM]
  | p :: ps => by
    have ih := growM_len ns ps
    have h0 := put1_len 0 ns p
    have h1 := put1_len 1 ns p
    have e : growM ns (p :: ps) = (put1 0 ns p ++ put1 1 ns p) ++ growM ns ps := rfl
    rw [e, List.length_append, List.length_append, List.length_cons]
    omega
theorem growM_snoc {ns : List Int} {ps : List P2} {i : Nat} {p : P2} (h : ps[i]? = some p) : growM ns (ps.take (i + 1)) = growM ns (ps.take i) ++ (put1 0 ns p ++ put1 1 ns p) := by
  unfold growM
  rw [takeS h, List.flatMap_append, List.flatMap_cons, List.flatMap_nil, List.append_nil]
noncomputable def putsTo (ns : List Int) (p : P2) (j : Nat) : List P2 := ([0, 1].take j).flatMap fun w => put1 w ns p
theorem okL_min0 {xs : List Int} : okL xs = true ↔ ∀ x ∈ xs, 0 ≤ x := by
  unfold okL
  rw [List.all_eq_true]
  exact ⟨fun h x hx => of_decide_eq_true (h x hx), fun h x hx => decide_eq_true (h x hx)⟩
theorem min_ok {xs : List Int} {m : Int} (hm : m ∈ xs) (hx : ∀ x ∈ xs, m ≤ x) : decide (0 ≤ m) = okL xs := by
  cases e : okL xs with
  | true => exact decide_eq_true (okL_min0.mp e m hm)
  | false =>
    refine decide_eq_false fun z => ?_
    rw [okL_min0.mpr fun x hx' => Int.le_trans z (hx x hx')] at e
    cases e
noncomputable def minOf (xs : List Int) (m : Int) : Prop := m ∈ xs ∧ ∀ x ∈ xs, m ≤ x
theorem minOf.one {xs : List Int} {m k : Int} (h : minOf xs m) (h' : minOf xs k) : k = m := Int.le_antisymm (h'.2 m h.1) (h.2 k h'.1)
theorem range_map (f : Int → Int) (ns : List Int) : (List.range ns.length).map (fun j => f (ns.getD j 0)) = ns.map f := by
  apply List.ext_getElem?
  intro i
  by_cases h : i < ns.length
  · rw [List.getElem?_map, List.getElem?_range h, List.getElem?_map, List.getElem?_eq_getElem h]
    show some (f (ns.getD i 0)) = some (f ns[i])
    rw [List.getD_eq_getElem?_getD, List.getElem?_eq_getElem h]
    rfl
  · rw [List.getElem?_eq_none_iff.mpr (by rw [List.length_map, List.length_range]; omega), List.getElem?_eq_none_iff.mpr (by rw [List.length_map]; omega)]
theorem fresh_back {H H' : Hp} {a : Addr} (s : Same H H') (h : H' a = none) : H a = none := by
  cases e : H a with
  | none => rfl
  | some o => rw [s _ _ e] at h; cases h
noncomputable def Off (H : Hp) (P : Addr) : Hp := fun a => if a = P then none else H a
theorem off_ne {H : Hp} {P a : Addr} (h : a ≠ P) : Off H P a = H a := if_neg h
theorem off_le {H : Hp} {P : Addr} : Same (Off H P) H := fun b o e => by
  by_cases h : b = P
  · subst h; unfold Off at e; rw [if_pos rfl] at e; cases e
  · rw [off_ne h] at e; exact e
theorem off_mono {H H' : Hp} {P : Addr} (h : Same H H') : Same (Off H P) (Off H' P) := fun b o e => by
  by_cases z : b = P
  · subst z; unfold Off at e; rw [if_pos rfl] at e; cases e
  · rw [off_ne z] at e ⊢; exact h _ _ e
theorem off_upd {H : Hp} {P : Addr} {x : HO} : Off (upd H P x) P = Off H P := by
  funext a
  by_cases h : a = P
  · subst h; unfold Off; rw [if_pos rfl, if_pos rfl]
  · rw [off_ne h, off_ne h, upd_ne h]
theorem SqT_off {K : PySem.W.Frag} {H : Hp} {F a : Addr} {ys xs : List V} (hF : H F = some (.lst ys)) (h : SqT K H a xs) : SqT K (Off H F) a xs := by
  rcases h with (h | ⟨o, h⟩) | h
  · exact .inl (.inl (by rw [off_ne (ne_of h hF (by intro z; cases z))]; exact h))
  · exact .inl (.inr ⟨o, by rw [off_ne (ne_of h hF (by intro z; cases z))]; exact h⟩)
  · exact .inr h
noncomputable def PrAt (K : PySem.W.Frag) (H : Hp) (v : V) (p : P2) : Prop := ∃ T b l, v = .ref T ∧ SqT K H T [.ref b, .ref l] ∧ SqT K H b (p.1.map V.int) ∧ SqL K H l (p.2.map V.int)
noncomputable def PrsAre (K : PySem.W.Frag) (H : Hp) : List V → List P2 → Prop := Paired (PrAt K H)
theorem PrsAre.same {K : PySem.W.Frag} {H H' : Hp} {vs : List V} {ps : List P2} (e : Same H H') (h : PrsAre K H vs ps) : PrsAre K H' vs ps := by
  unfold PrsAre at *
  induction h with
  | nil => exact .nil
  | cons a b ih => obtain ⟨T, b, l, e1, h1, h2, h3⟩ := a; exact .cons ⟨T, b, l, e1, e.tup h1, e.tup h2, e.seq h3⟩ ih
theorem PrsAre.sn {K : PySem.W.Frag} {H : Hp} {vs : List V} {ps : List P2} {v : V} {p : P2} (h : PrsAre K H vs ps) (z : PrAt K H v p) : PrsAre K H (vs ++ [v]) (ps ++ [p]) := by
  unfold PrsAre at *
  induction h with
  | nil => exact .cons z .nil
  | cons a b ih => exact .cons a ih
theorem PrsAre.length {K : PySem.W.Frag} {H : Hp} {vs : List V} {ps : List P2} (h : PrsAre K H vs ps) : vs.length = ps.length := Paired.length h
theorem PrsAre.get {K : PySem.W.Frag} {H : Hp} {vs : List V} {ps : List P2} (h : PrsAre K H vs ps) : ∀ {i : Nat} {v : V}, vs[i]? = some v → ∃ p, ps[i]? = some p ∧ PrAt K H v p := by
  unfold PrsAre at *
  induction h with
  | nil => intro i v e; simp at e
  | cons q t ih =>
    intro i v e
    cases i with
    | zero => simp at e; subst e; exact ⟨_, rfl, q⟩
    | succ i => obtain ⟨p, e2, z⟩ := ih (i := i) (v := v) (by simpa using e); exact ⟨p, by simpa using e2, z⟩
theorem pair01 {j : Nat} {x : V} (h : ([V.int 0, V.int 1] : List V)[j]? = some x) : ∃ w : Int, x = .int w ∧ (w = 0 ∨ w = 1) ∧ ([0, 1] : List Int)[j]? = some w := by
  match j, h with
  | 0, h => cases h; exact ⟨0, rfl, .inl rfl, rfl⟩
  | 1, h => cases h; exact ⟨1, rfl, .inr rfl, rfl⟩
  | j + 2, h => simp at h
theorem puts_succ {ns : List Int} {p : P2} {j : Nat} {w : Int} (h : ([0, 1] : List Int)[j]? = some w) : putsTo ns p (j + 1) = putsTo ns p j ++ put1 w ns p := by
  unfold putsTo
  rw [takeS h, List.flatMap_append, List.flatMap_cons, List.flatMap_nil, List.append_nil]
theorem puts_two {ns : List Int} {p : P2} : putsTo ns p 2 = put1 0 ns p ++ put1 1 ns p := by
  rw [puts_succ (w := 1) rfl, puts_succ (w := 0) rfl]
  rfl
theorem puts_len {ns : List Int} {p : P2} (j : Nat) : (putsTo ns p j).length ≤ 2 := by
  have h0 := put1_len 0 ns p
  have h1 := put1_len 1 ns p
  match j with
  | 0 => exact Nat.zero_le _
  | 1 => rw [puts_succ (w := 0) rfl]; show (([] : List P2) ++ put1 0 ns p).length ≤ 2; rw [List.nil_append]; omega
  | j + 2 =>
    have e : putsTo ns p (j + 2) = putsTo ns p 2 := by unfold putsTo; rw [List.take_of_length_le (by simp), List.take_of_length_le (by simp)]
    rw [e, puts_two, List.length_append]; omega
theorem minI_ok {xs : List Int} {m : Int} (h0 : xs = [] → m = 0) (h1 : xs ≠ [] → m ∈ xs ∧ ∀ x ∈ xs, m ≤ x) : decide (0 ≤ m) = okL xs := by
  by_cases e : xs = []
  · rw [h0 e, e]; rfl
  · exact min_ok (h1 e).1 (h1 e).2
theorem leftW_len {w : Int} {ns sp : List Int} (h : sp.length = ns.length) : (leftW w ns sp).length = ns.length := by unfold leftW; rw [List.length_zipWith, List.length_map]; omega
theorem getLeft {w : Int} {ns sp : List Int} {k : Nat} {s l : Int} (h1 : sp[k]? = some s) (h2 : (ns.map (lossW w))[k]? = some l) : (leftW w ns sp)[k]? = some (s - l) := by
  unfold leftW
  rw [List.getElem?_zipWith, h1, h2]
theorem stg_len {rs : List (List Int × Int)} {k : Nat} (h : k ≤ 12) : (stg rs k).length ≤ 4096 := by
  unfold stg pairsOf
  rw [List.length_map]
  exact Nat.le_trans (List.length_filter_le _ _) (ptsI_small h)
theorem stg_mem {rs : List (List Int × Int)} {k : Nat} {p : P2} (h : p ∈ stg rs k) : p.1.length = k ∧ p.2.length = rs.length := by
  unfold stg pairsOf at h
  obtain ⟨b, hb, rfl⟩ := List.mem_map.mp h
  exact ⟨(ptsI_of (List.mem_filter.mp hb).1).1, List.length_map _⟩
theorem good_mem {rs : List (List Int × Int)} {n : Nat} {b : List Int} (h : b ∈ goodP rs n) : b.length = n ∧ ∀ m ∈ b, m = 0 ∨ m = 1 := ptsI_of (List.mem_filter.mp h).1
theorem good_len {rs : List (List Int × Int)} {n : Nat} (h : n ≤ 12) : (goodP rs n).length ≤ 4096 := Nat.le_trans (List.length_filter_le _ _) (ptsI_small h)
theorem most_none (r : List Int × Int) : mostTo (dOf []) r.1 r.1.length - r.2 = spareB r [] := by
  rw [spare_nil]
  have e : mostTo (dOf []) r.1 r.1.length = posS r.1 := by
    unfold mostTo posS
    rw [← range_map posW]
    rfl
  rw [e]
theorem filt_yes {α : Type} {f : α → Bool} {x : α} (h : f x = true) : List.filter f [x] = [x] := by rw [List.filter_cons, if_pos h]; rfl
theorem filt_no {α : Type} {f : α → Bool} {x : α} (h : ¬ f x = true) : List.filter f [x] = [] := by rw [List.filter_cons, if_neg h]; rfl
theorem alikeTups {n : Nat} (ps qs : List (List Int)) : Alike (n + 2) (.lst (ps.map tupD)) (.lst (qs.map tupD)) := by
  refine .lst fun i x y e1 e2 => ?_
  rw [List.getElem?_map] at e1 e2
  obtain ⟨a, _, rfl⟩ := Option.map_eq_some_iff.mp e1
  obtain ⟨b, _, rfl⟩ := Option.map_eq_some_iff.mp e2
  exact alikeInts a b
theorem nil_iffT (l : List (List Int)) : (D.lst (l.map tupD) = D.lst []) ↔ l = [] := by
  constructor
  · intro h
    injection h with h
    exact List.map_eq_nil_iff.mp h
  · intro h; rw [h]; rfl
theorem name_cut {t1 t2 : TS} {D : Ends} {i : Nat} {x : V} {σ : St} {H : Hp} (Pv : St → Hp → Prop) (h2 : ∀ σ' H', Pv σ' H' → t2 D σ' H') (h1 : (∀ σ' H', Pv σ' H' → t2 D σ' H') → t1 { D with nx := t2 D } (σ.set i (some x)) H) : gName i x σ H ({ D with nx := tSeq t1 t2 D } : Ends).nx := h1 h2
noncomputable def lowV (rs : List (List Int × Int)) (cs : List Int) (n : Nat) (cv : V) : List (List Int) := (goodP rs n).filter fun b => decide (V.int (dot cs b) = cv)
noncomputable def PB (K : PySem.W.Frag) (H : Hp) (t : Addr) (rs : List (List Int × Int)) (cs : List Int) : Prop := ProbAt K H t rs cs ∧ cs.length ≤ 12 ∧ rs.length ≤ 1000 ∧ ∀ r ∈ rs, r.1.length = cs.length
theorem PB.same {K : PySem.W.Frag} {H H' : Hp} {t : Addr} {rs : List (List Int × Int)} {cs : List Int} (h : PB K H t rs cs) (e : Same H H') : PB K H' t rs cs := ⟨h.1.same e, h.2⟩
noncomputable def spGrown (K : PySem.W.Frag) : Sp := fun vs H Q _ => ∃ (a c : Addr) (us : List V) (ps : List P2) (ns : List Int), vs = [.ref a, .ref c] ∧ SqL K H a us ∧ PrsAre K H us ps ∧ SqL K H c (ns.map V.int) ∧ ns.length ≤ 1000 ∧ ps.length ≤ 5000 ∧ (∀ p ∈ ps, p.1.length ≤ 1000 ∧ p.2.length = ns.length) ∧
  ∀ (D : Addr) (ws : List V) (H' : Hp), Same H H' → H D = none → H' D = some (.lst ws) → PrsAre K H' ws (growM ns ps) → Q (.ref D) H'
noncomputable def spAllP (K : PySem.W.Frag) : Sp := fun vs H Q _ => ∃ (t : Addr) (rs : List (List Int × Int)) (cs : List Int), vs = [.ref t] ∧ PB K H t rs cs ∧
  ∀ (D : Addr) (ws : List V) (H' : Hp), Same H H' → H D = none → H' D = some (.lst ws) → TupsAre K H' ws (goodP rs cs.length) → Q (.ref D) H'
noncomputable def spLeastP (K : PySem.W.Frag) : Sp := fun vs H Q _ => ∃ (t : Addr) (rs : List (List Int × Int)) (cs : List Int), vs = [.ref t] ∧ PB K H t rs cs ∧
  ∀ (T F : Addr) (cv : V) (ws : List V) (H' : Hp), Same H H' → SqT K H' T [cv, .ref F] → H F = none → H' F = some (.lst ws) → TupsAre K H' ws (lowV rs cs cs.length cv) → (goodP rs cs.length = [] → cv = .non) → (goodP rs cs.length ≠ [] → ∃ m, cv = .int m ∧ minOf ((goodP rs cs.length).map (dot cs)) m) → Q (.ref T) H'
noncomputable def spAreP (K : PySem.W.Frag) : Sp := fun vs H Q _ => ∃ (l : Addr) (ws : List V) (ps : List (List Int)), vs = [.ref l] ∧ SqL K H l ws ∧ TupsAre K H ws ps ∧ (∀ p ∈ ps, p.length ≤ 1000) ∧ ∀ H', Same H H' → Q (.bl true) H'
noncomputable def spRight (K : PySem.W.Frag) : Sp := fun vs H Q _ => ∃ (h t g : Addr) (rs : List (List Int × Int)) (cs : List Int) (ws : List V), vs = [.ref h, .ref t, .ref g] ∧ PB K H h rs cs ∧ PB K H t rs cs ∧ SqL K H g ws ∧ TupsAre K H ws (goodP rs cs.length) ∧ ∀ H', Same H H' → Q (.bl true) H'
theorem all_true (n : Nat) : (List.replicate n true).all id = true := by
  induction n with
  | zero => rfl
  | succ n ih => rw [List.replicate_succ, List.all_cons, ih]; rfl
section
variable {P : Program} {w : World} {K : PySem.W.Frag} {mg : Str → Option Value} {base : Heap}
theorem scAt25 : FnScope ["_law_numbers", "_law_some"] ["_law_numbers", "_law_some"] (defScope sAt25) := ⟨rfl, rfl, rfl, by decide +kernel, rfl, by decide +kernel, by decide +kernel⟩
theorem okAt25 (F : Fn K mg "_law_at" sAt25) (M : Mg mg) : Cal P w K mg base 1 "_law_at" ["_law_numbers", "_law_some"] (spWeighed K) := by
  refine cal_of F scAt25 (fun _ _ _ _ _ _ => bind2 (fun _ _ => rfl)) (fun vs H Q E h => ?_) (fun f cdv A outer s H vs Q E hr h => ?_)
  · obtain ⟨a, b, ns, ms, rfl, _⟩ := h
    rfl
  obtain ⟨a, b, ns, ms, rfl, ha, hb, h1, hm, q⟩ := h
  refine ⟨_, (pss_one (ps_ret (pe_callB (call_sumI rfl) rfl M.sum bt_sum (pa_cons (pe_lc ["_law_number", "_law_one"] [none, none] rfl (pi_zip false false rfl M.zip_ (pa_cons (pv 0) (pa_cons (pv 1) pa_nil))) (fun _ _ _ => (pg_pair (K := K) (i := 0) (j := 1) rfl rfl (show (["_law_number", "_law_one"] : List Str).Nodup by decide +kernel) rfl rfl rfl rfl)) (fun _ _ _ => pf_nil) (fun _ _ _ => (pe_op op_mul (pv 0) (pv 1)))) pa_nil)))), ?_⟩
  have hz : (1000 : Nat) < sizeLine := by decide
  have lz : (List.zipWith (· * ·) ns ms).length = min ns.length ms.length := List.length_zipWith
  refine ⟨_, rfl, _, rfl, a, b, rfl, ⟨_, ha⟩, ⟨_, hb⟩, fun D hD => ?_⟩
  refine lc_any (n := min ns.length ms.length) (fun i τ ys H1 => ∃ u v : Option V, τ = [u, v] ∧ ys = ((List.zipWith (· * ·) ns ms).take i).map V.int ∧ H1 D = some (.lst ys) ∧ Same H H1) ?_ (fun i τ ys H1 hi h => ?_) (fun i τ ys H1 hi h => ?_) (fun τ ys H1 h => ?_) ?_ ?_
  · exact ⟨none, none, rfl, rfl, upd_same, same_new' hD _⟩
  · obtain ⟨u, v, rfl, rfl, hD1, s1⟩ := h
    exact ⟨hD1, by rw [List.length_map, List.length_take]; omega⟩
  · obtain ⟨u, v, rfl, rfl, hD1, s1⟩ := h
    have i1 : i < ns.length := by omega
    have i2 : i < ms.length := by omega
    exact ⟨_, _, .int ns[i], .int ms[i], s1.tup ha, s1.tup hb, by rw [List.getElem?_map, List.getElem?_eq_getElem i1]; rfl, by rw [List.getElem?_map, List.getElem?_eq_getElem i2]; rfl⟩
  · obtain ⟨u, v, rfl, rfl, hD1, s1⟩ := h
    exact ⟨_, _, s1.tup ha, s1.tup hb, by rw [List.length_map, List.length_map]; omega⟩
  · rintro i τ ys H1 x H2 hi ⟨u, v, rfl, rfl, hD1, s1⟩ ⟨T, x1, y1, rfl, hT, rfl, e1, e2⟩
    obtain ⟨n, en, rfl⟩ := getMapI (e1 _ (s1.tup ha))
    obtain ⟨m, em, rfl⟩ := getMapI (e2 _ (s1.tup hb))
    have hm1 := hm m (memI em)
    refine ⟨T, _, rfl, sqT_new upd_same, rfl, _, _, rfl, _, _, rfl, rfl, ?_⟩
    refine ⟨_, rfl, _, rfl, _, _, rfl, rfl, .inr ⟨by omega, by omega⟩, ?_, _, _, rfl, ?_, upd_same, fun b' o e => ?_⟩
    · rw [upd_ne (ne_of_none hD1 hT)]; exact hD1
    · rw [takeS (getZip en em), List.map_append]; rfl
    · rw [upd_ne (ne_of_none e hD), upd_ne (ne_of_none (s1 _ _ e) hT)]; exact s1 _ _ e
  · rintro τ ys H1 ⟨u, v, rfl, rfl, hD1, s1⟩
    rw [List.take_of_length_le (by omega)] at hD1
    exact ⟨D, _, rfl, sqL_new hD1, q _ s1⟩
theorem scPoints : FnScope ["_law_many", "_law_found", "_law_k", "_law_more", "_law_point"] ["_law_many"] (defScope sPoints) := ⟨rfl, rfl, rfl, by decide +kernel, rfl, by decide +kernel, by decide +kernel⟩
theorem okPoints (F : Fn K mg "_law_points" sPoints) (M : Mg mg) : Cal P w K mg base 1 "_law_points" ["_law_many"] (spPoints25 K) := by
  refine cal_of F scPoints (fun _ _ _ _ _ _ => bind1 (fun _ => rfl)) (fun vs H Q E h => ?_) (fun f cdv A outer s H vs Q E hr h => ?_)
  · obtain ⟨many, rfl, _⟩ := h
    rfl
  obtain ⟨many, rfl, h0, h1, q⟩ := h
  refine ⟨_, (pss_cons (ps_set (i := 1) scPoints.nd rfl (Or.inl rfl) (pe_lst (pa_cons (pe_tup pa_nil) pa_nil)))
    (pss_cons (ps_for PassesOwn.never rfl (pi_range1 rfl M.range_ (pa_cons (pv 0) pa_nil)) (pg_name (i := 2) scPoints.nd rfl (Or.inl rfl) (Or.inl rfl)) (pss_cons (ps_set (i := 3) scPoints.nd rfl (Or.inl rfl) (pe_lst pa_nil))
    (pss_cons (ps_for PassesOwn.never rfl (pi_list (pv 1)) (pg_name (i := 4) scPoints.nd rfl (Or.inl rfl) (Or.inl rfl)) (pss_cons (ps_expr (pe_bm PySem.F.plainAttrs_list PySem.F.slot_list_append PySem.F.type_list_append mt_append (pv 3) (pa_cons (pe_op op_catG (pv 4) (pe_tup (pa_cons pe_int pa_nil))) pa_nil)))
    (pss_one (ps_expr (pe_bm PySem.F.plainAttrs_list PySem.F.slot_list_append PySem.F.type_list_append mt_append (pv 3) (pa_cons (pe_op op_catG (pv 4) (pe_tup (pa_cons pe_int pa_nil))) pa_nil))))))
    (pss_one (ps_set (i := 1) scPoints.nd rfl (Or.inl rfl) (pv 3))))))
    (pss_one (ps_ret (pv 1))))), ?_⟩
  refine seq_let3 ?_
  intro rT3 rT2
  have hz : (100000 : Nat) < sizeLine := by decide
  refine ⟨by show 0 ≤ sizeLine; decide, fun p0 hp0 => ⟨by show 1 ≤ sizeLine; decide, fun g0 hg0 => ?_⟩⟩
  have s0 : Same H (upd (upd H p0 (.tup [])) g0 (.lst [.ref p0])) := (same_new' hp0 _).trans (same_new' hg0 _)
  refine ⟨_, rfl, many, rfl, by omega, by omega, for_range (lo := 0) (n := many.toNat) (fun i σ H1 => ∃ (g : Addr) (ws : List V) (u v w : Option V), σ = [some (.int many), some (.ref g), u, v, w] ∧ H1 g = some (.lst ws) ∧ TupsAre K H1 ws (ptsI i) ∧ Same H H1)
    ⟨g0, _, none, none, none, rfl, upd_same, TupsAre.one (ms := []) (sqT_new (by rw [upd_ne (ne_of_none upd_same hg0)]; exact upd_same)), s0⟩ ?_ ?_⟩
  · rintro i σ H1 hi ⟨g, ws, u, v, w, rfl, hg, tw, s1⟩
    have lw := tw.length
    have hi7 : (ptsI i).length ≤ 4096 := ptsI_small (by omega)
    refine ⟨by show 0 ≤ sizeLine; decide, fun D hD => ?_⟩
    refine ⟨_, rfl, g, rfl, ⟨_, (same_new' hD _).seq (sqL_new hg)⟩, for_list (K := K) (a := g) (xs := ws) (fun k σ H2 => ∃ (y x : Option V) (ys : List V), σ = [some (.int many), some (.ref g), y, some (.ref D), x] ∧ H2 D = some (.lst ys) ∧ TupsAre K H2 ys (ptsM ((ptsI i).take k)) ∧ Same H1 H2) ⟨_, _, [], rfl, upd_same, .nil, same_new' hD _⟩ (fun k σ H2 _ h => ?_) ?_ ?_⟩
    · obtain ⟨y, x, ys, rfl, hD2, ta, s2⟩ := h
      exact s2.seq (sqL_new hg)
    · rintro k x σ H2 e1 ⟨y, x', ys, rfl, hD2, ta, s2⟩
      obtain ⟨t, ms, rfl, em, ht⟩ := tw.get e1
      have lm := (ptsI_of (List.mem_of_getElem? em)).1
      refine ⟨_, rfl, .inl ⟨rfl, _, sqL_new hD2⟩, _, rfl, by show 1 ≤ sizeLine; decide, fun p2 hp2 => ?_⟩
      have a2 := same_new' (H := H2) hp2 (.tup [.int 0])
      refine ⟨t, p2, ms.map V.int, [.int 0], rfl, rfl, (s2.trans a2).tup ht, sqT_new upd_same, (by simp), by rw [List.length_map]; show _ + 1 ≤ _; omega, fun q2 G2 b2 hq2 => ?_⟩
      have c2 := a2.trans b2
      have d2 := c2 _ _ hD2
      have lt2 := ta.length
      refine ⟨D, _, _, rfl, rfl, d2, by simp only [List.length_append, List.length_cons, List.length_nil, ptsM_len, List.length_take] at lt2 ⊢; omega, ?_⟩
      have ta2 : TupsAre K (upd G2 D (.lst (ys ++ [.ref q2]))) (ys ++ [.ref q2]) (ptsM ((ptsI i).take k) ++ [ms ++ [0]]) := ((ta.same c2).upd d2).sn (SqT_upd d2 (by rw [List.map_append]; exact hq2))
      have e2 : Same H1 (upd G2 D (.lst (ys ++ [.ref q2]))) := fun b' o e => by rw [upd_ne (ne_of_none e hD)]; exact c2 _ _ (s2 _ _ e)
      have f2 : upd G2 D (.lst (ys ++ [.ref q2])) D = some (.lst (ys ++ [.ref q2])) := upd_same
      generalize upd G2 D (.lst (ys ++ [.ref q2])) = X2 at ta2 e2 f2 ⊢
      refine ⟨_, rfl, .inl ⟨rfl, _, sqL_new f2⟩, _, rfl, by show 1 ≤ sizeLine; decide, fun p3 hp3 => ?_⟩
      have a3 := same_new' (H := X2) hp3 (.tup [.int 1])
      refine ⟨t, p3, ms.map V.int, [.int 1], rfl, rfl, (e2.trans a3).tup ht, sqT_new upd_same, (by simp), by rw [List.length_map]; show _ + 1 ≤ _; omega, fun q3 G3 b3 hq3 => ?_⟩
      have c3 := a3.trans b3
      have d3 := c3 _ _ f2
      have lt3 := ta2.length
      refine ⟨D, _, _, rfl, rfl, d3, by simp only [List.length_append, List.length_cons, List.length_nil, ptsM_len, List.length_take] at lt3 ⊢; omega, ?_⟩
      have ta3 : TupsAre K (upd G3 D (.lst ((ys ++ [.ref q2]) ++ [.ref q3]))) ((ys ++ [.ref q2]) ++ [.ref q3]) ((ptsM ((ptsI i).take k) ++ [ms ++ [0]]) ++ [ms ++ [1]]) := ((ta2.same c3).upd d3).sn (SqT_upd d3 (by rw [List.map_append]; exact hq3))
      have e3 : Same H1 (upd G3 D (.lst ((ys ++ [.ref q2]) ++ [.ref q3]))) := fun b' o e => by rw [upd_ne (ne_of_none e hD)]; exact c3 _ _ (e2 _ _ e)
      have f3 : upd G3 D (.lst ((ys ++ [.ref q2]) ++ [.ref q3])) D = some (.lst ((ys ++ [.ref q2]) ++ [.ref q3])) := upd_same
      generalize upd G3 D (.lst ((ys ++ [.ref q2]) ++ [.ref q3])) = X3 at ta3 e3 f3 ⊢
      exact ⟨_, _, _, rfl, f3, by rw [ptsM_snoc em]; exact ta3, e3⟩
    · rintro σ H2 ⟨y, x, ys, rfl, hD2, ta, s2⟩
      rw [lw, List.take_length] at ta
      exact ⟨_, rfl, D, ys, _, _, _, rfl, hD2, ta, s1.trans s2⟩
  · rintro σ H1 ⟨g, ws, u, v, w, rfl, hg, tw, s1⟩
    exact ⟨_, rfl, q g ws H1 s1 hg tw⟩
end
end Nb
namespace Nb
open PySem L2
noncomputable abbrev sGrown : Stmt := top 5
section
variable {P : Program} {w : World} {K : PySem.W.Frag} {mg : Str → Option Value} {base : Heap}
theorem scGrown : FnScope ["begins", "numbers", "losses", "found", "begin", "spares", "worth", "left"] ["begins", "numbers"] (defScope sGrown) := ⟨rfl, rfl, rfl, by decide +kernel, rfl, by decide +kernel, by decide +kernel⟩
theorem okGrown (F : Fn K mg "grown" sGrown) (M : Mg mg) : Cal P w K mg base 1 "grown" ["begins", "numbers"] (spGrown K) := by
  refine cal_of F scGrown (fun _ _ _ _ _ _ => bind2 (fun _ _ => rfl)) (fun vs H Q E h => ?_) (fun f cdv A outer s H vs Q E hr h => ?_)
  · obtain ⟨a, c, us, ps, ns, rfl, _⟩ := h
    rfl
  obtain ⟨a, c, us, ps, ns, rfl, ha, hps, hc, hn, hpl, hpp, q⟩ := h
  refine ⟨_, (pss_cons (ps_set (i := 2) scGrown.nd rfl (Or.inl rfl) (pe_tup (pa_cons (pe_lc ["number"] [none] rfl (pi_list (pv 1)) (fun _ _ _ => (pg_name (i := 0) (show (["number"] : List Str).Nodup by decide +kernel) rfl (Or.inl rfl) (Or.inr rfl))) (fun _ _ _ => pf_nil) (fun _ _ _ => (pe_callB (call_max2 rfl) rfl M.max bt_max (pa_cons pe_int (pa_cons (pv 0) pa_nil))))) (pa_cons (pe_lc ["number"] [none] rfl (pi_list (pv 1)) (fun _ _ _ => (pg_name (i := 0) (show (["number"] : List Str).Nodup by decide +kernel) rfl (Or.inl rfl) (Or.inr rfl))) (fun _ _ _ => pf_nil) (fun _ _ _ => (pe_callB (call_max2 rfl) rfl M.max bt_max (pa_cons pe_int (pa_cons (pe_un un_neg (pv 0)) pa_nil))))) pa_nil))))
    (pss_cons (ps_set (i := 3) scGrown.nd rfl (Or.inl rfl) (pe_lst pa_nil))
    (pss_cons (ps_for PassesOwn.never rfl (pi_list (pv 0)) (pg_pair (K := K) (i := 4) (j := 5) rfl rfl scGrown.nd rfl rfl rfl rfl) (pss_one (ps_for PassesOwn.never rfl (pi_tup (pe_tup (pa_cons pe_int (pa_cons pe_int pa_nil)))) (pg_name (i := 6) scGrown.nd rfl (Or.inl rfl) (Or.inl rfl)) (pss_cons (ps_setC (i := 7) ["spare", "loss"] [none, none] rfl scGrown.nd rfl (Or.inl rfl) (pi_zip true true rfl M.zip_ (pa_cons (pv 5) (pa_cons (pe_ix ix_tup (pv 2) (pv 6) (fun _ _ => rfl)) pa_nil))) (fun _ _ _ => (pg_pair (K := K) (i := 0) (j := 1) rfl rfl (show (["spare", "loss"] : List Str).Nodup by decide +kernel) rfl rfl rfl rfl)) (fun _ _ _ => pf_nil) (fun _ _ _ => (pe_op op_sub (pv 0) (pv 1))))
    (pss_one (ps_if (pt_cmpR op_ge (pe_minDI rfl rfl M.min (pa_cons (pv 7) pa_nil) pe_int) pe_int (nomark _)) (pss_one (ps_expr (pe_bm PySem.F.plainAttrs_list PySem.F.slot_list_append PySem.F.type_list_append mt_append (pv 3) (pa_cons (pe_tup (pa_cons (pe_op op_catG (pv 4) (pe_tup (pa_cons (pv 6) pa_nil))) (pa_cons (pv 7) pa_nil))) pa_nil)))) pss_nil))))))
    (pss_one (ps_ret (pv 3)))))), ?_⟩
  have hz : (100000 : Nat) < sizeLine := by decide
  have lu := hps.length
  refine ⟨_, rfl, c, rfl, ⟨_, hc⟩, fun D0 hD0' => ?_⟩
  refine lc_any (n := ns.length) (fun i τ ys H1 => ∃ v : Option V, τ = [v] ∧ ys = ((ns.map (lossW 0)).take i).map V.int ∧ H1 D0 = some (.lst ys) ∧ Same H H1) ?_ (fun i τ ys H1 hi h => ?_) (fun i τ ys H1 hi h => ?_) (fun τ ys H1 h => ?_) ?_ ?_
  · exact ⟨none, rfl, rfl, upd_same, same_new' hD0' _⟩
  · obtain ⟨v, rfl, rfl, hE, s1⟩ := h
    exact ⟨hE, by rw [List.length_map, List.length_take]; omega⟩
  · obtain ⟨v, rfl, rfl, hE, s1⟩ := h
    exact ⟨_, .int ns[i], s1.seq hc, by rw [List.getElem?_map, List.getElem?_eq_getElem hi]; rfl⟩
  · obtain ⟨v, rfl, rfl, hE, s1⟩ := h
    exact ⟨_, s1.seq hc, by rw [List.length_map]; exact Nat.le_refl _⟩
  · rintro i τ ys H1 x HZ hi ⟨v, rfl, rfl, hE, s1⟩ ⟨rfl, e1⟩
    obtain ⟨z, ez, rfl⟩ := getMapI (e1 _ (s1.seq hc))
    have eU : (ns.map (lossW 0))[i]? = some (lossW 0 z) := by rw [List.getElem?_map, ez]; rfl
    refine ⟨_, rfl, _, _, rfl, hE, _, rfl, ?_, upd_same, fun b' o e => ?_⟩
    · rw [takeS eU, List.map_append]; rfl
    · rw [upd_ne (ne_of_none e hD0')]; exact s1 _ _ e
  rintro τ ys H1 ⟨v, rfl, rfl, hD0, sD0⟩
  rw [List.take_of_length_le (by rw [List.length_map]; exact Nat.le_refl _)] at hD0
  refine ⟨_, rfl, c, rfl, ⟨_, sD0.seq hc⟩, fun D1 hD1' => ?_⟩
  refine lc_any (n := ns.length) (fun i τ ys H2 => ∃ v : Option V, τ = [v] ∧ ys = ((ns.map (lossW 1)).take i).map V.int ∧ H2 D1 = some (.lst ys) ∧ Same H1 H2) ?_ (fun i τ ys H2 hi h => ?_) (fun i τ ys H2 hi h => ?_) (fun τ ys H2 h => ?_) ?_ ?_
  · exact ⟨none, rfl, rfl, upd_same, same_new' hD1' _⟩
  · obtain ⟨v, rfl, rfl, hE, s1⟩ := h
    exact ⟨hE, by rw [List.length_map, List.length_take]; omega⟩
  · obtain ⟨v, rfl, rfl, hE, s1⟩ := h
    exact ⟨_, .int ns[i], (sD0.trans s1).seq hc, by rw [List.getElem?_map, List.getElem?_eq_getElem hi]; rfl⟩
  · obtain ⟨v, rfl, rfl, hE, s1⟩ := h
    exact ⟨_, (sD0.trans s1).seq hc, by rw [List.length_map]; exact Nat.le_refl _⟩
  · rintro i τ ys H2 x HZ hi ⟨v, rfl, rfl, hE, s1⟩ ⟨rfl, e1⟩
    obtain ⟨z, ez, rfl⟩ := getMapI (e1 _ ((sD0.trans s1).seq hc))
    have eU : (ns.map (lossW 1))[i]? = some (lossW 1 z) := by rw [List.getElem?_map, ez]; rfl
    refine ⟨_, rfl, _, rfl, _, _, rfl, hE, _, rfl, ?_, upd_same, fun b' o e => ?_⟩
    · rw [takeS eU, List.map_append]; rfl
    · rw [upd_ne (ne_of_none e hD1')]; exact s1 _ _ e
  rintro τ ys H2 ⟨v, rfl, rfl, hD1, sD1⟩
  rw [List.take_of_length_le (by rw [List.length_map]; exact Nat.le_refl _)] at hD1
  refine ⟨by show 2 ≤ sizeLine; decide, fun L hL => ?_⟩
  have sL := same_new' (H := H2) hL (.tup [.ref D0, .ref D1])
  have hL3 : SqT K (upd H2 L (.tup [.ref D0, .ref D1])) L [.ref D0, .ref D1] := sqT_new upd_same
  have d0 := (sD1.trans sL).seq (sqL_new (K := K) hD0)
  have d1 := sL.seq (sqL_new (K := K) hD1)
  have sG := (sD0.trans sD1).trans sL
  generalize upd H2 L (.tup [.ref D0, .ref D1]) = G at hL3 d0 d1 sG ⊢
  refine ⟨by show 0 ≤ sizeLine; decide, fun F hF => ?_⟩
  refine ⟨_, rfl, a, rfl, ⟨_, (sG.trans (same_new' hF _)).seq ha⟩, for_list (K := K) (a := a) (xs := us) (fun i σ H4 => ∃ (x4 x5 x6 x7 : Option V) (ys : List V), σ = [some (.ref a), some (.ref c), some (.ref L), some (.ref F), x4, x5, x6, x7] ∧ H4 F = some (.lst ys) ∧ PrsAre K (Off H4 F) ys (growM ns (ps.take i)) ∧ Same G H4)
    ⟨none, none, none, none, [], rfl, upd_same, .nil, same_new' hF _⟩ (fun i σ H4 _ h => ?_) ?_ ?_⟩
  · obtain ⟨x4, x5, x6, x7, ys, rfl, hF4, pr, s4⟩ := h
    exact (sG.trans s4).seq ha
  · rintro i x σ H4 e1 ⟨x4, x5, x6, x7, ys, rfl, hF4, pr, s4⟩
    obtain ⟨p, ep, T, b, l, rfl, hT, hb, hl⟩ := hps.get e1
    obtain ⟨pl1, pl2⟩ := hpp p (List.mem_of_getElem? ep)
    have li : i < ps.length := (List.getElem?_eq_some_iff.mp ep).1
    have sG4 := sG.trans s4
    refine ⟨T, _, rfl, sG4.tup hT, rfl, _, _, rfl, _, _, rfl, rfl, ?_⟩
    refine ⟨by show 2 ≤ sizeLine; decide, fun W hW => ⟨W, rfl, ⟨_, sqT_new upd_same⟩, for_tup (K := K) (a := W) (xs := [.int 0, .int 1]) (fun j σ H5 => ∃ (x6 x7 : Option V) (ys : List V), σ = [some (.ref a), some (.ref c), some (.ref L), some (.ref F), some (.ref b), some (.ref l), x6, x7] ∧ H5 F = some (.lst ys) ∧ PrsAre K (Off H5 F) ys (growM ns (ps.take i) ++ putsTo ns p j) ∧ SqT K H5 W [.int 0, .int 1] ∧ Same G H5) ?_ (fun j σ H5 _ h => ?_) ?_ ?_⟩⟩
    · refine ⟨_, _, ys, rfl, (same_new' hW _) _ _ hF4, ?_, sqT_new upd_same, s4.trans (same_new' hW _)⟩
      show PrsAre K _ ys (growM ns (ps.take i) ++ [])
      rw [List.append_nil]
      exact pr.same (off_mono (same_new' hW _))
    · obtain ⟨x6, x7, ys, rfl, hF5, pr5, hW5, s5⟩ := h
      exact hW5
    · rintro j x σ H5 e2 ⟨x6', x7', ys5, rfl, hF5, pr5, hW5, s5⟩
      obtain ⟨w, rfl, hw, ew⟩ := pair01 e2
      obtain ⟨Dw, hat, hdw⟩ : ∃ Dw, atI [V.ref D0, V.ref D1] w = some (.ref Dw) ∧ SqL K G Dw ((ns.map (lossW w)).map V.int) := by
        rcases hw with e | e
        · subst e; exact ⟨D0, rfl, d0⟩
        · subst e; exact ⟨D1, rfl, d1⟩
      have sG5 := sG.trans s5
      have lw := leftW_len (w := w) pl2
      have gl := growM_len ns (ps.take i)
      have pu := puts_len (ns := ns) (p := p) j
      have l5 := pr5.length
      rw [List.length_append] at l5
      rw [List.length_take] at gl
      refine ⟨_, rfl, _, rfl, _, rfl, L, _, _, _, rfl, rfl, s5.tup hL3, hat, l, Dw, rfl, ⟨_, sG5.seq hl⟩, ⟨_, s5.seq hdw⟩, fun E hE => ?_⟩
      refine lc_any (n := ns.length) (fun k τ zs H6 => ∃ u v : Option V, τ = [u, v] ∧ zs = ((leftW w ns p.2).take k).map V.int ∧ H6 E = some (.lst zs) ∧ Same H5 H6) ?_ (fun k τ zs H6 hk h => ?_) (fun k τ zs H6 hk h => ?_) (fun τ zs H6 h => ?_) ?_ ?_
      · exact ⟨none, none, rfl, rfl, upd_same, same_new' hE _⟩
      · obtain ⟨u, v, rfl, rfl, hE6, s6⟩ := h
        exact ⟨hE6, by rw [List.length_map, List.length_take]; omega⟩
      · obtain ⟨u, v, rfl, rfl, hE6, s6⟩ := h
        exact ⟨_, _, .int (p.2[k]'(by omega)), .int (lossW w ns[k]), (sG5.trans s6).seq hl, (s5.trans s6).seq hdw, by rw [List.getElem?_map, List.getElem?_eq_getElem (by omega)]; rfl, by rw [List.getElem?_map, List.getElem?_map, List.getElem?_eq_getElem hk]; rfl⟩
      · obtain ⟨u, v, rfl, rfl, hE6, s6⟩ := h
        exact ⟨_, _, (sG5.trans s6).seq hl, (s5.trans s6).seq hdw, by rw [List.length_map, List.length_map, List.length_map]; omega⟩
      · rintro k τ zs H6 x H7 hk ⟨u, v, rfl, rfl, hE6, s6⟩ ⟨T2, x1, y1, rfl, hT2, rfl, f1, f2⟩
        obtain ⟨n1, en, rfl⟩ := getMapI (f1 _ ((sG5.trans s6).seq hl))
        obtain ⟨m1, em, rfl⟩ := getMapI (f2 _ ((s5.trans s6).seq hdw))
        refine ⟨T2, _, rfl, sqT_new upd_same, rfl, _, _, rfl, _, _, rfl, rfl, ?_⟩
        refine ⟨_, rfl, _, rfl, _, _, rfl, rfl, ?_, _, _, rfl, ?_, upd_same, fun b' o e => ?_⟩
        · rw [upd_ne (ne_of_none hE6 hT2)]; exact hE6
        · rw [takeS (getLeft en em), List.map_append]; rfl
        · rw [upd_ne (ne_of_none e hE), upd_ne (ne_of_none (s6 _ _ e) hT2)]; exact s6 _ _ e
      rintro τ zs H6 ⟨u, v, rfl, rfl, hE6, s6⟩
      rw [List.take_of_length_le (by omega)] at hE6
      have hF6 := s6 _ _ hF5
      have nFE : E ≠ F := (ne_of_none hF5 hE).symm
      have pr6 := pr5.same (off_mono s6)
      have s56 := s5.trans s6
      refine ⟨_, rfl, E, leftW w ns p.2, 0, rfl, rfl, sqL_new hE6, fun m m0 m1 => ⟨_, _, rfl, rfl, _, rfl, ?_⟩⟩
      rw [minI_ok m0 m1]
      refine ite2 (fun ok => ?_) (fun ok => ?_)
      · refine ⟨_, rfl, .inl ⟨rfl, _, sqL_new hF6⟩, _, rfl, _, rfl, by show 1 ≤ sizeLine; decide, fun p1 hp1 => ?_⟩
        have a1 := same_new' (H := H6) hp1 (.tup [.int w])
        refine ⟨b, p1, p.1.map V.int, [.int w], rfl, rfl, ((sG.trans s56).trans a1).tup hb, sqT_new upd_same, (by simp), by rw [List.length_map]; show _ + 1 ≤ _; omega, fun q1 G1 b1 hq1 => ?_⟩
        have c1 := a1.trans b1
        refine ⟨_, rfl, by show 2 ≤ sizeLine; decide, fun T1 hT1 => ?_⟩
        have c2 := same_new' (H := G1) hT1 (.tup [.ref q1, .ref E])
        have c12 := c1.trans c2
        have hF7 := c12 _ _ hF6
        have hT7 : SqT K (upd G1 T1 (.tup [.ref q1, .ref E])) T1 [.ref q1, .ref E] := sqT_new upd_same
        have hTF : T1 ≠ F := (ne_of_none (c1 _ _ hF6) hT1).symm
        have hTo : SqT K (Off (upd G1 T1 (.tup [.ref q1, .ref E])) F) T1 [.ref q1, .ref E] := sqT_new (by rw [off_ne hTF]; exact upd_same)
        have hEo : SqL K (Off (upd G1 T1 (.tup [.ref q1, .ref E])) F) E ((leftW w ns p.2).map V.int) := sqL_new (by rw [off_ne nFE]; exact c12 _ _ hE6)
        have hqo : SqT K (Off (upd G1 T1 (.tup [.ref q1, .ref E])) F) q1 ((p.1 ++ [w]).map V.int) := by
          rw [List.map_append]
          exact SqT_off hF7 (c2.tup hq1)
        have pr7 := pr6.same (off_mono c12)
        have hW7 := (s6.trans c12).tup hW5
        have s7 := s56.trans c12
        generalize upd G1 T1 (.tup [.ref q1, .ref E]) = X1 at hF7 hTo hEo hqo pr7 hW7 s7 ⊢
        refine ⟨F, _, _, rfl, rfl, hF7, by omega, ?_⟩
        refine ⟨_, _, _, rfl, upd_same, ?_, SqT_upd hF7 hW7, fun b' o e => by rw [upd_ne (ne_of_none e hF)]; exact s7 _ _ e⟩
        rw [off_upd, puts_succ ew, ← List.append_assoc]
        unfold put1
        rw [if_pos ok]
        exact pr7.sn ⟨T1, q1, E, rfl, hTo, hqo, hEo⟩
      · refine ⟨_, _, ys5, rfl, hF6, ?_, s6.tup hW5, s56⟩
        rw [puts_succ ew]
        unfold put1
        rw [if_neg ok, List.append_nil]
        exact pr6
    · rintro σ H5 ⟨x6', x7', ys5, rfl, hF5, pr5, hW5, s5⟩
      have pr5' : PrsAre K (Off H5 F) ys5 (growM ns (ps.take i) ++ putsTo ns p 2) := pr5
      rw [puts_two] at pr5'
      exact ⟨_, _, _, _, ys5, rfl, hF5, by rw [growM_snoc ep]; exact pr5', s5⟩
  · rintro σ H4 ⟨x4, x5, x6, x7, ys, rfl, hF4, pr, s4⟩
    rw [lu, List.take_length] at pr
    exact ⟨_, rfl, q F ys H4 (sG.trans s4) (fresh_back sG hF) hF4 (pr.same off_le)⟩
end
end Nb
namespace Nb
open PySem L2
noncomputable abbrev sAllP : Stmt := top 6
section
variable {P : Program} {w : World} {K : PySem.W.Frag} {mg : Str → Option Value} {base : Heap}
theorem scAllP : FnScope ["problem", "rows", "spares", "found", "choice"] ["problem"] (defScope sAllP) := ⟨rfl, rfl, rfl, by decide +kernel, rfl, by decide +kernel, by decide +kernel⟩
theorem okAllP (F : Fn K mg "all_points" sAllP) (M : Mg mg) (c_most_of : Cal P w K mg base 1 "most_of" ["row", "holds"] (spMost K)) (c_grown : Cal P w K mg base 1 "grown" ["begins", "numbers"] (spGrown K)) : Cal P w K mg base 2 "all_points" ["problem"] (spAllP K) := by
  refine cal_of F scAllP (fun _ _ _ _ _ _ => bind1 (fun _ => rfl)) (fun vs H Q E h => ?_) (fun f cdv A outer s H vs Q E hr h => ?_)
  · obtain ⟨t, rs, cs, rfl, _⟩ := h
    rfl
  obtain ⟨t, rs, cs, rfl, ⟨⟨l, c, vs, ht, hl, hrw, hc⟩, hcn, hrn, hrl⟩, q⟩ := h
  refine ⟨_, (pss_cons (ps_set (i := 1) scAllP.nd rfl (Or.inl rfl) (pe_ix ix_tup (pv 0) pe_int (fun _ _ => rfl)))
    (pss_cons (ps_setC (i := 2) ["row"] [none] rfl scAllP.nd rfl (Or.inl rfl) (pi_list (pv 1)) (fun _ _ _ => (pg_name (i := 0) (show (["row"] : List Str).Nodup by decide +kernel) rfl (Or.inl rfl) (Or.inr rfl))) (fun _ _ _ => pf_nil) (fun _ _ _ => (pe_op op_sub (pe_fn c_most_of (hr.mono (by decide)) (pa_cons (pv 0) (pa_cons (pe_lst pa_nil) pa_nil))) (pe_ix (ix_tupK (K := K) rfl) (pv 0) pe_int (fun _ _ => rfl)))))
    (pss_cons (ps_set (i := 3) scAllP.nd rfl (Or.inl rfl) (pe_ifExp (pt_cmpR op_ge (pe_minDI rfl rfl M.min (pa_cons (pv 2) pa_nil) pe_int) pe_int (nomark _)) (pe_lst (pa_cons (pe_tup (pa_cons (pe_tup pa_nil) (pa_cons (pv 2) pa_nil))) pa_nil)) (pe_lst pa_nil)))
    (pss_cons (ps_for PassesOwn.never rfl (pi_range1 rfl M.range_ (pa_cons (pe_callB call_len_seq rfl M.len bt_len (pa_cons (pe_ix ix_tup (pv 0) pe_int (fun _ _ => rfl)) pa_nil)) pa_nil)) (pg_name (i := 4) scAllP.nd rfl (Or.inr rfl) (Or.inl rfl)) (pss_one (ps_set (i := 3) scAllP.nd rfl (Or.inl rfl) (pe_fn c_grown (hr.mono (by decide)) (pa_cons (pv 3) (pa_cons (pe_lc ["row", "choice"] [none, some 4] rfl (pi_list (pv 1)) (fun _ _ _ => (pg_name (i := 0) (show (["row", "choice"] : List Str).Nodup by decide +kernel) rfl (Or.inl rfl) (Or.inr rfl))) (fun _ _ _ => pf_nil) (fun _ _ _ => (pe_ix (ix_tupK (K := K) rfl) (pe_ix (ix_tupK (K := K) rfl) (pv 0) pe_int (fun _ _ => rfl)) (pv 1) (fun _ _ => rfl)))) pa_nil))))))
    (pss_one (ps_ret (pe_lc ["point", "left"] [none, none] rfl (pi_list (pv 3)) (fun _ _ _ => (pg_pair (K := K) (i := 0) (j := 1) rfl rfl (show (["point", "left"] : List Str).Nodup by decide +kernel) rfl rfl rfl rfl)) (fun _ _ _ => pf_nil) (fun _ _ _ => (pv 0))))))))), ?_⟩
  have hz : (100000 : Nat) < sizeLine := by decide
  have lv := hrw.length
  refine ⟨_, rfl, t, _, _, _, rfl, rfl, ht, at0, ?_⟩
  refine ⟨_, rfl, l, rfl, ⟨_, hl⟩, fun E hE => ?_⟩
  refine lc_any (n := rs.length) (fun i τ ys H1 => ∃ v : Option V, τ = [v] ∧ ys = ((rs.map fun r => spareB r []).take i).map V.int ∧ H1 E = some (.lst ys) ∧ Same H H1) ?_ (fun i τ ys H1 hi h => ?_) (fun i τ ys H1 hi h => ?_) (fun τ ys H1 h => ?_) ?_ ?_
  · exact ⟨none, rfl, rfl, upd_same, same_new' hE _⟩
  · obtain ⟨v, rfl, rfl, hE1, s1⟩ := h
    exact ⟨hE1, by rw [List.length_map, List.length_take]; omega⟩
  · obtain ⟨v, rfl, rfl, hE1, s1⟩ := h
    exact ⟨vs, vs[i]'(by omega), s1.seq hl, List.getElem?_eq_getElem (by omega)⟩
  · obtain ⟨v, rfl, rfl, hE1, s1⟩ := h
    exact ⟨vs, s1.seq hl, by omega⟩
  · rintro i τ ys H1 x H2 hi ⟨v, rfl, rfl, hE1, s1⟩ ⟨rfl, e1⟩
    obtain ⟨t', r, rfl, er, hrt⟩ := hrw.get (e1 _ (s1.seq hl))
    have eU : (rs.map fun r => spareB r [])[i]? = some (spareB r []) := by rw [List.getElem?_map, er]; rfl
    refine ⟨_, rfl, by show 0 ≤ sizeLine; decide, fun e0 he0 => ?_⟩
    have a0 := same_new' (H := H2) he0 (.lst [])
    refine ⟨t', e0, r, [], rfl, hrt.same (s1.trans a0), ⟨[], sqL_new upd_same, .nil⟩, Nat.zero_le _, (fun p hp => nomatch hp), fun H3 s3 => ?_⟩
    have s03 := a0.trans s3
    obtain ⟨p, r1, r2⟩ := id hrt
    refine ⟨_, rfl, t', _, _, _, rfl, rfl, (s1.trans s03).tup r1, at1, _, _, rfl, rfl, s03 _ _ hE1, _, rfl, ?_, upd_same, fun b' o e => ?_⟩
    · rw [takeS eU, List.map_append, ← most_none r]; rfl
    · rw [upd_ne (ne_of_none e hE)]; exact s03 _ _ (s1 _ _ e)
  rintro τ ys H1 ⟨v, rfl, rfl, hE1, s1⟩
  rw [List.take_of_length_le (by rw [List.length_map]; exact Nat.le_refl _)] at hE1
  refine name_cut (fun σ' H' => ∃ (g : Addr) (ws : List V), σ' = [some (.ref t), some (.ref l), some (.ref E), some (.ref g), none] ∧ H' g = some (.lst ws) ∧ PrsAre K H' ws (stg rs 0) ∧ Same H H') ?_ fun REST => ?_
  rotate_left
  · refine ⟨_, rfl, E, (rs.map fun r => spareB r []), 0, rfl, rfl, sqL_new hE1, fun m m0 m1 => ⟨_, _, rfl, rfl, _, rfl, ?_⟩⟩
    rw [minI_ok m0 m1]
    have ez := stg_zero rs
    refine ite2 (fun ok => ?_) (fun ok => ?_)
    · rw [if_pos ok] at ez
      refine ⟨by show 0 ≤ sizeLine; decide, fun p1 hp1 => ⟨_, rfl, by show 2 ≤ sizeLine; decide, fun p2 hp2 => ⟨by show 1 ≤ sizeLine; decide, fun g hg => ?_⟩⟩⟩
      have a1 := same_new' (H := H1) hp1 (.tup [])
      have a2 := same_new' (H := upd H1 p1 (.tup [])) hp2 (.tup [.ref p1, .ref E])
      have a3 := same_new' (H := upd (upd H1 p1 (.tup [])) p2 (.tup [.ref p1, .ref E])) hg (.lst [.ref p2])
      have a13 := (a1.trans a2).trans a3
      refine REST _ _ ⟨g, [.ref p2], rfl, upd_same, ?_, s1.trans a13⟩
      rw [← ez]
      exact .cons ⟨p2, p1, E, rfl, a3.tup (sqT_new upd_same), (a2.trans a3).tup (sqT_new upd_same), a13.seq (sqL_new hE1)⟩ .nil
    · rw [if_neg ok] at ez
      refine ⟨by show 0 ≤ sizeLine; decide, fun g hg => ?_⟩
      refine REST _ _ ⟨g, [], rfl, upd_same, ?_, s1.trans (same_new' hg _)⟩
      rw [← ez]
      exact .nil
  rintro σ' H2 ⟨g0, ws0, rfl, hg0, pr0, s2⟩
  refine ⟨_, rfl, t, _, _, _, rfl, rfl, s2.tup ht, at1, c, _, rfl, .inr (s2.tup hc), _, rfl, by rw [List.length_map]; omega, by rw [List.length_map]; omega, for_range (lo := 0) (n := Int.toNat (((cs.map V.int).length : Nat) : Int)) (fun k σ H3 => ∃ (g : Addr) (ws : List V) (u : Option V), σ = [some (.ref t), some (.ref l), some (.ref E), some (.ref g), u] ∧ H3 g = some (.lst ws) ∧ PrsAre K H3 ws (stg rs k) ∧ Same H H3)
    ⟨g0, ws0, none, rfl, hg0, pr0, s2⟩ ?_ ?_⟩
  · rintro k σ H3 hk ⟨g, ws, u, rfl, hg, pr, s3⟩
    have hk' : k < cs.length := by rw [List.length_map] at hk; omega
    refine ⟨_, rfl, _, rfl, l, rfl, ⟨_, s3.seq hl⟩, fun B hB => ?_⟩
    refine lc_any (n := rs.length) (fun j τ ys H4 => ∃ v : Option V, τ = [v, some (.int (0 + (k : Int)))] ∧ ys = ((rs.map fun r => r.1.getD k 0).take j).map V.int ∧ H4 B = some (.lst ys) ∧ Same H3 H4) ?_ (fun j τ ys H4 hj h => ?_) (fun j τ ys H4 hj h => ?_) (fun τ ys H4 h => ?_) ?_ ?_
    · exact ⟨none, rfl, rfl, upd_same, same_new' hB _⟩
    · obtain ⟨v, rfl, rfl, hB4, s4⟩ := h
      exact ⟨hB4, by rw [List.length_map, List.length_take]; omega⟩
    · obtain ⟨v, rfl, rfl, hB4, s4⟩ := h
      exact ⟨vs, vs[j]'(by omega), (s3.trans s4).seq hl, List.getElem?_eq_getElem (by omega)⟩
    · obtain ⟨v, rfl, rfl, hB4, s4⟩ := h
      exact ⟨vs, (s3.trans s4).seq hl, by omega⟩
    · rintro j τ ys H4 x H5 hj ⟨v, rfl, rfl, hB4, s4⟩ ⟨rfl, e1⟩
      have s34 := s3.trans s4
      obtain ⟨t', r, rfl, er, p, r1, r2⟩ := hrw.get (e1 _ (s34.seq hl))
      have eU : (rs.map fun r => r.1.getD k 0)[j]? = some (r.1.getD k 0) := by rw [List.getElem?_map, er]; rfl
      have lr := hrl r (List.mem_of_getElem? er)
      refine ⟨_, rfl, t', _, _, _, rfl, rfl, s34.tup r1, at0, _, rfl, p, _, _, _, rfl, rfl, s34.tup r2, atInt (by omega), hB4, _, rfl, ?_, upd_same, fun b' o e => ?_⟩
      · rw [takeS eU, List.map_append]; rfl
      · rw [upd_ne (ne_of_none e hB)]; exact s4 _ _ e
    rintro τ ys H4 ⟨v, rfl, rfl, hB4, s4⟩
    rw [List.take_of_length_le (by rw [List.length_map]; exact Nat.le_refl _)] at hB4
    refine ⟨g, B, ws, stg rs k, _, rfl, s4.seq (sqL_new hg), pr.same s4, sqL_new hB4, by rw [List.length_map]; omega, Nat.le_trans (stg_len (by omega)) (by decide), fun p hp => ?_, fun D2 ws2 H5 s5 hD2 hD2' pr2 => ?_⟩
    · obtain ⟨h1, h2⟩ := stg_mem hp
      exact ⟨by omega, by rw [List.length_map]; exact h2⟩
    · exact ⟨D2, ws2, _, rfl, hD2', by rw [← grow_stg (fun r hr' => by have := hrl r hr'; omega)]; exact pr2, (s3.trans s4).trans s5⟩
  · rintro σ H3 ⟨g, ws, u, rfl, hg, pr, s3⟩
    have en : Int.toNat (((cs.map V.int).length : Nat) : Int) = cs.length := by rw [List.length_map]; omega
    rw [en] at pr
    have lp := pr.length
    have l4 := stg_len (rs := rs) hcn
    refine ⟨_, rfl, g, rfl, ⟨_, sqL_new hg⟩, fun R hR => ?_⟩
    refine lc_any (n := (stg rs cs.length).length) (fun j τ ys H4 => ∃ u v : Option V, τ = [u, v] ∧ TupsAre K H4 ys (((stg rs cs.length).map (·.1)).take j) ∧ H4 R = some (.lst ys) ∧ Same H3 H4) ?_ (fun j τ ys H4 hj h => ?_) (fun j τ ys H4 hj h => ?_) (fun τ ys H4 h => ?_) ?_ ?_
    · exact ⟨none, none, rfl, .nil, upd_same, same_new' hR _⟩
    · obtain ⟨u, v, rfl, ta, hR4, s4⟩ := h
      have := ta.length
      rw [List.length_take, List.length_map] at this
      exact ⟨hR4, by omega⟩
    · obtain ⟨u, v, rfl, ta, hR4, s4⟩ := h
      exact ⟨ws, ws[j]'(by omega), s4.seq (sqL_new hg), List.getElem?_eq_getElem (by omega)⟩
    · obtain ⟨u, v, rfl, ta, hR4, s4⟩ := h
      exact ⟨ws, s4.seq (sqL_new hg), by omega⟩
    · rintro j τ ys H4 x H5 hj ⟨u, v, rfl, ta, hR4, s4⟩ ⟨rfl, e1⟩
      obtain ⟨p, ep, T, b, l', rfl, hT, hb, hl'⟩ := pr.get (e1 _ (s4.seq (sqL_new hg)))
      have eU : ((stg rs cs.length).map (·.1))[j]? = some p.1 := by rw [List.getElem?_map, ep]; rfl
      refine ⟨T, _, rfl, s4.tup hT, rfl, _, _, rfl, _, _, rfl, rfl, ?_⟩
      refine ⟨_, rfl, hR4, _, _, rfl, ?_, upd_same, fun b' o e => ?_⟩
      · rw [takeS eU]
        exact (ta.upd hR4).sn (SqT_upd hR4 (s4.tup hb))
      · rw [upd_ne (ne_of_none e hR)]; exact s4 _ _ e
    rintro τ ys H4 ⟨u, v, rfl, ta, hR4, s4⟩
    rw [List.take_of_length_le (by rw [List.length_map]; exact Nat.le_refl _), stg_good hrl] at ta
    exact q R ys H4 (s3.trans s4) (fresh_back s3 hR) hR4 ta
end
end Nb
namespace Nb
open PySem L2
noncomputable abbrev sLeastP : Stmt := top 7
noncomputable abbrev sAreP : Stmt := top 18
section
variable {P : Program} {w : World} {K : PySem.W.Frag} {mg : Str → Option Value} {base : Heap}
theorem scLeastP : FnScope ["problem", "points", "cost"] ["problem"] (defScope sLeastP) := ⟨rfl, rfl, rfl, by decide +kernel, rfl, by decide +kernel, by decide +kernel⟩
theorem okLeastP (F : Fn K mg "least_points" sLeastP) (M : Mg mg) (c_all_points : Cal P w K mg base 2 "all_points" ["problem"] (spAllP K)) (c_cost_of : Cal P w K mg base 2 "cost_of" ["problem", "point"] (spCost K)) : Cal P w K mg base 3 "least_points" ["problem"] (spLeastP K) := by
  refine cal_of F scLeastP (fun _ _ _ _ _ _ => bind1 (fun _ => rfl)) (fun vs H Q E h => ?_) (fun f cdv A outer s H vs Q E hr h => ?_)
  · obtain ⟨t, rs, cs, rfl, _⟩ := h
    rfl
  obtain ⟨t, rs, cs, rfl, hpb, q⟩ := h
  refine ⟨_, (pss_cons (ps_set (i := 1) scLeastP.nd rfl (Or.inl rfl) (pe_fn c_all_points (hr.mono (by decide)) (pa_cons (pv 0) pa_nil)))
    (pss_cons (ps_set (i := 2) scLeastP.nd rfl (Or.inr rfl) (pe_minDV rfl rfl M.min (pa_cons (pe_lc ["point", "problem"] [none, some 0] rfl (pi_list (pv 1)) (fun _ _ _ => (pg_name (i := 0) (show (["point", "problem"] : List Str).Nodup by decide +kernel) rfl (Or.inl rfl) (Or.inr rfl))) (fun _ _ _ => pf_nil) (fun _ _ _ => (pe_fn c_cost_of (hr.mono (by decide)) (pa_cons (pv 1) (pa_cons (pv 0) pa_nil))))) pa_nil) pe_non))
    (pss_one (ps_ret (pe_tup (pa_cons (pv 2) (pa_cons (pe_lc ["point", "problem", "cost"] [none, some 0, some 2] rfl (pi_list (pv 1)) (fun _ _ _ => (pg_name (i := 0) (show (["point", "problem", "cost"] : List Str).Nodup by decide +kernel) rfl (Or.inl rfl) (Or.inr rfl))) (fun _ _ _ => (pf_one (pt_cmpR op_eq (pe_fn c_cost_of (hr.mono (by decide)) (pa_cons (pv 1) (pa_cons (pv 0) pa_nil))) (pv 2) (nomark _)))) (fun _ _ _ => (pv 0))) pa_nil))))))), ?_⟩
  refine seq_let3 ?_
  intro rT3 rT2
  have hz : (100000 : Nat) < sizeLine := by decide
  obtain ⟨pt, hcn, hrn, hrl⟩ := id hpb
  have l4 := good_len (rs := rs) hcn
  refine ⟨_, rfl, t, rs, cs, rfl, hpb, fun D ws H1 s1 hD0 hD1 tw => ?_⟩
  have lw := tw.length
  refine ⟨_, rfl, D, rfl, ⟨_, sqL_new hD1⟩, fun E hE => ?_⟩
  refine lc_any (n := (goodP rs cs.length).length) (fun i τ ys H2 => ∃ v : Option V, τ = [v, some (.ref t)] ∧ ys = (((goodP rs cs.length).map (dot cs)).take i).map V.int ∧ H2 E = some (.lst ys) ∧ Same H1 H2) ?_ (fun i τ ys H2 hi h => ?_) (fun i τ ys H2 hi h => ?_) (fun τ ys H2 h => ?_) ?_ ?_
  · exact ⟨none, rfl, rfl, upd_same, same_new' hE _⟩
  · obtain ⟨v, rfl, rfl, hE2, s2⟩ := h
    exact ⟨hE2, by rw [List.length_map, List.length_take]; omega⟩
  · obtain ⟨v, rfl, rfl, hE2, s2⟩ := h
    exact ⟨ws, ws[i]'(by omega), s2.seq (sqL_new hD1), List.getElem?_eq_getElem (by omega)⟩
  · obtain ⟨v, rfl, rfl, hE2, s2⟩ := h
    exact ⟨ws, s2.seq (sqL_new hD1), by omega⟩
  · rintro i τ ys H2 x H3 hi ⟨v, rfl, rfl, hE2, s2⟩ ⟨rfl, e1⟩
    obtain ⟨b, ms, rfl, em, hb⟩ := tw.get (e1 _ (s2.seq (sqL_new hD1)))
    obtain ⟨lm, m01⟩ := good_mem (List.mem_of_getElem? em)
    have eU : ((goodP rs cs.length).map (dot cs))[i]? = some (dot cs ms) := by rw [List.getElem?_map, em]; rfl
    refine ⟨_, rfl, _, rfl, t, b, rs, cs, ms, rfl, pt.same (s1.trans s2), s2.tup hb, by omega, m01, fun H4 s4 => ⟨s4 _ _ hE2, _, rfl, ?_, upd_same, fun b' o e => ?_⟩⟩
    · rw [takeS eU, List.map_append]; rfl
    · rw [upd_ne (ne_of_none e hE)]; exact s4 _ _ (s2 _ _ e)
  rintro τ ys H2 ⟨v, rfl, rfl, hE2, s2⟩
  rw [List.take_of_length_le (by rw [List.length_map]; exact Nat.le_refl _)] at hE2
  refine ⟨E, (goodP rs cs.length).map (dot cs), rfl, sqL_new hE2, fun cv c0 c1 => ?_⟩
  have c0' : goodP rs cs.length = [] → cv = .non := fun z => c0 (by rw [z]; rfl)
  have c1' : goodP rs cs.length ≠ [] → ∃ m, cv = .int m ∧ minOf ((goodP rs cs.length).map (dot cs)) m := fun z => by
    obtain ⟨m, e, h1, h2⟩ := c1 (fun y => z (List.map_eq_nil_iff.mp y))
    exact ⟨m, e, h1, h2⟩
  have s12 := s1.trans s2
  refine ⟨_, rfl, _, rfl, D, rfl, ⟨_, s2.seq (sqL_new hD1)⟩, fun F hF => ?_⟩
  refine lc_any (n := (goodP rs cs.length).length) (fun i τ ys H3 => ∃ v : Option V, τ = [v, some (.ref t), some cv] ∧ TupsAre K H3 ys (((goodP rs cs.length).take i).filter fun b => decide (V.int (dot cs b) = cv)) ∧ H3 F = some (.lst ys) ∧ Same H2 H3) ?_ (fun i τ ys H3 hi h => ?_) (fun i τ ys H3 hi h => ?_) (fun τ ys H3 h => ?_) ?_ ?_
  · exact ⟨none, rfl, .nil, upd_same, same_new' hF _⟩
  · obtain ⟨v, rfl, ta, hF3, s3⟩ := h
    have a1 := ta.length
    have a2 := List.length_filter_le (fun b => decide (V.int (dot cs b) = cv)) ((goodP rs cs.length).take i)
    rw [List.length_take] at a2
    exact ⟨hF3, by omega⟩
  · obtain ⟨v, rfl, ta, hF3, s3⟩ := h
    exact ⟨ws, ws[i]'(by omega), (s2.trans s3).seq (sqL_new hD1), List.getElem?_eq_getElem (by omega)⟩
  · obtain ⟨v, rfl, ta, hF3, s3⟩ := h
    exact ⟨ws, (s2.trans s3).seq (sqL_new hD1), by omega⟩
  · rintro i τ ys H3 x H4 hi ⟨v, rfl, ta, hF3, s3⟩ ⟨rfl, e1⟩
    obtain ⟨b, ms, rfl, em, hb⟩ := tw.get (e1 _ ((s2.trans s3).seq (sqL_new hD1)))
    obtain ⟨lm, m01⟩ := good_mem (List.mem_of_getElem? em)
    obtain ⟨m, ecv, _⟩ := c1' (fun z => by rw [z] at em; simp at em)
    refine ⟨_, rfl, _, rfl, t, b, rs, cs, ms, rfl, pt.same (s12.trans s3), (s2.trans s3).tup hb, by omega, m01, fun H5 s5 => ⟨_, rfl, by rw [ecv]; rfl, _, rfl, ?_⟩⟩
    have hF5 := s5 _ _ hF3
    refine ite2 (fun y => ?_) (fun y => ?_)
    · refine ⟨_, rfl, hF5, _, rfl, ?_, upd_same, fun b' o e => ?_⟩
      · rw [takeS em, List.filter_append, filt_yes (f := fun b => decide (V.int (dot cs b) = cv)) y]
        exact ((ta.same s5).upd hF5).sn (SqT_upd hF5 (((s2.trans s3).trans s5).tup hb))
      · rw [upd_ne (ne_of_none e hF)]; exact s5 _ _ (s3 _ _ e)
    · refine ⟨_, rfl, ?_, hF5, s3.trans s5⟩
      rw [takeS em, List.filter_append, filt_no (f := fun b => decide (V.int (dot cs b) = cv)) y, List.append_nil]
      exact ta.same s5
  rintro τ ys H3 ⟨v, rfl, ta, hF3, s3⟩
  rw [List.take_length] at ta
  refine ⟨by show 2 ≤ sizeLine; decide, fun T hT => ?_⟩
  have s4 := same_new' (H := H3) hT (.tup [cv, .ref F])
  exact q T F cv ys _ ((s12.trans s3).trans s4) (sqT_new upd_same) (fresh_back s12 hF) (s4 _ _ hF3) (ta.same s4) c0' c1'
theorem scAreP : FnScope ["_law_found", "_law_point"] ["_law_found"] (defScope sAreP) := ⟨rfl, rfl, rfl, by decide +kernel, rfl, by decide +kernel, by decide +kernel⟩
theorem okAreP (F : Fn K mg "_law_are_points" sAreP) (M : Mg mg) (cl_whole : Cal P w K mg base 1 "_law_whole" ["_law_found"] (spWhole)) : Cal P w K mg base 2 "_law_are_points" ["_law_found"] (spAreP K) := by
  refine cal_of F scAreP (fun _ _ _ _ _ _ => bind1 (fun _ => rfl)) (fun vs H Q E h => ?_) (fun f cdv A outer s H vs Q E hr h => ?_)
  · obtain ⟨l, ws, ps, rfl, _⟩ := h
    rfl
  obtain ⟨l, ws, ps, rfl, hl, tw, hp, q⟩ := h
  refine ⟨_, (pss_cons (ps_if (pt_not (pt_val (pe_callB call_isiW rfl M.isinstance bt_isinstance (pa_cons (pv 0) (pa_cons (pe_ty M.list_ bt_list) pa_nil))))) (pss_one (ps_ret pe_bl)) pss_nil)
    (pss_cons (ps_for PassesOwn.never rfl (pi_list (pv 0)) (pg_name (i := 1) scAreP.nd rfl (Or.inl rfl) (Or.inl rfl)) (pss_one (ps_if (PW.pt (pw_or (pt_not (pt_val (pe_callB call_isiW rfl M.isinstance bt_isinstance (pa_cons (pv 1) (pa_cons (pe_ty M.tuple_ bt_tuple) pa_nil))))) (pw_or1 (pt_not (pt_val (pe_callB (call_allB rfl) rfl M.all bt_all (pa_cons (pe_lc ["_law_one"] [none] rfl (pi_tup (pv 1)) (fun _ _ _ => (pg_name (i := 0) (show (["_law_one"] : List Str).Nodup by decide +kernel) rfl (Or.inl rfl) (Or.inr rfl))) (fun _ _ _ => pf_nil) (fun _ _ _ => (pe_fn cl_whole (hr.mono (by decide)) (pa_cons (pv 0) pa_nil)))) pa_nil))))))) (pss_one (ps_ret pe_bl)) pss_nil)))
    (pss_one (ps_ret pe_bl)))), ?_⟩
  refine seq_let3 ?_
  intro rT3 rT2
  have hz : (100000 : Nat) < sizeLine := by decide
  refine ⟨_, rfl, _, "list", true, rfl, .list, .inr ⟨⟨_, hl⟩, rfl⟩, _, rfl, iteF ?_⟩
  refine ⟨_, rfl, l, rfl, ⟨_, hl⟩, for_list (K := K) (a := l) (xs := ws) (fun i σ H1 => (∃ u : Option V, σ = [some (.ref l), u]) ∧ Same H H1) ⟨⟨none, rfl⟩, Same.refl _⟩ (fun i σ H1 _ h => h.2.seq hl) ?_ ?_⟩
  · rintro i x σ H1 e1 ⟨⟨u, rfl⟩, s1⟩
    obtain ⟨b, ms, rfl, em, hb⟩ := tw.get e1
    have lm := hp ms (List.mem_of_getElem? em)
    refine ⟨_, rfl, _, "tuple", true, rfl, .tuple, .inl ⟨⟨_, s1.tup hb⟩, rfl⟩, _, rfl, iteF ?_⟩
    refine ⟨_, rfl, b, rfl, ⟨_, s1.tup hb⟩, fun D hD => ?_⟩
    refine lc_any (n := ms.length) (fun i τ ys H2 => ∃ v : Option V, τ = [v] ∧ ys = (List.replicate i true).map V.bl ∧ H2 D = some (.lst ys) ∧ Same H1 H2) ?_ (fun i τ ys H2 hi h => ?_) (fun i τ ys H2 hi h => ?_) (fun τ ys H2 h => ?_) ?_ ?_
    · exact ⟨none, rfl, rfl, upd_same, same_new' hD _⟩
    · obtain ⟨v, rfl, rfl, hE, s2⟩ := h
      exact ⟨hE, by rw [List.length_map, List.length_replicate]; omega⟩
    · obtain ⟨v, rfl, rfl, hE, s2⟩ := h
      exact ⟨_, .int ms[i], (s1.trans s2).tup hb, by rw [List.getElem?_map, List.getElem?_eq_getElem hi]; rfl⟩
    · obtain ⟨v, rfl, rfl, hE, s2⟩ := h
      exact ⟨_, (s1.trans s2).tup hb, by rw [List.length_map]; exact Nat.le_refl _⟩
    · rintro i τ ys H2 x H3 hi ⟨v, rfl, rfl, hE, s2⟩ ⟨rfl, e2⟩
      obtain ⟨z, ez, rfl⟩ := getMapI (e2 _ ((s1.trans s2).tup hb))
      refine ⟨_, rfl, z, rfl, hE, _, rfl, ?_, upd_same, fun b' o e => ?_⟩
      · rw [List.replicate_succ', List.map_append]; rfl
      · rw [upd_ne (ne_of_none e hD)]; exact s2 _ _ e
    rintro τ ys H2 ⟨v, rfl, rfl, hE, s2⟩
    refine ⟨D, _, rfl, sqL_new hE, _, rfl, ?_⟩
    rw [all_true]
    exact iteF ⟨⟨_, rfl⟩, s1.trans s2⟩
  · rintro σ H1 ⟨⟨u, rfl⟩, s1⟩
    exact q H1 s1
end
end Nb
namespace Nb
open PySem L2
noncomputable abbrev sRight : Stmt := top 19
section
variable {P : Program} {w : World} {K : PySem.W.Frag} {mg : Str → Option Value} {base : Heap}
theorem scRight : FnScope ["_law_handed", "_law_problem_here", "_law_good", "_law_costs", "_law_found", "_law_least", "_law_due", "_law_lowest"] ["_law_handed", "_law_problem_here", "_law_good"] (defScope sRight) := ⟨rfl, rfl, rfl, by decide +kernel, rfl, by decide +kernel, by decide +kernel⟩
theorem okRight (F : Fn K mg "_law_right" sRight) (M : Mg mg) (c_all_points : Cal P w K mg base 2 "all_points" ["problem"] (spAllP K)) (c_least_points : Cal P w K mg base 3 "least_points" ["problem"] (spLeastP K)) (cl_are_points : Cal P w K mg base 2 "_law_are_points" ["_law_found"] (spAreP K)) (cl_at : Cal P w K mg base 1 "_law_at" ["_law_numbers", "_law_some"] (spWeighed K)) (cl_whole : Cal P w K mg base 1 "_law_whole" ["_law_found"] (spWhole)) : Cal P w K mg base 4 "_law_right" ["_law_handed", "_law_problem_here", "_law_good"] (spRight K) := by
  refine cal_of F scRight (fun _ _ _ _ _ _ => bind3 (fun _ _ _ => rfl)) (fun vs H Q E h => ?_) (fun f cdv A outer s H vs Q E hr h => ?_)
  · obtain ⟨h, t, g, rs, cs, ws, rfl, _⟩ := h
    rfl
  obtain ⟨h, t, g, rs, cs, ws, rfl, hpb, tpb, hg, tw, q⟩ := h
  have hu6 : (A.deeper (PyProof.Rows.envOfC "_law_right" (defScope sRight) s.heap.objs.size f cdv)).units + 6 < cLine := Nat.lt_of_le_of_lt (Nat.add_le_add_left (by decide) _) hr.un
  refine ⟨_, (pss_cons (ps_set (i := 3) scRight.nd rfl (Or.inr rfl) (pe_ix ix_tup (pv 1) pe_int (fun _ _ => rfl)))
    (pss_cons (ps_set (i := 4) scRight.nd rfl (Or.inl rfl) (pe_fn c_all_points (hr.mono (by decide)) (pa_cons (pv 0) pa_nil)))
    (pss_cons (ps_set (i := 5) scRight.nd rfl (Or.inl rfl) (pe_fn c_least_points (hr.mono (by decide)) (pa_cons (pv 0) pa_nil)))
    (pss_cons (ps_if (PW.pt (pw_or (pt_cmpR (op_neD (n := 6) hu6) (pv 0) (pv 1) (nomark _)) (pw_or (pt_not (pt_val (pe_fn cl_are_points (hr.mono (by decide)) (pa_cons (pv 4) pa_nil)))) (pw_or1 (pt_cmpR (op_neD (n := 6) hu6) (pv 4) (pv 2) (nomark _)))))) (pss_one (ps_ret pe_bl)) pss_nil)
    (pss_cons (ps_if (PW.pt (pw_or (pt_not (pt_val (pe_callB call_isiW rfl M.isinstance bt_isinstance (pa_cons (pv 5) (pa_cons (pe_ty M.tuple_ bt_tuple) pa_nil))))) (pw_or (pt_cmpR op_ne (pe_callB call_len_seq rfl M.len bt_len (pa_cons (pv 5) pa_nil)) pe_int (nomark _)) (pw_or1 (pt_not (pt_val (pe_fn cl_are_points (hr.mono (by decide)) (pa_cons (pe_ix ix_tup (pv 5) pe_int (fun _ _ => rfl)) pa_nil)))))))) (pss_one (ps_ret pe_bl)) pss_nil)
    (pss_cons (ps_expr (pe_bm PySem.F.plainAttrs_list PySem.F.slot_list_append PySem.F.type_list_append mt_append (pv 4) (pa_cons (pe_tup pa_nil) pa_nil)))
    (pss_cons (ps_set (i := 6) scRight.nd rfl (Or.inl rfl) (pe_lst pa_nil))
    (pss_cons (ps_if (pt_cmpR (op_eqD (n := 6) hu6) (pv 2) (pe_lst pa_nil) (nomark _)) (pss_one (ps_if (pt_cmpR op_notN (pe_ix ix_tup (pv 5) pe_int (fun _ _ => rfl)) pe_non (nomark _)) (pss_one (ps_ret pe_bl)) pss_nil)) (pss_cons (ps_set (i := 7) scRight.nd rfl (Or.inr rfl) (pe_callB (call_minL rfl) rfl M.min bt_min (pa_cons (pe_lc ["_law_point", "_law_costs"] [none, some 3] rfl (pi_list (pv 2)) (fun _ _ _ => (pg_name (i := 0) (show (["_law_point", "_law_costs"] : List Str).Nodup by decide +kernel) rfl (Or.inl rfl) (Or.inr rfl))) (fun _ _ _ => pf_nil) (fun _ _ _ => (pe_fn cl_at (hr.mono (by decide)) (pa_cons (pv 1) (pa_cons (pv 0) pa_nil))))) pa_nil)))
    (pss_cons (ps_setC (i := 6) ["_law_point", "_law_costs", "_law_lowest"] [none, some 3, some 7] rfl scRight.nd rfl (Or.inl rfl) (pi_list (pv 2)) (fun _ _ _ => (pg_name (i := 0) (show (["_law_point", "_law_costs", "_law_lowest"] : List Str).Nodup by decide +kernel) rfl (Or.inl rfl) (Or.inr rfl))) (fun _ _ _ => (pf_one (pt_cmpR op_eq (pe_fn cl_at (hr.mono (by decide)) (pa_cons (pv 1) (pa_cons (pv 0) pa_nil))) (pv 2) (nomark _)))) (fun _ _ _ => (pv 0)))
    (pss_one (ps_if (PW.pt (pw_or (pt_not (pt_val (pe_fn cl_whole (hr.mono (by decide)) (pa_cons (pe_ix ix_tup (pv 5) pe_int (fun _ _ => rfl)) pa_nil)))) (pw_or1 (pt_cmpR op_ne (pe_ix ix_tup (pv 5) pe_int (fun _ _ => rfl)) (pv 7) (nomark _))))) (pss_one (ps_ret pe_bl)) pss_nil)))))
    (pss_cons (ps_if (pt_cmpR (op_neD (n := 6) hu6) (pe_ix ix_tup (pv 5) pe_int (fun _ _ => rfl)) (pv 6) (nomark _)) (pss_one (ps_ret pe_bl)) pss_nil)
    (pss_cons (ps_expr (pe_bm PySem.F.plainAttrs_list PySem.F.slot_list_append PySem.F.type_list_append mt_append (pe_ix ix_tup (pv 5) pe_int (fun _ _ => rfl)) (pa_cons (pe_tup pa_nil) pa_nil)))
    (pss_one (ps_ret (pe_cmpR (op_eqD (n := 6) hu6) (pv 0) (pv 1) (nomark _)))))))))))))), ?_⟩
  have hz : (100000 : Nat) < sizeLine := by decide
  obtain ⟨pt, hcn, hrn, hrl⟩ := id tpb
  obtain ⟨l, c, vs, ht, hl, hrw, hc⟩ := id pt
  have l4 := good_len (rs := rs) hcn
  have lw := tw.length
  have small : ∀ p ∈ goodP rs cs.length, p.length ≤ 1000 := fun p hp => by have := (good_mem hp).1; omega
  have smallL : ∀ cv : V, ∀ p ∈ lowV rs cs cs.length cv, p.length ≤ 1000 := fun cv p hp => small p (List.mem_filter.mp hp).1
  refine ⟨_, rfl, t, _, _, _, rfl, rfl, ht, at1, ?_⟩
  refine ⟨_, rfl, h, rs, cs, rfl, hpb, fun D1 ws1 H1 s1 hD1 hD1' tw1 => ?_⟩
  refine ⟨_, rfl, h, rs, cs, rfl, hpb.same s1, fun T F cv ws2 H2 s2 hT hF hF' tw2 c0 c1 => ?_⟩
  have s12 := s1.trans s2
  refine ⟨_, rfl, _, rfl, h, t, _, _, rfl, rfl, (hpb.1.same s12).hasD, (pt.same s12).hasD, alikeProb rs rs cs cs, fun b1 hb1 => ⟨_, rfl, ?_⟩⟩
  rw [hb1.mpr rfl]
  refine iteF ⟨_, rfl, D1, ws1, _, rfl, s2.seq (sqL_new hD1'), tw1.same s2, small, fun H3 s3 => ⟨_, rfl, iteF ?_⟩⟩
  have s13 := s12.trans s3
  have hD3 := (s2.trans s3) _ _ hD1'
  refine ⟨_, rfl, _, rfl, D1, g, _, _, rfl, rfl, TupsAre.hasD (sqL_new hD3) (tw1.same (s2.trans s3)), TupsAre.hasD (s13.seq hg) (tw.same s13), alikeTups _ _, fun b2 hb2 => ⟨_, rfl, ?_⟩⟩
  rw [hb2.mpr rfl]
  refine iteF ⟨_, rfl, _, "tuple", true, rfl, .tuple, .inl ⟨⟨_, s3.tup hT⟩, rfl⟩, _, rfl, iteF ⟨_, rfl, T, _, rfl, .inr (s3.tup hT), rfl, _, rfl, iteNS rfl ⟨_, rfl, T, _, _, _, rfl, rfl, s3.tup hT, at1, F, ws2, _, rfl, s3.seq (sqL_new hF'), tw2.same s3, smallL cv, fun H4 s4 => ⟨_, rfl, iteF ?_⟩⟩⟩⟩
  have hD4 := s4 _ _ hD3
  have s14 := s13.trans s4
  have s34 := s3.trans s4
  refine ⟨_, rfl, .inl ⟨rfl, _, sqL_new hD4⟩, by show 0 ≤ sizeLine; decide, fun p0 hp0 => ?_⟩
  have a0 := same_new' (H := H4) hp0 (.tup [])
  have lw1 := tw1.length
  have lw2 := tw2.length
  have ll2 : (lowV rs cs cs.length cv).length ≤ (goodP rs cs.length).length := List.length_filter_le _ _
  refine ⟨D1, _, _, rfl, rfl, a0 _ _ hD4, by omega, ?_⟩
  have nFD : F ≠ D1 := (ne_of_none hD1' hF).symm
  have s5 : Same H (upd (upd H4 p0 (.tup [])) D1 (.lst (ws1 ++ [.ref p0]))) := fun b o e => by rw [upd_ne (ne_of_none e hD1)]; exact a0 _ _ (s14 _ _ e)
  have hT5 : SqT K (upd (upd H4 p0 (.tup [])) D1 (.lst (ws1 ++ [.ref p0]))) T [cv, .ref F] := SqT_upd (a0 _ _ hD4) ((s34.trans a0).tup hT)
  have hF5 : upd (upd H4 p0 (.tup [])) D1 (.lst (ws1 ++ [.ref p0])) F = some (.lst ws2) := by rw [upd_ne nFD]; exact (s34.trans a0) _ _ hF'
  have tw5 : TupsAre K (upd (upd H4 p0 (.tup [])) D1 (.lst (ws1 ++ [.ref p0]))) ws2 (lowV rs cs cs.length cv) := (tw2.same (s34.trans a0)).upd (a0 _ _ hD4)
  generalize upd (upd H4 p0 (.tup [])) D1 (.lst (ws1 ++ [.ref p0])) = H5 at s5 hT5 hF5 tw5 ⊢
  refine ⟨by show 0 ≤ sizeLine; decide, fun d hd => ?_⟩
  have a5 := same_new' (H := H5) hd (.lst [])
  refine name_cut (fun σ' H' => ∃ (u : Option V) (dd : Addr) (wd : List V), σ' = [some (.ref h), some (.ref t), some (.ref g), some (.ref c), some (.ref D1), some (.ref T), some (.ref dd), u] ∧ SqL K H' dd wd ∧ TupsAre K H' wd (lowV rs cs cs.length cv) ∧ Same H5 H') ?_ fun REST => ?_
  rotate_left
  · refine ⟨_, rfl, by show 0 ≤ sizeLine; decide, fun e0 he0 => ?_⟩
    have a6 := a5.trans (same_new' he0 (.lst []))
    have s6 := s5.trans a6
    refine ⟨g, e0, _, _, rfl, rfl, TupsAre.hasD (s6.seq hg) (tw.same s6), hasEmp upd_same, alikeEmp, fun b3 hb3 => ⟨_, rfl, ite2 (fun y => ?_) (fun y => ?_)⟩⟩
    · have gn := (nil_iffT _).mp (hb3.mp y)
      refine ⟨_, rfl, T, _, _, _, rfl, rfl, a6.tup hT5, at0, rfl, _, rfl, iteNS (c0 gn) ?_⟩
      refine REST _ _ ⟨_, d, [], rfl, (same_new' he0 _).seq (sqL_new upd_same), ?_, a6⟩
      unfold lowV
      rw [gn]
      exact .nil
    · have gn : goodP rs cs.length ≠ [] := fun z => y (hb3.mpr ((nil_iffT _).mpr z))
      obtain ⟨m, ecv, hm⟩ := c1 gn
      subst ecv
      generalize upd (upd H5 d (.lst [])) e0 (.lst []) = H6 at a6 s6 ⊢
      refine ⟨_, rfl, g, rfl, ⟨_, s6.seq hg⟩, fun E hE => ?_⟩
      refine lc_any (n := (goodP rs cs.length).length) (fun i τ ys H7 => ∃ v : Option V, τ = [v, some (.ref c)] ∧ ys = (((goodP rs cs.length).map (dot cs)).take i).map V.int ∧ H7 E = some (.lst ys) ∧ Same H6 H7) ?_ (fun i τ ys H7 hi h => ?_) (fun i τ ys H7 hi h => ?_) (fun τ ys H7 h => ?_) ?_ ?_
      · exact ⟨none, rfl, rfl, upd_same, same_new' hE _⟩
      · obtain ⟨v, rfl, rfl, hE2, s7⟩ := h
        exact ⟨hE2, by rw [List.length_map, List.length_take]; omega⟩
      · obtain ⟨v, rfl, rfl, hE2, s7⟩ := h
        exact ⟨ws, ws[i]'(by omega), (s6.trans s7).seq hg, List.getElem?_eq_getElem (by omega)⟩
      · obtain ⟨v, rfl, rfl, hE2, s7⟩ := h
        exact ⟨ws, (s6.trans s7).seq hg, by omega⟩
      · rintro i τ ys H7 x H8 hi ⟨v, rfl, rfl, hE2, s7⟩ ⟨rfl, e1⟩
        have s67 := s6.trans s7
        obtain ⟨b, ms, rfl, em, hb⟩ := tw.get (e1 _ (s67.seq hg))
        obtain ⟨lm, m01⟩ := good_mem (List.mem_of_getElem? em)
        have eU : ((goodP rs cs.length).map (dot cs))[i]? = some (dot cs ms) := by rw [List.getElem?_map, em]; rfl
        refine ⟨_, rfl, _, rfl, c, b, cs, ms, rfl, s67.tup hc, s67.tup hb, by omega, m01, fun H9 s9 => ⟨s9 _ _ hE2, _, rfl, ?_, upd_same, fun b' o e => ?_⟩⟩
        · rw [takeS eU, List.map_append]; rfl
        · rw [upd_ne (ne_of_none e hE)]; exact s9 _ _ (s7 _ _ e)
      rintro τ ys H7 ⟨v, rfl, rfl, hE2, s7⟩
      rw [List.take_of_length_le (by rw [List.length_map]; exact Nat.le_refl _)] at hE2
      refine ⟨E, (goodP rs cs.length).map (dot cs), rfl, sqL_new hE2, (fun z => gn (List.map_eq_nil_iff.mp z)), fun k hk hx => ?_⟩
      have ek : k = m := hm.one ⟨hk, hx⟩
      subst ek
      have s67 := s6.trans s7
      refine ⟨_, rfl, g, rfl, ⟨_, s67.seq hg⟩, fun B hB => ?_⟩
      refine lc_any (n := (goodP rs cs.length).length) (fun i τ ys H8 => ∃ v : Option V, τ = [v, some (.ref c), some (.int k)] ∧ TupsAre K H8 ys (((goodP rs cs.length).take i).filter fun b => decide (V.int (dot cs b) = V.int k)) ∧ H8 B = some (.lst ys) ∧ Same H7 H8) ?_ (fun i τ ys H8 hi h => ?_) (fun i τ ys H8 hi h => ?_) (fun τ ys H8 h => ?_) ?_ ?_
      · exact ⟨none, rfl, .nil, upd_same, same_new' hB _⟩
      · obtain ⟨v, rfl, ta, hB8, s8⟩ := h
        have a1 := ta.length
        have a2 := List.length_filter_le (fun b => decide (V.int (dot cs b) = V.int k)) ((goodP rs cs.length).take i)
        rw [List.length_take] at a2
        exact ⟨hB8, by omega⟩
      · obtain ⟨v, rfl, ta, hB8, s8⟩ := h
        exact ⟨ws, ws[i]'(by omega), (s67.trans s8).seq hg, List.getElem?_eq_getElem (by omega)⟩
      · obtain ⟨v, rfl, ta, hB8, s8⟩ := h
        exact ⟨ws, (s67.trans s8).seq hg, by omega⟩
      · rintro i τ ys H8 x H9 hi ⟨v, rfl, ta, hB8, s8⟩ ⟨rfl, e1⟩
        have s68 := s67.trans s8
        obtain ⟨b, ms, rfl, em, hb⟩ := tw.get (e1 _ (s68.seq hg))
        obtain ⟨lm, m01⟩ := good_mem (List.mem_of_getElem? em)
        refine ⟨_, rfl, _, rfl, c, b, cs, ms, rfl, s68.tup hc, s68.tup hb, by omega, m01, fun H10 s10 => ⟨_, rfl, rfl, _, rfl, ?_⟩⟩
        have hB10 := s10 _ _ hB8
        refine ite2 (fun y => ?_) (fun y => ?_)
        · refine ⟨_, rfl, hB10, _, rfl, ?_, upd_same, fun b' o e => ?_⟩
          · rw [takeS em, List.filter_append, filt_yes (f := fun b => decide (V.int (dot cs b) = V.int k)) y]
            exact ((ta.same s10).upd hB10).sn (SqT_upd hB10 ((s68.trans s10).tup hb))
          · rw [upd_ne (ne_of_none e hB)]; exact s10 _ _ (s8 _ _ e)
        · refine ⟨_, rfl, ?_, hB10, s8.trans s10⟩
          rw [takeS em, List.filter_append, filt_no (f := fun b => decide (V.int (dot cs b) = V.int k)) y, List.append_nil]
          exact ta.same s10
      rintro τ ys H8 ⟨v, rfl, ta, hB8, s8⟩
      rw [List.take_length] at ta
      have a68 := (a6.trans s7).trans s8
      refine ⟨_, rfl, T, _, _, _, rfl, rfl, a68.tup hT5, at0, k, rfl, _, rfl, iteF ⟨_, rfl, T, _, _, _, rfl, rfl, a68.tup hT5, at0, _, rfl, rfl, _, rfl, iteNS rfl ?_⟩⟩
      exact REST _ _ ⟨_, B, ys, rfl, sqL_new hB8, ta, a68⟩
  rintro σ' H6 ⟨u, dd, wd, rfl, hdd, twd, s6⟩
  have hF6 := s6 _ _ hF5
  refine ⟨_, rfl, T, _, _, _, rfl, rfl, s6.tup hT5, at1, _, rfl, F, dd, _, _, rfl, rfl, TupsAre.hasD (sqL_new hF6) (tw5.same s6), TupsAre.hasD hdd twd, alikeTups _ _, fun b4 hb4 => ⟨_, rfl, ?_⟩⟩
  rw [hb4.mpr rfl]
  refine iteF ⟨_, rfl, T, _, _, _, rfl, rfl, s6.tup hT5, at1, .inl ⟨rfl, _, sqL_new hF6⟩, by show 0 ≤ sizeLine; decide, fun p1 hp1 => ?_⟩
  have a7 := same_new' (H := H6) hp1 (.tup [])
  refine ⟨F, _, _, rfl, rfl, a7 _ _ hF6, by omega, ?_⟩
  have s8 : Same H (upd (upd H6 p1 (.tup [])) F (.lst (ws2 ++ [.ref p1]))) := fun b o e => by rw [upd_ne (ne_of_none e (fresh_back s1 hF))]; exact a7 _ _ (s6 _ _ (s5 _ _ e))
  generalize upd (upd H6 p1 (.tup [])) F (.lst (ws2 ++ [.ref p1])) = H8 at s8 ⊢
  refine ⟨_, rfl, _, rfl, h, t, _, _, rfl, rfl, (hpb.1.same s8).hasD, (pt.same s8).hasD, alikeProb rs rs cs cs, fun b5 hb5 => ?_⟩
  rw [hb5.mpr rfl]
  exact q H8 s8
end
end Nb
namespace Nb
open PySem L2
noncomputable abbrev sRow22 : Stmt := top 13
noncomputable abbrev sProblem : Stmt := top 14
noncomputable abbrev sCopy : Stmt := top 15
section
variable {P : Program} {w : World} {K : PySem.W.Frag} {mg : Str → Option Value} {base : Heap}
theorem scRow22 : FnScope ["_law_left_here", "_law_many", "_law_great", "_law_numbers", "_law_base", "_law_k"] ["_law_left_here", "_law_many", "_law_great"] (defScope sRow22) := ⟨rfl, rfl, rfl, by decide +kernel, rfl, by decide +kernel, by decide +kernel⟩
theorem okRow22 (F : Fn K mg "_law_row" sRow22) (M : Mg mg) : Cal P w K mg base 1 "_law_row" ["_law_left_here", "_law_many", "_law_great"] (spRow22 K) := by
  refine cal_of F scRow22 (fun _ _ _ _ _ _ => bind3 (fun _ _ _ => rfl)) (fun vs H Q E h => ?_) (fun f cdv A outer s H vs Q E hr h => ?_)
  · obtain ⟨x, many, g, rfl, _⟩ := h
    rfl
  obtain ⟨x, many, g, rfl, h0, h1, q⟩ := h
  refine ⟨_, (pss_cons (ps_set (i := 3) scRow22.nd rfl (Or.inl rfl) (pe_lst pa_nil))
    (pss_cons (ps_set (i := 4) scRow22.nd rfl (Or.inl rfl) (pe_ix ix_list (pe_lst (pa_cons pe_int (pa_cons (pe_op op_sub (pe_op op_mul pe_int (pe_op op_pow pe_int pe_int)) pe_int) pa_nil))) (pe_callTy call_int1 rfl M.int_ bt_int (pa_cons (pv 2) pa_nil)) (fun _ _ => rfl)))
    (pss_cons (ps_for PassesOwn.never rfl (pi_range1 rfl M.range_ (pa_cons (pv 1) pa_nil)) (pg_name (i := 5) scRow22.nd rfl (Or.inl rfl) (Or.inl rfl)) (pss_cons (ps_expr (pe_bm PySem.F.plainAttrs_list PySem.F.slot_list_append PySem.F.type_list_append mt_append (pv 3) (pa_cons (pe_op op_sub (pe_op op_mod (pv 0) (pv 4)) (pe_op op_fdiv (pv 4) pe_int)) pa_nil)))
    (pss_one (ps_set (i := 0) scRow22.nd rfl (Or.inl rfl) (pe_op op_fdivG (pv 0) (pv 4))))))
    (pss_cons (ps_set (i := 4) scRow22.nd rfl (Or.inl rfl) (pe_ix ix_list (pe_lst (pa_cons pe_int (pa_cons (pe_op op_sub (pe_op op_mul pe_int (pe_op op_pow pe_int pe_int)) pe_int) pa_nil))) (pe_callTy call_int1 rfl M.int_ bt_int (pa_cons (pv 2) pa_nil)) (fun _ _ => rfl)))
    (pss_one (ps_ret (pe_tup (pa_cons (pe_callTy call_tuple_of rfl M.tuple_ bt_tuple (pa_cons (pv 3) pa_nil)) (pa_cons (pe_op op_sub (pe_op op_mod (pv 0) (pv 4)) (pe_op op_fdiv (pv 4) pe_int)) pa_nil))))))))), ?_⟩
  refine seq_let5 ?_
  intro rT5 rT4 rT3 rT2
  have hz : (1000 : Nat) < sizeLine := by decide
  refine ⟨by show 0 ≤ sizeLine; decide, fun g0 hg0 => ?_⟩
  obtain ⟨b, hb, b0, b1⟩ := baseAt 9 (by decide) (by decide) g
  obtain ⟨b', hb', b0', b1'⟩ := baseAt 15 (by decide) (by decide) g
  have hd := bigB b0 b1
  refine ⟨_, _, rfl, rfl, ⟨by decide, by decide, by decide⟩, _, _, rfl, rfl, .inl ⟨by decide, by decide⟩, _, _, rfl, rfl, by show 2 ≤ sizeLine; decide, fun p hp => ?_⟩
  have s1 : Same H (upd (upd H g0 (.lst [])) p (.lst [V.int 9, V.int (2 * (10 : Int) ^ (18 : Int).toNat - 1)])) := (same_new' hg0 _).trans (same_new' hp _)
  refine ⟨_, rfl, .inr ⟨g, rfl, ?_⟩⟩
  refine ⟨p, _, _, _, rfl, rfl, sqL_new upd_same, hb, ?_⟩
  refine ⟨_, rfl, many, rfl, by omega, by omega, for_range (lo := 0) (n := many.toNat) (fun i σ H1 => ∃ (y : Int) (ms : List Int) (u : Option V), σ = [some (.int y), some (.int many), some (.bl g), some (.ref g0), some (.int b), u] ∧ ms.length = i ∧ H1 g0 = some (.lst (ms.map V.int)) ∧ ∀ c o, H c = some o → H1 c = some o)
    ⟨x, [], none, rfl, rfl, by rw [upd_ne (ne_of_none upd_same hp)]; exact upd_same, s1⟩ ?_ ?_⟩
  · rintro i σ H1 hi ⟨y, ms, u, rfl, rfl, hg, s2⟩
    refine ⟨_, rfl, .inl ⟨rfl, _, sqL_new hg⟩, _, rfl, _, rfl, _, _, rfl, rfl, b0, _, rfl, _, _, rfl, rfl, ⟨by decide, by decide⟩, _, _, rfl, rfl, g0, _, _, rfl, rfl, hg, by rw [List.length_map]; omega, ?_⟩
    refine ⟨_, rfl, _, rfl, _, _, rfl, rfl, hd, _, ms ++ [y % b - b / 2], _, rfl, by rw [List.length_append]; rfl, by rw [upd_same, List.map_append]; rfl, fun c o e => ?_⟩
    rw [upd_ne (ne_of_none e hg0)]
    exact s2 c o e
  · rintro σ H1 ⟨y, ms, u, rfl, hl, hg, s2⟩
    refine ⟨_, _, rfl, rfl, ⟨by decide, by decide, by decide⟩, _, _, rfl, rfl, .inl ⟨by decide, by decide⟩, _, _, rfl, rfl, by show 2 ≤ sizeLine; decide, fun p2 hp2 => ?_⟩
    have s3 := (show Same H H1 from s2).trans (same_new' hp2 (.lst [V.int 15, V.int (2 * (10 : Int) ^ (18 : Int).toNat - 1)]))
    refine ⟨_, rfl, .inr ⟨g, rfl, ?_⟩⟩
    refine ⟨p2, _, _, _, rfl, rfl, sqL_new upd_same, hb', ?_⟩
    refine ⟨_, rfl, g0, _, rfl, .inl ⟨sqL_new (by rw [upd_ne (ne_of_none hg hp2)]; exact hg), fun l2 hl2 => ?_⟩⟩
    refine ⟨_, rfl, _, rfl, _, _, rfl, rfl, b0', _, rfl, _, _, rfl, rfl, ⟨by decide, by decide⟩, _, _, rfl, rfl, by show 2 ≤ sizeLine; decide, fun t ht => ?_⟩
    have nt : l2 ≠ t := ne_of_none upd_same ht
    exact q t (ms, _) _ ((s3.trans (same_new' hl2 _)).trans (same_new' ht _)) ⟨l2, sqT_new upd_same, sqT_new (by rw [upd_ne nt]; exact upd_same)⟩ (by show (ms.length : Int) = many; omega)
theorem scProblem : FnScope ["_law_script", "_law_many", "_law_count", "_law_great", "_law_rows"] ["_law_script", "_law_many", "_law_count"] (defScope sProblem) := ⟨rfl, rfl, rfl, by decide +kernel, rfl, by decide +kernel, by decide +kernel⟩
theorem okProblem (F : Fn K mg "_law_problem" sProblem) (M : Mg mg) (cl_cell_at : Cal P w K mg base 1 "_law_cell_at" ["_law_script", "_law_k"] (spCell K)) (cl_row : Cal P w K mg base 1 "_law_row" ["_law_left_here", "_law_many", "_law_great"] (spRow22 K)) (cl_left : Cal P w K mg base 2 "_law_left" ["_law_script", "_law_k", "_law_count"] (spLeft K)) : Cal P w K mg base 3 "_law_problem" ["_law_script", "_law_many", "_law_count"] (spProblem22 K) := by
  refine cal_of F scProblem (fun _ _ _ _ _ _ => bind3 (fun _ _ _ => rfl)) (fun vs H Q E h => ?_) (fun f cdv A outer s H vs Q E hr h => ?_)
  · obtain ⟨a, ns, many, count, rfl, _⟩ := h
    rfl
  obtain ⟨a, ns, many, count, rfl, hS, h2, h3, h4, h5, q⟩ := h
  have hu : (A.deeper (PyProof.Rows.envOfC "_law_problem" (defScope sProblem) s.heap.objs.size f cdv)).units + 1 < cLine := Nat.lt_of_le_of_lt (Nat.add_le_add_left (by decide) _) hr.un
  refine ⟨_, (pss_cons (ps_set (i := 3) scProblem.nd rfl (Or.inr rfl) (pe_cmpR op_eq (pe_op op_mod (pe_op op_fdiv (pe_fn cl_cell_at (hr.mono (by decide)) (pa_cons (pv 0) (pa_cons pe_int pa_nil))) pe_int) pe_int) pe_int (nomark _)))
    (pss_cons (ps_setC (i := 4) ["_law_k", "_law_script", "_law_many", "_law_count", "_law_great"] [none, some 0, some 1, some 2, some 3] rfl scProblem.nd rfl (Or.inl rfl) (pi_range1 rfl M.range_ (pa_cons (pv 2) pa_nil)) (fun _ _ _ => (pg_name (i := 0) (show (["_law_k", "_law_script", "_law_many", "_law_count", "_law_great"] : List Str).Nodup by decide +kernel) rfl (Or.inl rfl) (Or.inr rfl))) (fun _ _ _ => pf_nil) (fun _ _ _ => (pe_fn cl_row (hr.mono (by decide)) (pa_cons (pe_fn cl_left (hr.mono (by decide)) (pa_cons (pv 1) (pa_cons (pe_op op_add pe_int (pv 0)) (pa_cons (pe_op op_add (pv 3) pe_int) pa_nil)))) (pa_cons (pv 2) (pa_cons (pv 4) pa_nil))))))
    (pss_one (ps_ret (pe_tup (pa_cons (pv 4) (pa_cons (pe_ix ix_tup (pe_fn cl_row (hr.mono (by decide)) (pa_cons (pe_fn cl_left (hr.mono (by decide)) (pa_cons (pv 0) (pa_cons pe_int (pa_cons (pe_op op_add (pv 2) pe_int) pa_nil)))) (pa_cons (pv 1) (pa_cons (pv 3) pa_nil)))) pe_int (fun _ _ => rfl)) pa_nil))))))), ?_⟩
  refine seq_let3 ?_
  intro rT3 rT2
  have hz : (1000 : Nat) < sizeLine := by decide
  refine ⟨_, rfl, a, ns, 0, rfl, hS, by decide, fun z => ⟨_, _, rfl, rfl, ⟨by decide, by decide⟩, _, _, rfl, rfl, (by show (0 : Int) < _; decide +kernel), rfl, ?_⟩⟩
  refine ⟨_, rfl, count, rfl, by omega, by omega, fun D hD => ?_⟩
  refine lc_any (n := count.toNat) (fun i τ ys H1 => ∃ (rs : List (List Int × Int)) (v : Option V), τ = [v, some (.ref a), some (.int many), some (.int count), some (.bl (decide (V.int (z / 64 % 8) = V.int 1)))] ∧ RowsAre K H1 ys rs ∧ (∀ r ∈ rs, (r.1.length : Int) = many) ∧ rs.length = i ∧ H1 D = some (.lst ys) ∧ Same H H1)
    ?_ (fun i τ ys H1 hi h => ?_) (fun i τ ys H1 hi h => hi) (fun τ ys H1 h => Nat.le_refl _) ?_ ?_
  · exact ⟨[], none, rfl, .nil, (fun r hr => nomatch hr), rfl, upd_same, same_new' hD _⟩
  · obtain ⟨rs, v, rfl, hr', hm, rfl, hD1, s1⟩ := h
    exact ⟨hD1, by rw [hr'.length]; omega⟩
  · rintro i τ ys H1 x H2 hi ⟨rs, v, rfl, hr', hm, rfl, hD1, s1⟩ ⟨rfl, rfl⟩
    refine ⟨_, rfl, _, rfl, _, _, rfl, rfl, _, rfl, _, _, rfl, rfl, a, ns, _, _, rfl, s1.seq hS, by omega, by omega, by omega, by omega, fun y => ?_⟩
    refine ⟨_, rfl, _, rfl, y, many, decide (V.int (z / 64 % 8) = V.int 1), rfl, h2, by omega, fun t r H3 s3 rt hl => ⟨s3 _ _ hD1, rs ++ [r], _, rfl, ?_, ?_, by rw [List.length_append]; rfl, upd_same, fun b o e => ?_⟩⟩
    · exact RowsAre.snoc (hr'.imp fun _ _ z => (z.same s3).upd (s3 _ _ hD1)) (rt.upd (s3 _ _ hD1))
    · intro r' hr2
      rcases List.mem_append.mp hr2 with z | z
      · exact hm r' z
      · rw [List.mem_singleton.mp z]; exact hl
    · rw [upd_ne (ne_of_none e hD)]
      exact s3 _ _ (s1 b o e)
  · rintro τ ys H1 ⟨rs, v, rfl, hr', hm, hl, hD1, s1⟩
    refine ⟨_, rfl, _, rfl, _, rfl, _, _, rfl, rfl, a, ns, _, _, rfl, s1.seq hS, by decide, by decide, by omega, by omega, fun y => ?_⟩
    refine ⟨_, rfl, _, rfl, y, many, decide (V.int (z / 64 % 8) = V.int 1), rfl, h2, by omega, fun t r H3 s3 rt hl' => ?_⟩
    obtain ⟨p, rt1, rt2⟩ := rt
    refine ⟨t, _, _, _, rfl, rfl, rt1, at0, by show 2 ≤ sizeLine; decide, fun u hu' => ?_⟩
    have s4 : Same H3 (upd H3 u (.tup [.ref D, .ref p])) := same_new' hu' _
    exact q u rs r.1 _ (s1.trans (s3.trans s4)) ⟨D, p, ys, sqT_new upd_same, s4.seq (sqL_new (s3 _ _ hD1)), hr'.imp fun _ _ z => (z.same s3).same s4, s4.tup rt2⟩ hm hl' (by omega)
theorem scCopy : FnScope ["_law_problem_here"] ["_law_problem_here"] (defScope sCopy) := ⟨rfl, rfl, rfl, by decide +kernel, rfl, by decide +kernel, by decide +kernel⟩
theorem okCopy (F : Fn K mg "_law_copy" sCopy) (M : Mg mg) : Cal P w K mg base 1 "_law_copy" ["_law_problem_here"] (spCopy K) := by
  refine cal_of F scCopy (fun _ _ _ _ _ _ => bind1 (fun _ => rfl)) (fun vs H Q E h => ?_) (fun f cdv A outer s H vs Q E hr h => ?_)
  · obtain ⟨t, rs, cs, rfl, _⟩ := h
    rfl
  obtain ⟨t, rs, cs, rfl, ⟨l, c, vs, ht, hl, hrw, hc⟩, hn, q⟩ := h
  refine ⟨_, (pss_one (ps_ret (pe_tup (pa_cons (pe_lc ["_law_row_here"] [none] rfl (pi_list (pe_ix ix_tup (pv 0) pe_int (fun _ _ => rfl))) (fun _ _ _ => (pg_name (i := 0) (show (["_law_row_here"] : List Str).Nodup by decide +kernel) rfl (Or.inl rfl) (Or.inr rfl))) (fun _ _ _ => pf_nil) (fun _ _ _ => (pe_tup (pa_cons (pe_callTy (call_tuple_ofK (K := K) rfl) rfl M.tuple_ bt_tuple (pa_cons (pe_callTy (call_list_ofK (K := K) rfl) rfl M.list_ bt_list (pa_cons (pe_ix (ix_tupK (K := K) rfl) (pv 0) pe_int (fun _ _ => rfl)) pa_nil)) pa_nil)) (pa_cons (pe_ix (ix_tupK (K := K) rfl) (pv 0) pe_int (fun _ _ => rfl)) pa_nil))))) (pa_cons (pe_callTy call_tuple_of rfl M.tuple_ bt_tuple (pa_cons (pe_callTy call_list_of rfl M.list_ bt_list (pa_cons (pe_ix ix_tup (pv 0) pe_int (fun _ _ => rfl)) pa_nil)) pa_nil)) pa_nil))))), ?_⟩
  have hz : (1000 : Nat) < sizeLine := by decide
  have lv := hrw.length
  refine ⟨_, rfl, t, _, _, _, rfl, rfl, ht, at0, l, rfl, ⟨_, hl⟩, fun D hD => ?_⟩
  refine lc_any (n := rs.length) (fun i τ ys H1 => ∃ v : Option V, τ = [v] ∧ RowsAre K H1 ys (rs.take i) ∧ H1 D = some (.lst ys) ∧ Same H H1) ?_ (fun i τ ys H1 hi h => ?_) (fun i τ ys H1 hi h => ?_) (fun τ ys H1 h => ?_) ?_ ?_
  · exact ⟨none, rfl, .nil, upd_same, same_new' hD _⟩
  · obtain ⟨v, rfl, hr1, hD1, s1⟩ := h
    exact ⟨hD1, by rw [hr1.length, List.length_take]; omega⟩
  · obtain ⟨v, rfl, hr1, hD1, s1⟩ := h
    exact ⟨vs, vs[i]'(by omega), s1.seq hl, List.getElem?_eq_getElem (by omega)⟩
  · obtain ⟨v, rfl, hr1, hD1, s1⟩ := h
    exact ⟨vs, s1.seq hl, by omega⟩
  · rintro i τ ys H1 x H2 hi ⟨v, rfl, hr1, hD1, s1⟩ ⟨rfl, e1⟩
    obtain ⟨t', r, rfl, er, p, rt1, rt2⟩ := hrw.get (e1 _ (s1.seq hl))
    refine ⟨_, rfl, t', _, _, _, rfl, rfl, s1.tup rt1, at0, p, _, rfl, .inr (s1.tup rt2), fun l2 hl2 => ?_⟩
    refine ⟨l2, _, rfl, .inl ⟨sqL_new upd_same, fun l3 hl3 => ?_⟩⟩
    have s2 : Same H2 (upd (upd H2 l2 (.lst (r.1.map V.int))) l3 (.tup (r.1.map V.int))) := (same_new' hl2 _).trans (same_new' hl3 _)
    refine ⟨_, rfl, t', _, _, _, rfl, rfl, (s1.trans s2).tup rt1, at1, by show 2 ≤ sizeLine; decide, fun t2 ht2 => ?_⟩
    have s3 := s2.trans (same_new' ht2 (.tup [.ref l3, .int r.2]))
    have n3 : l3 ≠ t2 := ne_of_none upd_same ht2
    refine ⟨s3 _ _ hD1, _, rfl, ?_, upd_same, fun b o e => ?_⟩
    · rw [takeS er]
      exact RowsAre.snoc (hr1.imp fun _ _ z => (z.same s3).upd (s3 _ _ hD1)) (RowAt.upd (s3 _ _ hD1) ⟨l3, sqT_new upd_same, sqT_new (by rw [upd_ne n3]; exact upd_same)⟩)
    · rw [upd_ne (ne_of_none e hD)]; exact s3 _ _ (s1 _ _ e)
  · rintro τ ys H1 ⟨v, rfl, hr1, hD1, s1⟩
    rw [List.take_length] at hr1
    refine ⟨_, rfl, t, _, _, _, rfl, rfl, s1.tup ht, at1, c, _, rfl, .inr (s1.tup hc), fun l2 hl2 => ?_⟩
    refine ⟨l2, _, rfl, .inl ⟨sqL_new upd_same, fun l3 hl3 => ?_⟩⟩
    have s2 : Same H1 (upd (upd H1 l2 (.lst (cs.map V.int))) l3 (.tup (cs.map V.int))) := (same_new' hl2 _).trans (same_new' hl3 _)
    refine ⟨by show 2 ≤ sizeLine; decide, fun t2 ht2 => ?_⟩
    have s3 := s2.trans (same_new' ht2 (.tup [.ref D, .ref l3]))
    have n3 : l3 ≠ t2 := ne_of_none upd_same ht2
    exact q t2 _ (s1.trans s3) ⟨D, l3, ys, sqT_new upd_same, s3.seq (sqL_new hD1), hr1.imp fun _ _ z => z.same s3, sqT_new (by rw [upd_ne n3]; exact upd_same)⟩
end
end Nb
namespace Nb
open PySem L2
noncomputable abbrev sLaw : Stmt := top 20
section
variable {P : Program} {w : World} {K : PySem.W.Frag} {mg : Str → Option Value} {base : Heap}
theorem scLaw : FnScope ["_law_script", "_law_cell", "_law_many", "_law_problem_here", "_law_rows", "_law_handed", "_law_good", "_law_turn"] ["_law_script"] (defScope sLaw) := ⟨rfl, rfl, rfl, by decide +kernel, rfl, by decide +kernel, by decide +kernel⟩
theorem okLaw {f : Addr} {fd : FuncData} (F : Fun K "law" "law" sLaw f fd) (M : Mg mg) (cl_cell_at : Cal P w K mg base 1 "_law_cell_at" ["_law_script", "_law_k"] (spCell K)) (cl_problem : Cal P w K mg base 3 "_law_problem" ["_law_script", "_law_many", "_law_count"] (spProblem22 K)) (cl_copy : Cal P w K mg base 1 "_law_copy" ["_law_problem_here"] (spCopy K)) (cl_points : Cal P w K mg base 1 "_law_points" ["_law_many"] (spPoints25 K)) (cl_at : Cal P w K mg base 1 "_law_at" ["_law_numbers", "_law_some"] (spWeighed K)) (cl_right : Cal P w K mg base 4 "_law_right" ["_law_handed", "_law_problem_here", "_law_good"] (spRight K)) : FnOk P w K mg base CX0 5 f fd ["_law_script"] (spLaw K) := by
  refine F.ok scLaw (fun vs H Q E h => ?_) (fun cdv A outer s H vs Q E hr h => ?_)
  · obtain ⟨a, ns, rfl, _⟩ := h
    rfl
  obtain ⟨a, ns, rfl, hS, h63, q⟩ := h
  refine ⟨_, (pss_cons (ps_set (i := 1) scLaw.nd rfl (Or.inl rfl) (pe_fn cl_cell_at (hr.mono (by decide)) (pa_cons (pv 0) (pa_cons pe_int pa_nil))))
    (pss_cons (ps_set (i := 2) scLaw.nd rfl (Or.inl rfl) (pe_op op_mod (pv 1) pe_int))
    (pss_cons (ps_if (pt_cmpR op_eq (pe_op op_mod (pe_op op_fdiv (pv 1) pe_int) pe_int) pe_int (nomark _)) (pss_one (ps_set (i := 2) scLaw.nd rfl (Or.inl rfl) (pe_op op_add pe_int (pe_op op_mod (pv 1) pe_int)))) pss_nil)
    (pss_cons (ps_set (i := 3) scLaw.nd rfl (Or.inl rfl) (pe_fn cl_problem (hr.mono (by decide)) (pa_cons (pv 0) (pa_cons (pv 2) (pa_cons (pe_op op_mod (pe_op op_fdiv (pv 1) pe_int) pe_int) pa_nil)))))
    (pss_cons (ps_set (i := 4) scLaw.nd rfl (Or.inr rfl) (pe_ix ix_tup (pv 3) pe_int (fun _ _ => rfl)))
    (pss_cons (ps_set (i := 5) scLaw.nd rfl (Or.inl rfl) (pe_fn cl_copy (hr.mono (by decide)) (pa_cons (pv 3) pa_nil)))
    (pss_cons (ps_setCC (i := 6) ["_law_point", "_law_rows"] [none, some 4] rfl scLaw.nd rfl (Or.inl rfl) (pi_list (pe_fn cl_points (hr.mono (by decide)) (pa_cons (pv 2) pa_nil))) (fun _ _ _ => (pg_name (i := 0) (show (["_law_point", "_law_rows"] : List Str).Nodup by decide +kernel) rfl (Or.inr rfl) (Or.inl rfl))) (fun _ _ _ => (pf_one (pt_val (pe_callB (call_allBK (K := K) rfl rfl) rfl M.all bt_all (pa_cons (pe_lc ["_law_row_here", "_law_point"] [none, some 0] rfl (pi_listK (K := K) rfl (pv 1)) (fun _ _ _ => (pg_name (i := 0) (show (["_law_row_here", "_law_point"] : List Str).Nodup by decide +kernel) rfl (Or.inl rfl) (Or.inr rfl))) (fun _ _ _ => pf_nil) (fun _ _ _ => (pe_cmpR op_ge (pe_fn cl_at (hr.mono (by decide)) (pa_cons (pe_ix (ix_tupK (K := K) rfl) (pv 0) pe_int (fun _ _ => rfl)) (pa_cons (pv 1) pa_nil))) (pe_ix (ix_tupK (K := K) rfl) (pv 0) pe_int (fun _ _ => rfl)) (nomark _)))) pa_nil))))) (fun _ _ _ => (pv 0)))
    (pss_cons (ps_for PassesOwn.never rfl (pi_range1 rfl M.range_ (pa_cons (pe_op op_add pe_int (pe_callTy call_int1 rfl M.int_ bt_int (pa_cons (pe_cmpR op_lt (pv 2) pe_int (nomark _)) pa_nil))) pa_nil)) (pg_name (i := 7) scLaw.nd rfl (Or.inl rfl) (Or.inl rfl)) (pss_one (ps_if (pt_not (pt_val (pe_fn cl_right (hr.mono (by decide)) (pa_cons (pv 5) (pa_cons (pv 3) (pa_cons (pv 6) pa_nil)))))) (pss_one (ps_ret pe_bl)) pss_nil)))
    (pss_one (ps_ret pe_bl)))))))))), ?_⟩
  have hz : (100000 : Nat) < sizeLine := by decide
  refine ⟨_, rfl, a, ns, 0, rfl, hS, by decide, fun z => ⟨_, rfl, _, _, rfl, rfl, (by show (0 : Int) < _; decide +kernel), ?_⟩⟩
  refine name_cut (fun σ' H' => ∃ n : Int, σ' = [some (.ref a), some (.int z), some (.int n), none, none, none, none, none] ∧ 0 ≤ n ∧ n ≤ 12 ∧ H' = H) ?_ fun REST => ?_
  rotate_left
  · refine ⟨_, rfl, _, _, rfl, rfl, ⟨by decide, by decide⟩, _, _, rfl, rfl, (by show (0 : Int) < _; decide +kernel), rfl, _, rfl, ite2 (fun _ => ?_) (fun _ => REST _ _ ⟨_, rfl, by omega, by omega, rfl⟩)⟩
    exact ⟨_, rfl, _, _, rfl, rfl, (by show (0 : Int) < _; decide +kernel), _, _, rfl, rfl, REST _ _ ⟨_, rfl, by omega, by omega, rfl⟩⟩
  rintro σ' H' ⟨n, rfl, n0, n12, rfl⟩
  refine ⟨_, rfl, _, rfl, _, rfl, _, _, rfl, rfl, ⟨by decide, by decide⟩, _, _, rfl, rfl, (by show (0 : Int) < _; decide +kernel), a, ns, n, _, rfl, hS, n0, by omega, by omega, by omega, fun t rs cs H1 s1 pt hr1 hcl hrl => ?_⟩
  obtain ⟨l, c, vs, ht, hl, hrw, hc⟩ := id pt
  have lv := hrw.length
  have eN : n.toNat = cs.length := by omega
  have tpb : PB K H1 t rs cs := ⟨pt, by omega, by omega, fun r hr' => by have := hr1 r hr'; omega⟩
  refine ⟨_, rfl, t, _, _, _, rfl, rfl, ht, at0, ?_⟩
  refine ⟨_, rfl, t, rs, cs, rfl, pt, by omega, fun t2 H2 s2 pt2 => ?_⟩
  refine ⟨_, rfl, n, rfl, n0, n12, fun g ws H3 s3 hg tw => ?_⟩
  rw [eN] at tw
  have lw := tw.length
  have l4 : (ptsI cs.length).length ≤ 4096 := ptsI_small (by omega)
  have s23 := s2.trans s3
  refine ⟨g, rfl, ⟨_, sqL_new hg⟩, fun D hD => ?_⟩
  refine lc_any (n := (ptsI cs.length).length) (fun i τ ys H4 => ∃ v : Option V, τ = [v, some (.ref l)] ∧ TupsAre K H4 ys (((ptsI cs.length).take i).filter fun b => rs.all (keepB b)) ∧ H4 D = some (.lst ys) ∧ Same H3 H4) ?_ (fun i τ ys H4 hi h => ?_) (fun i τ ys H4 hi h => ?_) (fun τ ys H4 h => ?_) ?_ ?_
  · exact ⟨none, rfl, .nil, upd_same, same_new' hD _⟩
  · obtain ⟨v, rfl, ta, hD4, s4⟩ := h
    have a1 := ta.length
    have a2 := List.length_filter_le (fun b => rs.all (keepB b)) ((ptsI cs.length).take i)
    rw [List.length_take] at a2
    exact ⟨hD4, by omega⟩
  · obtain ⟨v, rfl, ta, hD4, s4⟩ := h
    exact ⟨ws, ws[i]'(by omega), s4.seq (sqL_new hg), List.getElem?_eq_getElem (by omega)⟩
  · obtain ⟨v, rfl, ta, hD4, s4⟩ := h
    exact ⟨ws, s4.seq (sqL_new hg), by omega⟩
  · rintro i τ ys H4 x H5 hi ⟨v, rfl, ta, hD4, s4⟩ ⟨rfl, e1⟩
    obtain ⟨pb, pt0, rfl, em, hpb⟩ := tw.get (e1 _ (s4.seq (sqL_new hg)))
    obtain ⟨lm, m01⟩ := ptsI_of (List.mem_of_getElem? em)
    have s24 := s23.trans s4
    refine ⟨_, rfl, l, rfl, ⟨_, s24.seq hl⟩, fun D2 hD2 => ?_⟩
    refine lc_any (n := rs.length) (fun i τ ys H6 => ∃ v : Option V, τ = [v, some (.ref pb)] ∧ ys = ((rs.take i).map (keepB pt0)).map V.bl ∧ H6 D2 = some (.lst ys) ∧ Same H5 H6) ?_ (fun i τ ys H6 hi h => ?_) (fun i τ ys H6 hi h => ?_) (fun τ ys H6 h => ?_) ?_ ?_
    · exact ⟨none, rfl, rfl, upd_same, same_new' hD2 _⟩
    · obtain ⟨v, rfl, rfl, hD6, s6⟩ := h
      exact ⟨hD6, by rw [List.length_map, List.length_map, List.length_take]; omega⟩
    · obtain ⟨v, rfl, rfl, hD6, s6⟩ := h
      exact ⟨vs, vs[i]'(by omega), (s24.trans s6).seq hl, List.getElem?_eq_getElem (by omega)⟩
    · obtain ⟨v, rfl, rfl, hD6, s6⟩ := h
      exact ⟨vs, (s24.trans s6).seq hl, by omega⟩
    · rintro i τ ys H6 x H7 hi ⟨v, rfl, rfl, hD6, s6⟩ ⟨rfl, e2⟩
      have s26 := s24.trans s6
      obtain ⟨t', r, rfl, er, p, hq1, hq2⟩ := hrw.get (e2 _ (s26.seq hl))
      have lr := hr1 r (List.mem_of_getElem? er)
      refine ⟨_, rfl, t', _, _, _, rfl, rfl, s26.tup hq1, at0, _, rfl, p, pb, r.1, pt0, rfl, s26.tup hq2, (s4.trans s6).tup hpb, by omega, m01, fun H8 s8 => ⟨_, rfl, t', _, _, _, rfl, rfl, (s26.trans s8).tup hq1, at1, _, _, rfl, rfl, s8 _ _ hD6, _, rfl, ?_, upd_same, fun b' o e => ?_⟩⟩
      · rw [takeS er, List.map_append, List.map_append]; rfl
      · rw [upd_ne (ne_of_none e hD2)]; exact s8 _ _ (s6 _ _ e)
    rintro τ zs H6 ⟨v, rfl, rfl, hD6, s6⟩
    rw [List.take_length] at hD6
    have hDD := s6 _ _ hD4
    have ea : ((rs.map (keepB pt0)).all id) = rs.all (keepB pt0) := by rw [List.all_map]; rfl
    refine ⟨D2, _, rfl, sqL_new hD6, _, rfl, ?_⟩
    rw [ea]
    refine ite2 (fun y => ?_) (fun y => ?_)
    · refine ⟨_, rfl, hDD, _, rfl, ?_, upd_same, fun b' o e => ?_⟩
      · rw [takeS em, List.filter_append, filt_yes (f := fun b => rs.all (keepB b)) y]
        exact ((ta.same s6).upd hDD).sn (SqT_upd hDD ((s4.trans s6).tup hpb))
      · rw [upd_ne (ne_of_none e hD)]; exact s6 _ _ (s4 _ _ e)
    · refine ⟨_, rfl, ?_, hDD, s4.trans s6⟩
      rw [takeS em, List.filter_append, filt_no (f := fun b => rs.all (keepB b)) y, List.append_nil]
      exact ta.same s6
  rintro τ ys H4 ⟨v, rfl, ta, hD4, s4⟩
  rw [List.take_length] at ta
  have s34 := s3.trans s4
  have hpb : PB K H4 t2 rs cs := ⟨pt2.same s34, tpb.2.1, tpb.2.2.1, tpb.2.2.2⟩
  have tp4 := tpb.same (s23.trans s4)
  refine ⟨_, rfl, _, _, rfl, rfl, .inr ⟨_, rfl, _, _, rfl, rfl, _, rfl, by split <;> omega, by split <;> omega, for_range (lo := 0) (n := _) (fun i σ H5 => ∃ u : Option V, σ = [some (.ref a), some (.int z), some (.int n), some (.ref t), some (.ref l), some (.ref t2), some (.ref D), u] ∧ Same H4 H5) ⟨none, rfl, Same.refl _⟩ ?_ ?_⟩⟩
  · rintro i σ H5 hi ⟨u, rfl, s5⟩
    exact ⟨_, rfl, _, rfl, _, rfl, t2, t, D, rs, cs, ys, rfl, hpb.same s5, tp4.same s5, s5.seq (sqL_new hD4), ta.same s5, fun H6 s6 => ⟨_, rfl, iteF ⟨_, rfl, s5.trans s6⟩⟩⟩
  · rintro σ H5 ⟨u, rfl, s5⟩
    exact q _
end
end Nb
namespace Nb
open PySem L2
noncomputable def htop (i : Nat) : Stmt := PySem.Challenge.pw_nonebetter_k33_all_points_told.main.body.getD i (.Pass ⟨0, 0, 0, 0⟩)
noncomputable def hob0 (i : Nat) (P : PySem.Params) : PySem.Obj :=
  bif Nat.beq i 2 then PySem.Obj.mk PySem.Value.none Option.none (PySem.Data.dict #[]) #[] else
  bif Nat.beq i 3 then PySem.Obj.mk (PySem.Value.type "dict") Option.none (PySem.Data.dict #[PySem.DictEntry.mk (PySem.PyData.keyHash P (PySem.Str.ofString "__name__")) (PySem.Value.str (PySem.Str.ofString "__name__") 165) (PySem.Value.str (PySem.Str.ofString "law_nonebetter_k33_all_points_told") 236), PySem.DictEntry.mk (PySem.PyData.keyHash P (PySem.Str.ofString "__doc__")) (PySem.Value.str (PySem.Str.ofString "__doc__") 166) PySem.Value.none, PySem.DictEntry.mk (PySem.PyData.keyHash P (PySem.Str.ofString "__package__")) (PySem.Value.str (PySem.Str.ofString "__package__") 167) PySem.Value.none, PySem.DictEntry.mk (PySem.PyData.keyHash P (PySem.Str.ofString "__loader__")) (PySem.Value.str (PySem.Str.ofString "__loader__") 168) (PySem.Value.builtin "__main__.__loader__#opaque"), PySem.DictEntry.mk (PySem.PyData.keyHash P (PySem.Str.ofString "__spec__")) (PySem.Value.str (PySem.Str.ofString "__spec__") 169) PySem.Value.none, PySem.DictEntry.mk (PySem.PyData.keyHash P (PySem.Str.ofString "__annotations__")) (PySem.Value.str (PySem.Str.ofString "__annotations__") 170) (PySem.Value.ref 6), PySem.DictEntry.mk (PySem.PyData.keyHash P (PySem.Str.ofString "__builtins__")) (PySem.Value.str (PySem.Str.ofString "__builtins__") 171) (PySem.Value.ref 4), PySem.DictEntry.mk (PySem.PyData.keyHash P (PySem.Str.ofString "__file__")) (PySem.Value.str (PySem.Str.ofString "__file__") 173) (PySem.Value.str (PySem.Str.ofString "/claim/cut.py") 172), PySem.DictEntry.mk (PySem.PyData.keyHash P (PySem.Str.ofString "__cached__")) (PySem.Value.str (PySem.Str.ofString "__cached__") 174) PySem.Value.none, PySem.DictEntry.mk (PySem.PyData.keyHash P (PySem.Str.ofString "weighed")) (PySem.Value.str (PySem.Str.ofString "weighed") 194) (PySem.Value.ref 19), PySem.DictEntry.mk (PySem.PyData.keyHash P (PySem.Str.ofString "cost_of")) (PySem.Value.str (PySem.Str.ofString "cost_of") 202) (PySem.Value.ref 26), PySem.DictEntry.mk (PySem.PyData.keyHash P (PySem.Str.ofString "most_of")) (PySem.Value.str (PySem.Str.ofString "most_of") 215) (PySem.Value.ref 33), PySem.DictEntry.mk (PySem.PyData.keyHash P (PySem.Str.ofString "grown")) (PySem.Value.str (PySem.Str.ofString "grown") 223) (PySem.Value.ref 38), PySem.DictEntry.mk (PySem.PyData.keyHash P (PySem.Str.ofString "all_points")) (PySem.Value.str (PySem.Str.ofString "all_points") 229) (PySem.Value.ref 43), PySem.DictEntry.mk (PySem.PyData.keyHash P (PySem.Str.ofString "least_points")) (PySem.Value.str (PySem.Str.ofString "least_points") 235) (PySem.Value.ref 48), PySem.DictEntry.mk (PySem.PyData.keyHash P (PySem.Str.ofString "_law_whole")) (PySem.Value.str (PySem.Str.ofString "_law_whole") 244) (PySem.Value.ref 55), PySem.DictEntry.mk (PySem.PyData.keyHash P (PySem.Str.ofString "_law_cell_at")) (PySem.Value.str (PySem.Str.ofString "_law_cell_at") 252) (PySem.Value.ref 62), PySem.DictEntry.mk (PySem.PyData.keyHash P (PySem.Str.ofString "_law_mixed")) (PySem.Value.str (PySem.Str.ofString "_law_mixed") 261) (PySem.Value.ref 69), PySem.DictEntry.mk (PySem.PyData.keyHash P (PySem.Str.ofString "_law_left")) (PySem.Value.str (PySem.Str.ofString "_law_left") 273) (PySem.Value.ref 76), PySem.DictEntry.mk (PySem.PyData.keyHash P (PySem.Str.ofString "_law_row")) (PySem.Value.str (PySem.Str.ofString "_law_row") 285) (PySem.Value.ref 83), PySem.DictEntry.mk (PySem.PyData.keyHash P (PySem.Str.ofString "_law_problem")) (PySem.Value.str (PySem.Str.ofString "_law_problem") 291) (PySem.Value.ref 88), PySem.DictEntry.mk (PySem.PyData.keyHash P (PySem.Str.ofString "_law_copy")) (PySem.Value.str (PySem.Str.ofString "_law_copy") 297) (PySem.Value.ref 93), PySem.DictEntry.mk (PySem.PyData.keyHash P (PySem.Str.ofString "_law_at")) (PySem.Value.str (PySem.Str.ofString "_law_at") 303) (PySem.Value.ref 98), PySem.DictEntry.mk (PySem.PyData.keyHash P (PySem.Str.ofString "_law_points")) (PySem.Value.str (PySem.Str.ofString "_law_points") 314) (PySem.Value.ref 105), PySem.DictEntry.mk (PySem.PyData.keyHash P (PySem.Str.ofString "_law_are_points")) (PySem.Value.str (PySem.Str.ofString "_law_are_points") 320) (PySem.Value.ref 110), PySem.DictEntry.mk (PySem.PyData.keyHash P (PySem.Str.ofString "_law_right")) (PySem.Value.str (PySem.Str.ofString "_law_right") 326) (PySem.Value.ref 115), PySem.DictEntry.mk (PySem.PyData.keyHash P (PySem.Str.ofString "law")) (PySem.Value.str (PySem.Str.ofString "law") 332) (PySem.Value.ref 120)] 27) #[] else
  bif Nat.beq i 6 then PySem.Obj.mk (PySem.Value.type "dict") Option.none (PySem.Data.dict #[]) #[] else
  bif Nat.beq i 15 then PySem.Obj.mk (PySem.Value.type "tuple") Option.none (PySem.Data.seq #[]) #[] else
  PySem.Obj.mk (PySem.Value.type "code") Option.none (PySem.Data.fields #[PySem.Value.str (PySem.Str.ofString "weighed") 189, PySem.Value.str (PySem.Str.ofString "weighed") 190, PySem.Value.str (PySem.Str.ofString "/claim/cut.py") 191, PySem.Value.int 2 0, PySem.Value.int 2 0, PySem.Value.int 0 0, PySem.Value.int 0 0, PySem.Value.int 3 0, PySem.Value.ref 15, PySem.Value.bool Bool.true, PySem.Value.int 181 0, PySem.Value.ref 16, PySem.Value.none, PySem.Value.none, PySem.Value.none, PySem.Value.ref 17, PySem.Value.int 192 0, PySem.Value.int 2 0, PySem.Value.str (PySem.Str.ofString "/claim/cut.py") 193]) #[]
noncomputable def hob1 (i : Nat) (P : PySem.Params) : PySem.Obj :=
  bif Nat.beq i 19 then PySem.Obj.mk (PySem.Value.type "function") (Option.none) (PySem.Data.func (PySem.FuncData.mk (PySem.Str.ofString "weighed") (PySem.Str.ofString "weighed") (L2.defArgs (htop 1)) (PySem.FuncBody.stmts (L2.defBody (htop 1))) (L2.defScope (htop 1)) (3) ([]) (PySem.Value.none) (PySem.Value.none) (PySem.Value.none) (PySem.Value.str (PySem.Str.ofString "nonebetter.rows") 187) (Option.none) (PySem.Value.ref 18) (PySem.Value.none) (0))) (#[]) else
  bif Nat.beq i 20 then PySem.Obj.mk (PySem.Value.type "tuple") Option.none (PySem.Data.seq #[]) #[] else
  bif Nat.beq i 22 then PySem.Obj.mk (PySem.Value.type "tuple") Option.none (PySem.Data.seq #[PySem.Value.str (PySem.Str.ofString "problem") 198, PySem.Value.str (PySem.Str.ofString "point") 199]) #[] else
  bif Nat.beq i 23 then PySem.Obj.mk (PySem.Value.type "tuple") Option.none (PySem.Data.seq #[]) #[] else
  PySem.Obj.mk (PySem.Value.type "code") Option.none (PySem.Data.fields #[PySem.Value.str (PySem.Str.ofString "cost_of") 195, PySem.Value.str (PySem.Str.ofString "cost_of") 196, PySem.Value.str (PySem.Str.ofString "/claim/cut.py") 197, PySem.Value.int 4 0, PySem.Value.int 2 0, PySem.Value.int 0 0, PySem.Value.int 0 0, PySem.Value.int 3 0, PySem.Value.ref 20, PySem.Value.bool Bool.true, PySem.Value.int 181 0, PySem.Value.ref 21, PySem.Value.none, PySem.Value.ref 22, PySem.Value.ref 23, PySem.Value.ref 24, PySem.Value.int 200 0, PySem.Value.int 4 0, PySem.Value.str (PySem.Str.ofString "/claim/cut.py") 201]) #[]
noncomputable def hob2 (i : Nat) (P : PySem.Params) : PySem.Obj :=
  bif Nat.beq i 26 then PySem.Obj.mk (PySem.Value.type "function") (Option.none) (PySem.Data.func (PySem.FuncData.mk (PySem.Str.ofString "cost_of") (PySem.Str.ofString "cost_of") (L2.defArgs (htop 2)) (PySem.FuncBody.stmts (L2.defBody (htop 2))) (L2.defScope (htop 2)) (3) ([]) (PySem.Value.none) (PySem.Value.none) (PySem.Value.none) (PySem.Value.str (PySem.Str.ofString "nonebetter.rows") 187) (Option.none) (PySem.Value.ref 25) (PySem.Value.none) (0))) (#[]) else
  bif Nat.beq i 27 then PySem.Obj.mk (PySem.Value.type "tuple") Option.none (PySem.Data.seq #[]) #[] else
  bif Nat.beq i 29 then PySem.Obj.mk (PySem.Value.type "tuple") Option.none (PySem.Data.seq #[PySem.Value.str (PySem.Str.ofString "row") 206, PySem.Value.str (PySem.Str.ofString "holds") 207, PySem.Value.str (PySem.Str.ofString "held") 208, PySem.Value.str (PySem.Str.ofString "most") 209, PySem.Value.str (PySem.Str.ofString "choice") 210, PySem.Value.str (PySem.Str.ofString "number") 211, PySem.Value.str (PySem.Str.ofString "worth") 212]) #[] else
  bif Nat.beq i 30 then PySem.Obj.mk (PySem.Value.type "tuple") Option.none (PySem.Data.seq #[]) #[] else
  PySem.Obj.mk (PySem.Value.type "code") Option.none (PySem.Data.fields #[PySem.Value.str (PySem.Str.ofString "most_of") 203, PySem.Value.str (PySem.Str.ofString "most_of") 204, PySem.Value.str (PySem.Str.ofString "/claim/cut.py") 205, PySem.Value.int 6 0, PySem.Value.int 2 0, PySem.Value.int 0 0, PySem.Value.int 0 0, PySem.Value.int 3 0, PySem.Value.ref 27, PySem.Value.bool Bool.true, PySem.Value.int 181 0, PySem.Value.ref 28, PySem.Value.none, PySem.Value.ref 29, PySem.Value.ref 30, PySem.Value.ref 31, PySem.Value.int 213 0, PySem.Value.int 6 0, PySem.Value.str (PySem.Str.ofString "/claim/cut.py") 214]) #[]
noncomputable def hob3 (i : Nat) (P : PySem.Params) : PySem.Obj :=
  bif Nat.beq i 33 then PySem.Obj.mk (PySem.Value.type "function") (Option.none) (PySem.Data.func (PySem.FuncData.mk (PySem.Str.ofString "most_of") (PySem.Str.ofString "most_of") (L2.defArgs (htop 3)) (PySem.FuncBody.stmts (L2.defBody (htop 3))) (L2.defScope (htop 3)) (3) ([]) (PySem.Value.none) (PySem.Value.none) (PySem.Value.none) (PySem.Value.str (PySem.Str.ofString "nonebetter.rows") 187) (Option.none) (PySem.Value.ref 32) (PySem.Value.none) (0))) (#[]) else
  bif Nat.beq i 34 then PySem.Obj.mk (PySem.Value.type "tuple") Option.none (PySem.Data.seq #[]) #[] else
  bif Nat.beq i 37 then PySem.Obj.mk (PySem.Value.type "code") Option.none (PySem.Data.fields #[PySem.Value.str (PySem.Str.ofString "grown") 218, PySem.Value.str (PySem.Str.ofString "grown") 219, PySem.Value.str (PySem.Str.ofString "/claim/cut.py") 220, PySem.Value.int 15 0, PySem.Value.int 2 0, PySem.Value.int 0 0, PySem.Value.int 0 0, PySem.Value.int 3 0, PySem.Value.ref 34, PySem.Value.bool Bool.true, PySem.Value.int 181 0, PySem.Value.ref 35, PySem.Value.none, PySem.Value.none, PySem.Value.none, PySem.Value.ref 36, PySem.Value.int 221 0, PySem.Value.int 15 0, PySem.Value.str (PySem.Str.ofString "/claim/cut.py") 222]) #[] else
  bif Nat.beq i 38 then PySem.Obj.mk (PySem.Value.type "function") (Option.none) (PySem.Data.func (PySem.FuncData.mk (PySem.Str.ofString "grown") (PySem.Str.ofString "grown") (L2.defArgs (htop 5)) (PySem.FuncBody.stmts (L2.defBody (htop 5))) (L2.defScope (htop 5)) (3) ([]) (PySem.Value.none) (PySem.Value.none) (PySem.Value.none) (PySem.Value.str (PySem.Str.ofString "nonebetter.allpoints") 216) (Option.none) (PySem.Value.ref 37) (PySem.Value.none) (0))) (#[]) else
  PySem.Obj.mk (PySem.Value.type "tuple") Option.none (PySem.Data.seq #[]) #[]
noncomputable def hob4 (i : Nat) (P : PySem.Params) : PySem.Obj :=
  bif Nat.beq i 42 then PySem.Obj.mk (PySem.Value.type "code") Option.none (PySem.Data.fields #[PySem.Value.str (PySem.Str.ofString "all_points") 224, PySem.Value.str (PySem.Str.ofString "all_points") 225, PySem.Value.str (PySem.Str.ofString "/claim/cut.py") 226, PySem.Value.int 24 0, PySem.Value.int 1 0, PySem.Value.int 0 0, PySem.Value.int 0 0, PySem.Value.int 3 0, PySem.Value.ref 39, PySem.Value.bool Bool.true, PySem.Value.int 181 0, PySem.Value.ref 40, PySem.Value.none, PySem.Value.none, PySem.Value.none, PySem.Value.ref 41, PySem.Value.int 227 0, PySem.Value.int 24 0, PySem.Value.str (PySem.Str.ofString "/claim/cut.py") 228]) #[] else
  bif Nat.beq i 43 then PySem.Obj.mk (PySem.Value.type "function") (Option.none) (PySem.Data.func (PySem.FuncData.mk (PySem.Str.ofString "all_points") (PySem.Str.ofString "all_points") (L2.defArgs (htop 6)) (PySem.FuncBody.stmts (L2.defBody (htop 6))) (L2.defScope (htop 6)) (3) ([]) (PySem.Value.none) (PySem.Value.none) (PySem.Value.none) (PySem.Value.str (PySem.Str.ofString "nonebetter.allpoints") 216) (Option.none) (PySem.Value.ref 42) (PySem.Value.none) (0))) (#[]) else
  bif Nat.beq i 44 then PySem.Obj.mk (PySem.Value.type "tuple") Option.none (PySem.Data.seq #[]) #[] else
  bif Nat.beq i 47 then PySem.Obj.mk (PySem.Value.type "code") Option.none (PySem.Data.fields #[PySem.Value.str (PySem.Str.ofString "least_points") 230, PySem.Value.str (PySem.Str.ofString "least_points") 231, PySem.Value.str (PySem.Str.ofString "/claim/cut.py") 232, PySem.Value.int 31 0, PySem.Value.int 1 0, PySem.Value.int 0 0, PySem.Value.int 0 0, PySem.Value.int 3 0, PySem.Value.ref 44, PySem.Value.bool Bool.true, PySem.Value.int 181 0, PySem.Value.ref 45, PySem.Value.none, PySem.Value.none, PySem.Value.none, PySem.Value.ref 46, PySem.Value.int 233 0, PySem.Value.int 31 0, PySem.Value.str (PySem.Str.ofString "/claim/cut.py") 234]) #[] else
  PySem.Obj.mk (PySem.Value.type "function") (Option.none) (PySem.Data.func (PySem.FuncData.mk (PySem.Str.ofString "least_points") (PySem.Str.ofString "least_points") (L2.defArgs (htop 7)) (PySem.FuncBody.stmts (L2.defBody (htop 7))) (L2.defScope (htop 7)) (3) ([]) (PySem.Value.none) (PySem.Value.none) (PySem.Value.none) (PySem.Value.str (PySem.Str.ofString "nonebetter.allpoints") 216) (Option.none) (PySem.Value.ref 47) (PySem.Value.none) (0))) (#[])
noncomputable def hob5 (i : Nat) (P : PySem.Params) : PySem.Obj :=
  bif Nat.beq i 49 then PySem.Obj.mk (PySem.Value.type "tuple") Option.none (PySem.Data.seq #[]) #[] else
  bif Nat.beq i 51 then PySem.Obj.mk (PySem.Value.type "tuple") Option.none (PySem.Data.seq #[PySem.Value.str (PySem.Str.ofString "_law_found") 241]) #[] else
  bif Nat.beq i 52 then PySem.Obj.mk (PySem.Value.type "tuple") Option.none (PySem.Data.seq #[]) #[] else
  bif Nat.beq i 54 then PySem.Obj.mk (PySem.Value.type "code") Option.none (PySem.Data.fields #[PySem.Value.str (PySem.Str.ofString "_law_whole") 238, PySem.Value.str (PySem.Str.ofString "_law_whole") 239, PySem.Value.str (PySem.Str.ofString "/claim/cut.py") 240, PySem.Value.int 36 0, PySem.Value.int 1 0, PySem.Value.int 0 0, PySem.Value.int 0 0, PySem.Value.int 3 0, PySem.Value.ref 49, PySem.Value.bool Bool.true, PySem.Value.int 181 0, PySem.Value.ref 50, PySem.Value.none, PySem.Value.ref 51, PySem.Value.ref 52, PySem.Value.ref 53, PySem.Value.int 242 0, PySem.Value.int 36 0, PySem.Value.str (PySem.Str.ofString "/claim/cut.py") 243]) #[] else
  PySem.Obj.mk (PySem.Value.type "function") (Option.none) (PySem.Data.func (PySem.FuncData.mk (PySem.Str.ofString "_law_whole") (PySem.Str.ofString "_law_whole") (L2.defArgs (htop 9)) (PySem.FuncBody.stmts (L2.defBody (htop 9))) (L2.defScope (htop 9)) (3) ([]) (PySem.Value.none) (PySem.Value.none) (PySem.Value.none) (PySem.Value.str (PySem.Str.ofString "law_nonebetter_k33_all_points_told") 236) (Option.none) (PySem.Value.ref 54) (PySem.Value.none) (0))) (#[])
noncomputable def hob6 (i : Nat) (P : PySem.Params) : PySem.Obj :=
  bif Nat.beq i 56 then PySem.Obj.mk (PySem.Value.type "tuple") Option.none (PySem.Data.seq #[]) #[] else
  bif Nat.beq i 58 then PySem.Obj.mk (PySem.Value.type "tuple") Option.none (PySem.Data.seq #[PySem.Value.str (PySem.Str.ofString "_law_script") 248, PySem.Value.str (PySem.Str.ofString "_law_k") 249]) #[] else
  bif Nat.beq i 59 then PySem.Obj.mk (PySem.Value.type "tuple") Option.none (PySem.Data.seq #[]) #[] else
  bif Nat.beq i 61 then PySem.Obj.mk (PySem.Value.type "code") Option.none (PySem.Data.fields #[PySem.Value.str (PySem.Str.ofString "_law_cell_at") 245, PySem.Value.str (PySem.Str.ofString "_law_cell_at") 246, PySem.Value.str (PySem.Str.ofString "/claim/cut.py") 247, PySem.Value.int 38 0, PySem.Value.int 2 0, PySem.Value.int 0 0, PySem.Value.int 0 0, PySem.Value.int 3 0, PySem.Value.ref 56, PySem.Value.bool Bool.true, PySem.Value.int 181 0, PySem.Value.ref 57, PySem.Value.none, PySem.Value.ref 58, PySem.Value.ref 59, PySem.Value.ref 60, PySem.Value.int 250 0, PySem.Value.int 38 0, PySem.Value.str (PySem.Str.ofString "/claim/cut.py") 251]) #[] else
  PySem.Obj.mk (PySem.Value.type "function") (Option.none) (PySem.Data.func (PySem.FuncData.mk (PySem.Str.ofString "_law_cell_at") (PySem.Str.ofString "_law_cell_at") (L2.defArgs (htop 10)) (PySem.FuncBody.stmts (L2.defBody (htop 10))) (L2.defScope (htop 10)) (3) ([]) (PySem.Value.none) (PySem.Value.none) (PySem.Value.none) (PySem.Value.str (PySem.Str.ofString "law_nonebetter_k33_all_points_told") 236) (Option.none) (PySem.Value.ref 61) (PySem.Value.none) (0))) (#[])
noncomputable def hob7 (i : Nat) (P : PySem.Params) : PySem.Obj :=
  bif Nat.beq i 63 then PySem.Obj.mk (PySem.Value.type "tuple") Option.none (PySem.Data.seq #[]) #[] else
  bif Nat.beq i 65 then PySem.Obj.mk (PySem.Value.type "tuple") Option.none (PySem.Data.seq #[PySem.Value.str (PySem.Str.ofString "_law_cell") 256, PySem.Value.str (PySem.Str.ofString "_law_k") 257, PySem.Value.str (PySem.Str.ofString "_law_number") 258]) #[] else
  bif Nat.beq i 66 then PySem.Obj.mk (PySem.Value.type "tuple") Option.none (PySem.Data.seq #[]) #[] else
  bif Nat.beq i 68 then PySem.Obj.mk (PySem.Value.type "code") Option.none (PySem.Data.fields #[PySem.Value.str (PySem.Str.ofString "_law_mixed") 253, PySem.Value.str (PySem.Str.ofString "_law_mixed") 254, PySem.Value.str (PySem.Str.ofString "/claim/cut.py") 255, PySem.Value.int 42 0, PySem.Value.int 2 0, PySem.Value.int 0 0, PySem.Value.int 0 0, PySem.Value.int 3 0, PySem.Value.ref 63, PySem.Value.bool Bool.true, PySem.Value.int 181 0, PySem.Value.ref 64, PySem.Value.none, PySem.Value.ref 65, PySem.Value.ref 66, PySem.Value.ref 67, PySem.Value.int 259 0, PySem.Value.int 42 0, PySem.Value.str (PySem.Str.ofString "/claim/cut.py") 260]) #[] else
  PySem.Obj.mk (PySem.Value.type "function") (Option.none) (PySem.Data.func (PySem.FuncData.mk (PySem.Str.ofString "_law_mixed") (PySem.Str.ofString "_law_mixed") (L2.defArgs (htop 11)) (PySem.FuncBody.stmts (L2.defBody (htop 11))) (L2.defScope (htop 11)) (3) ([]) (PySem.Value.none) (PySem.Value.none) (PySem.Value.none) (PySem.Value.str (PySem.Str.ofString "law_nonebetter_k33_all_points_told") 236) (Option.none) (PySem.Value.ref 68) (PySem.Value.none) (0))) (#[])
noncomputable def hob8 (i : Nat) (P : PySem.Params) : PySem.Obj :=
  bif Nat.beq i 70 then PySem.Obj.mk (PySem.Value.type "tuple") Option.none (PySem.Data.seq #[]) #[] else
  bif Nat.beq i 72 then PySem.Obj.mk (PySem.Value.type "tuple") Option.none (PySem.Data.seq #[PySem.Value.str (PySem.Str.ofString "_law_script") 265, PySem.Value.str (PySem.Str.ofString "_law_k") 266, PySem.Value.str (PySem.Str.ofString "_law_count") 267, PySem.Value.str (PySem.Str.ofString "_law_left_here") 268, PySem.Value.str (PySem.Str.ofString "_law_j") 269, PySem.Value.str (PySem.Str.ofString "_law_found") 270]) #[] else
  bif Nat.beq i 73 then PySem.Obj.mk (PySem.Value.type "tuple") Option.none (PySem.Data.seq #[]) #[] else
  bif Nat.beq i 75 then PySem.Obj.mk (PySem.Value.type "code") Option.none (PySem.Data.fields #[PySem.Value.str (PySem.Str.ofString "_law_left") 262, PySem.Value.str (PySem.Str.ofString "_law_left") 263, PySem.Value.str (PySem.Str.ofString "/claim/cut.py") 264, PySem.Value.int 46 0, PySem.Value.int 3 0, PySem.Value.int 0 0, PySem.Value.int 0 0, PySem.Value.int 3 0, PySem.Value.ref 70, PySem.Value.bool Bool.true, PySem.Value.int 181 0, PySem.Value.ref 71, PySem.Value.none, PySem.Value.ref 72, PySem.Value.ref 73, PySem.Value.ref 74, PySem.Value.int 271 0, PySem.Value.int 46 0, PySem.Value.str (PySem.Str.ofString "/claim/cut.py") 272]) #[] else
  PySem.Obj.mk (PySem.Value.type "function") (Option.none) (PySem.Data.func (PySem.FuncData.mk (PySem.Str.ofString "_law_left") (PySem.Str.ofString "_law_left") (L2.defArgs (htop 12)) (PySem.FuncBody.stmts (L2.defBody (htop 12))) (L2.defScope (htop 12)) (3) ([]) (PySem.Value.none) (PySem.Value.none) (PySem.Value.none) (PySem.Value.str (PySem.Str.ofString "law_nonebetter_k33_all_points_told") 236) (Option.none) (PySem.Value.ref 75) (PySem.Value.none) (0))) (#[])
noncomputable def hob9 (i : Nat) (P : PySem.Params) : PySem.Obj :=
  bif Nat.beq i 77 then PySem.Obj.mk (PySem.Value.type "tuple") Option.none (PySem.Data.seq #[]) #[] else
  bif Nat.beq i 79 then PySem.Obj.mk (PySem.Value.type "tuple") Option.none (PySem.Data.seq #[PySem.Value.str (PySem.Str.ofString "_law_left_here") 277, PySem.Value.str (PySem.Str.ofString "_law_many") 278, PySem.Value.str (PySem.Str.ofString "_law_great") 279, PySem.Value.str (PySem.Str.ofString "_law_numbers") 280, PySem.Value.str (PySem.Str.ofString "_law_base") 281, PySem.Value.str (PySem.Str.ofString "_law_k") 282]) #[] else
  bif Nat.beq i 80 then PySem.Obj.mk (PySem.Value.type "tuple") Option.none (PySem.Data.seq #[]) #[] else
  bif Nat.beq i 82 then PySem.Obj.mk (PySem.Value.type "code") Option.none (PySem.Data.fields #[PySem.Value.str (PySem.Str.ofString "_law_row") 274, PySem.Value.str (PySem.Str.ofString "_law_row") 275, PySem.Value.str (PySem.Str.ofString "/claim/cut.py") 276, PySem.Value.int 56 0, PySem.Value.int 3 0, PySem.Value.int 0 0, PySem.Value.int 0 0, PySem.Value.int 3 0, PySem.Value.ref 77, PySem.Value.bool Bool.true, PySem.Value.int 181 0, PySem.Value.ref 78, PySem.Value.none, PySem.Value.ref 79, PySem.Value.ref 80, PySem.Value.ref 81, PySem.Value.int 283 0, PySem.Value.int 56 0, PySem.Value.str (PySem.Str.ofString "/claim/cut.py") 284]) #[] else
  PySem.Obj.mk (PySem.Value.type "function") (Option.none) (PySem.Data.func (PySem.FuncData.mk (PySem.Str.ofString "_law_row") (PySem.Str.ofString "_law_row") (L2.defArgs (htop 13)) (PySem.FuncBody.stmts (L2.defBody (htop 13))) (L2.defScope (htop 13)) (3) ([]) (PySem.Value.none) (PySem.Value.none) (PySem.Value.none) (PySem.Value.str (PySem.Str.ofString "law_nonebetter_k33_all_points_told") 236) (Option.none) (PySem.Value.ref 82) (PySem.Value.none) (0))) (#[])
noncomputable def hob10 (i : Nat) (P : PySem.Params) : PySem.Obj :=
  bif Nat.beq i 84 then PySem.Obj.mk (PySem.Value.type "tuple") Option.none (PySem.Data.seq #[]) #[] else
  bif Nat.beq i 87 then PySem.Obj.mk (PySem.Value.type "code") Option.none (PySem.Data.fields #[PySem.Value.str (PySem.Str.ofString "_law_problem") 286, PySem.Value.str (PySem.Str.ofString "_law_problem") 287, PySem.Value.str (PySem.Str.ofString "/claim/cut.py") 288, PySem.Value.int 64 0, PySem.Value.int 3 0, PySem.Value.int 0 0, PySem.Value.int 0 0, PySem.Value.int 3 0, PySem.Value.ref 84, PySem.Value.bool Bool.true, PySem.Value.int 181 0, PySem.Value.ref 85, PySem.Value.none, PySem.Value.none, PySem.Value.none, PySem.Value.ref 86, PySem.Value.int 289 0, PySem.Value.int 64 0, PySem.Value.str (PySem.Str.ofString "/claim/cut.py") 290]) #[] else
  bif Nat.beq i 88 then PySem.Obj.mk (PySem.Value.type "function") (Option.none) (PySem.Data.func (PySem.FuncData.mk (PySem.Str.ofString "_law_problem") (PySem.Str.ofString "_law_problem") (L2.defArgs (htop 14)) (PySem.FuncBody.stmts (L2.defBody (htop 14))) (L2.defScope (htop 14)) (3) ([]) (PySem.Value.none) (PySem.Value.none) (PySem.Value.none) (PySem.Value.str (PySem.Str.ofString "law_nonebetter_k33_all_points_told") 236) (Option.none) (PySem.Value.ref 87) (PySem.Value.none) (0))) (#[]) else
  bif Nat.beq i 89 then PySem.Obj.mk (PySem.Value.type "tuple") Option.none (PySem.Data.seq #[]) #[] else
  PySem.Obj.mk (PySem.Value.type "code") Option.none (PySem.Data.fields #[PySem.Value.str (PySem.Str.ofString "_law_copy") 292, PySem.Value.str (PySem.Str.ofString "_law_copy") 293, PySem.Value.str (PySem.Str.ofString "/claim/cut.py") 294, PySem.Value.int 68 0, PySem.Value.int 1 0, PySem.Value.int 0 0, PySem.Value.int 0 0, PySem.Value.int 3 0, PySem.Value.ref 89, PySem.Value.bool Bool.true, PySem.Value.int 181 0, PySem.Value.ref 90, PySem.Value.none, PySem.Value.none, PySem.Value.none, PySem.Value.ref 91, PySem.Value.int 295 0, PySem.Value.int 68 0, PySem.Value.str (PySem.Str.ofString "/claim/cut.py") 296]) #[]
noncomputable def hob11 (i : Nat) (P : PySem.Params) : PySem.Obj :=
  bif Nat.beq i 93 then PySem.Obj.mk (PySem.Value.type "function") (Option.none) (PySem.Data.func (PySem.FuncData.mk (PySem.Str.ofString "_law_copy") (PySem.Str.ofString "_law_copy") (L2.defArgs (htop 15)) (PySem.FuncBody.stmts (L2.defBody (htop 15))) (L2.defScope (htop 15)) (3) ([]) (PySem.Value.none) (PySem.Value.none) (PySem.Value.none) (PySem.Value.str (PySem.Str.ofString "law_nonebetter_k33_all_points_told") 236) (Option.none) (PySem.Value.ref 92) (PySem.Value.none) (0))) (#[]) else
  bif Nat.beq i 94 then PySem.Obj.mk (PySem.Value.type "tuple") Option.none (PySem.Data.seq #[]) #[] else
  bif Nat.beq i 97 then PySem.Obj.mk (PySem.Value.type "code") Option.none (PySem.Data.fields #[PySem.Value.str (PySem.Str.ofString "_law_at") 298, PySem.Value.str (PySem.Str.ofString "_law_at") 299, PySem.Value.str (PySem.Str.ofString "/claim/cut.py") 300, PySem.Value.int 70 0, PySem.Value.int 2 0, PySem.Value.int 0 0, PySem.Value.int 0 0, PySem.Value.int 3 0, PySem.Value.ref 94, PySem.Value.bool Bool.true, PySem.Value.int 181 0, PySem.Value.ref 95, PySem.Value.none, PySem.Value.none, PySem.Value.none, PySem.Value.ref 96, PySem.Value.int 301 0, PySem.Value.int 70 0, PySem.Value.str (PySem.Str.ofString "/claim/cut.py") 302]) #[] else
  bif Nat.beq i 98 then PySem.Obj.mk (PySem.Value.type "function") (Option.none) (PySem.Data.func (PySem.FuncData.mk (PySem.Str.ofString "_law_at") (PySem.Str.ofString "_law_at") (L2.defArgs (htop 16)) (PySem.FuncBody.stmts (L2.defBody (htop 16))) (L2.defScope (htop 16)) (3) ([]) (PySem.Value.none) (PySem.Value.none) (PySem.Value.none) (PySem.Value.str (PySem.Str.ofString "law_nonebetter_k33_all_points_told") 236) (Option.none) (PySem.Value.ref 97) (PySem.Value.none) (0))) (#[]) else
  PySem.Obj.mk (PySem.Value.type "tuple") Option.none (PySem.Data.seq #[]) #[]
noncomputable def hob12 (i : Nat) (P : PySem.Params) : PySem.Obj :=
  bif Nat.beq i 101 then PySem.Obj.mk (PySem.Value.type "tuple") Option.none (PySem.Data.seq #[PySem.Value.str (PySem.Str.ofString "_law_many") 307, PySem.Value.str (PySem.Str.ofString "_law_found") 308, PySem.Value.str (PySem.Str.ofString "_law_k") 309, PySem.Value.str (PySem.Str.ofString "_law_more") 310, PySem.Value.str (PySem.Str.ofString "_law_point") 311]) #[] else
  bif Nat.beq i 102 then PySem.Obj.mk (PySem.Value.type "tuple") Option.none (PySem.Data.seq #[]) #[] else
  bif Nat.beq i 104 then PySem.Obj.mk (PySem.Value.type "code") Option.none (PySem.Data.fields #[PySem.Value.str (PySem.Str.ofString "_law_points") 304, PySem.Value.str (PySem.Str.ofString "_law_points") 305, PySem.Value.str (PySem.Str.ofString "/claim/cut.py") 306, PySem.Value.int 72 0, PySem.Value.int 1 0, PySem.Value.int 0 0, PySem.Value.int 0 0, PySem.Value.int 3 0, PySem.Value.ref 99, PySem.Value.bool Bool.true, PySem.Value.int 181 0, PySem.Value.ref 100, PySem.Value.none, PySem.Value.ref 101, PySem.Value.ref 102, PySem.Value.ref 103, PySem.Value.int 312 0, PySem.Value.int 72 0, PySem.Value.str (PySem.Str.ofString "/claim/cut.py") 313]) #[] else
  bif Nat.beq i 105 then PySem.Obj.mk (PySem.Value.type "function") (Option.none) (PySem.Data.func (PySem.FuncData.mk (PySem.Str.ofString "_law_points") (PySem.Str.ofString "_law_points") (L2.defArgs (htop 17)) (PySem.FuncBody.stmts (L2.defBody (htop 17))) (L2.defScope (htop 17)) (3) ([]) (PySem.Value.none) (PySem.Value.none) (PySem.Value.none) (PySem.Value.str (PySem.Str.ofString "law_nonebetter_k33_all_points_told") 236) (Option.none) (PySem.Value.ref 104) (PySem.Value.none) (0))) (#[]) else
  PySem.Obj.mk (PySem.Value.type "tuple") Option.none (PySem.Data.seq #[]) #[]
noncomputable def hob13 (i : Nat) (P : PySem.Params) : PySem.Obj :=
  bif Nat.beq i 109 then PySem.Obj.mk (PySem.Value.type "code") Option.none (PySem.Data.fields #[PySem.Value.str (PySem.Str.ofString "_law_are_points") 315, PySem.Value.str (PySem.Str.ofString "_law_are_points") 316, PySem.Value.str (PySem.Str.ofString "/claim/cut.py") 317, PySem.Value.int 81 0, PySem.Value.int 1 0, PySem.Value.int 0 0, PySem.Value.int 0 0, PySem.Value.int 3 0, PySem.Value.ref 106, PySem.Value.bool Bool.true, PySem.Value.int 181 0, PySem.Value.ref 107, PySem.Value.none, PySem.Value.none, PySem.Value.none, PySem.Value.ref 108, PySem.Value.int 318 0, PySem.Value.int 81 0, PySem.Value.str (PySem.Str.ofString "/claim/cut.py") 319]) #[] else
  bif Nat.beq i 110 then PySem.Obj.mk (PySem.Value.type "function") (Option.none) (PySem.Data.func (PySem.FuncData.mk (PySem.Str.ofString "_law_are_points") (PySem.Str.ofString "_law_are_points") (L2.defArgs (htop 18)) (PySem.FuncBody.stmts (L2.defBody (htop 18))) (L2.defScope (htop 18)) (3) ([]) (PySem.Value.none) (PySem.Value.none) (PySem.Value.none) (PySem.Value.str (PySem.Str.ofString "law_nonebetter_k33_all_points_told") 236) (Option.none) (PySem.Value.ref 109) (PySem.Value.none) (0))) (#[]) else
  bif Nat.beq i 111 then PySem.Obj.mk (PySem.Value.type "tuple") Option.none (PySem.Data.seq #[]) #[] else
  bif Nat.beq i 114 then PySem.Obj.mk (PySem.Value.type "code") Option.none (PySem.Data.fields #[PySem.Value.str (PySem.Str.ofString "_law_right") 321, PySem.Value.str (PySem.Str.ofString "_law_right") 322, PySem.Value.str (PySem.Str.ofString "/claim/cut.py") 323, PySem.Value.int 88 0, PySem.Value.int 3 0, PySem.Value.int 0 0, PySem.Value.int 0 0, PySem.Value.int 3 0, PySem.Value.ref 111, PySem.Value.bool Bool.true, PySem.Value.int 181 0, PySem.Value.ref 112, PySem.Value.none, PySem.Value.none, PySem.Value.none, PySem.Value.ref 113, PySem.Value.int 324 0, PySem.Value.int 88 0, PySem.Value.str (PySem.Str.ofString "/claim/cut.py") 325]) #[] else
  PySem.Obj.mk (PySem.Value.type "function") (Option.none) (PySem.Data.func (PySem.FuncData.mk (PySem.Str.ofString "_law_right") (PySem.Str.ofString "_law_right") (L2.defArgs (htop 19)) (PySem.FuncBody.stmts (L2.defBody (htop 19))) (L2.defScope (htop 19)) (3) ([]) (PySem.Value.none) (PySem.Value.none) (PySem.Value.none) (PySem.Value.str (PySem.Str.ofString "law_nonebetter_k33_all_points_told") 236) (Option.none) (PySem.Value.ref 114) (PySem.Value.none) (0))) (#[])
noncomputable def hob14 (i : Nat) (P : PySem.Params) : PySem.Obj :=
  bif Nat.beq i 116 then PySem.Obj.mk (PySem.Value.type "tuple") Option.none (PySem.Data.seq #[]) #[] else
  bif Nat.beq i 119 then PySem.Obj.mk (PySem.Value.type "code") Option.none (PySem.Data.fields #[PySem.Value.str (PySem.Str.ofString "law") 327, PySem.Value.str (PySem.Str.ofString "law") 328, PySem.Value.str (PySem.Str.ofString "/claim/cut.py") 329, PySem.Value.int 110 0, PySem.Value.int 1 0, PySem.Value.int 0 0, PySem.Value.int 0 0, PySem.Value.int 3 0, PySem.Value.ref 116, PySem.Value.bool Bool.true, PySem.Value.int 181 0, PySem.Value.ref 117, PySem.Value.none, PySem.Value.none, PySem.Value.none, PySem.Value.ref 118, PySem.Value.int 330 0, PySem.Value.int 110 0, PySem.Value.str (PySem.Str.ofString "/claim/cut.py") 331]) #[] else
  PySem.Obj.mk (PySem.Value.type "function") (Option.none) (PySem.Data.func (PySem.FuncData.mk (PySem.Str.ofString "law") (PySem.Str.ofString "law") (L2.defArgs (htop 20)) (PySem.FuncBody.stmts (L2.defBody (htop 20))) (L2.defScope (htop 20)) (3) ([]) (PySem.Value.none) (PySem.Value.none) (PySem.Value.none) (PySem.Value.str (PySem.Str.ofString "law_nonebetter_k33_all_points_told") 236) (Option.none) (PySem.Value.ref 119) (PySem.Value.none) (0))) (#[])
noncomputable def hob (i : Nat) (P : PySem.Params) : PySem.Obj := (bif Nat.ble i 62 then (bif Nat.ble i 32 then (bif Nat.ble i 18 then hob0 i P else (bif Nat.ble i 25 then hob1 i P else hob2 i P)) else (bif Nat.ble i 48 then (bif Nat.ble i 39 then hob3 i P else hob4 i P) else (bif Nat.ble i 55 then hob5 i P else hob6 i P))) else (bif Nat.ble i 92 then (bif Nat.ble i 76 then (bif Nat.ble i 69 then hob7 i P else hob8 i P) else (bif Nat.ble i 83 then hob9 i P else hob10 i P)) else (bif Nat.ble i 106 then (bif Nat.ble i 99 then hob11 i P else hob12 i P) else (bif Nat.ble i 115 then hob13 i P else hob14 i P))))
noncomputable def heapK : PySem.Params → PySem.W.Frag := fun P => (nat_lit 2, hob (nat_lit 2) P) :: (nat_lit 3, hob (nat_lit 3) P) :: (nat_lit 6, hob (nat_lit 6) P) :: (nat_lit 15, hob (nat_lit 15) P) :: (nat_lit 18, hob (nat_lit 18) P) :: (nat_lit 19, hob (nat_lit 19) P) :: (nat_lit 20, hob (nat_lit 20) P) :: (nat_lit 22, hob (nat_lit 22) P) :: (nat_lit 23, hob (nat_lit 23) P) :: (nat_lit 25, hob (nat_lit 25) P) :: (nat_lit 26, hob (nat_lit 26) P) :: (nat_lit 27, hob (nat_lit 27) P) :: (nat_lit 29, hob (nat_lit 29) P) :: (nat_lit 30, hob (nat_lit 30) P) :: (nat_lit 32, hob (nat_lit 32) P) :: (nat_lit 33, hob (nat_lit 33) P) :: (nat_lit 34, hob (nat_lit 34) P) :: (nat_lit 37, hob (nat_lit 37) P) :: (nat_lit 38, hob (nat_lit 38) P) :: (nat_lit 39, hob (nat_lit 39) P) :: (nat_lit 42, hob (nat_lit 42) P) :: (nat_lit 43, hob (nat_lit 43) P) :: (nat_lit 44, hob (nat_lit 44) P) :: (nat_lit 47, hob (nat_lit 47) P) :: (nat_lit 48, hob (nat_lit 48) P) :: (nat_lit 49, hob (nat_lit 49) P) :: (nat_lit 51, hob (nat_lit 51) P) :: (nat_lit 52, hob (nat_lit 52) P) :: (nat_lit 54, hob (nat_lit 54) P) :: (nat_lit 55, hob (nat_lit 55) P) :: (nat_lit 56, hob (nat_lit 56) P) :: (nat_lit 58, hob (nat_lit 58) P) :: (nat_lit 59, hob (nat_lit 59) P) :: (nat_lit 61, hob (nat_lit 61) P) :: (nat_lit 62, hob (nat_lit 62) P) :: (nat_lit 63, hob (nat_lit 63) P) :: (nat_lit 65, hob (nat_lit 65) P) :: (nat_lit 66, hob (nat_lit 66) P) :: (nat_lit 68, hob (nat_lit 68) P) :: (nat_lit 69, hob (nat_lit 69) P) :: (nat_lit 70, hob (nat_lit 70) P) :: (nat_lit 72, hob (nat_lit 72) P) :: (nat_lit 73, hob (nat_lit 73) P) :: (nat_lit 75, hob (nat_lit 75) P) :: (nat_lit 76, hob (nat_lit 76) P) :: (nat_lit 77, hob (nat_lit 77) P) :: (nat_lit 79, hob (nat_lit 79) P) :: (nat_lit 80, hob (nat_lit 80) P) :: (nat_lit 82, hob (nat_lit 82) P) :: (nat_lit 83, hob (nat_lit 83) P) :: (nat_lit 84, hob (nat_lit 84) P) :: (nat_lit 87, hob (nat_lit 87) P) :: (nat_lit 88, hob (nat_lit 88) P) :: (nat_lit 89, hob (nat_lit 89) P) :: (nat_lit 92, hob (nat_lit 92) P) :: (nat_lit 93, hob (nat_lit 93) P) :: (nat_lit 94, hob (nat_lit 94) P) :: (nat_lit 97, hob (nat_lit 97) P) :: (nat_lit 98, hob (nat_lit 98) P) :: (nat_lit 99, hob (nat_lit 99) P) :: (nat_lit 101, hob (nat_lit 101) P) :: (nat_lit 102, hob (nat_lit 102) P) :: (nat_lit 104, hob (nat_lit 104) P) :: (nat_lit 105, hob (nat_lit 105) P) :: (nat_lit 106, hob (nat_lit 106) P) :: (nat_lit 109, hob (nat_lit 109) P) :: (nat_lit 110, hob (nat_lit 110) P) :: (nat_lit 111, hob (nat_lit 111) P) :: (nat_lit 114, hob (nat_lit 114) P) :: (nat_lit 115, hob (nat_lit 115) P) :: (nat_lit 116, hob (nat_lit 116) P) :: (nat_lit 119, hob (nat_lit 119) P) :: (nat_lit 120, hob (nat_lit 120) P) :: []
theorem all_ok {P : Program} {w : World} {K : PySem.W.Frag} {mg : Str → Option Value} {base : Heap} (M : Mg mg) (F1 : Fn K mg "weighed" sWeighed) (F2 : Fn K mg "cost_of" sCost) (F3 : Fn K mg "most_of" sMost) (F4 : Fn K mg "grown" sGrown) (F5 : Fn K mg "all_points" sAllP) (F6 : Fn K mg "least_points" sLeastP) (F7 : Fn K mg "_law_whole" sWhole) (F8 : Fn K mg "_law_cell_at" sCell) (F9 : Fn K mg "_law_mixed" sMix2) (F10 : Fn K mg "_law_left" sLeft) (F11 : Fn K mg "_law_row" sRow22) (F12 : Fn K mg "_law_problem" sProblem) (F13 : Fn K mg "_law_copy" sCopy) (F14 : Fn K mg "_law_at" sAt25) (F15 : Fn K mg "_law_points" sPoints) (F16 : Fn K mg "_law_are_points" sAreP) (F17 : Fn K mg "_law_right" sRight) {f : Addr} {fd : FuncData} (F18 : Fun K "law" "law" sLaw f fd) : FnOk P w K mg base CX0 5 f fd ["_law_script"] (spLaw K) := by
  have h_c_weighed := okWeighed (P := P) (w := w) (base := base) F1 M
  have h_c_cost_of := okCost (P := P) (w := w) (base := base) F2 M h_c_weighed
  have h_c_most_of := okMost (P := P) (w := w) (base := base) F3 M
  have h_c_grown := okGrown (P := P) (w := w) (base := base) F4 M
  have h_c_all_points := okAllP (P := P) (w := w) (base := base) F5 M h_c_most_of h_c_grown
  have h_c_least_points := okLeastP (P := P) (w := w) (base := base) F6 M h_c_all_points h_c_cost_of
  have h_cl_whole := okWhole (P := P) (w := w) (base := base) F7 M
  have h_cl_cell_at := okCell (P := P) (w := w) (base := base) F8 M
  have h_cl_mixed := okMix2 (P := P) (w := w) (base := base) F9 M
  have h_cl_left := okLeft (P := P) (w := w) (base := base) F10 M h_cl_cell_at h_cl_mixed
  have h_cl_row := okRow22 (P := P) (w := w) (base := base) F11 M
  have h_cl_problem := okProblem (P := P) (w := w) (base := base) F12 M h_cl_cell_at h_cl_row h_cl_left
  have h_cl_copy := okCopy (P := P) (w := w) (base := base) F13 M
  have h_cl_at := okAt25 (P := P) (w := w) (base := base) F14 M
  have h_cl_points := okPoints (P := P) (w := w) (base := base) F15 M
  have h_cl_are_points := okAreP (P := P) (w := w) (base := base) F16 M h_cl_whole
  have h_cl_right := okRight (P := P) (w := w) (base := base) F17 M h_c_all_points h_c_least_points h_cl_are_points h_cl_at h_cl_whole
  have h_c_law := okLaw (P := P) (w := w) (base := base) F18 M h_cl_cell_at h_cl_problem h_cl_copy h_cl_points h_cl_at h_cl_right
  exact h_c_law
theorem walk {l : PySem.W.OpenLaw} {q : Program} {loose : List Str} {XP : (Str → Option Value) → Heap → Prop} {YP : World → Heap → Prop} {d : DefRec} {K : Params → PySem.W.Frag} (hn : l.most = some 63) (hdf : d.params.defaults = [])
    (hY : ∀ (w : World) (h : Heap), YP w h → (K w.params).In h)
    (F : ∀ (w : World) (mg : Str → Option Value) (fa : Addr) (h : Heap), (K w.params).In h → h.Ns mainGlobals mg → mg d.name = some (.ref fa) →
      ∃ fd : FuncData, (∀ (s : Shared) (u : Value), BindsTo s fd ⟨[u], []⟩ [("_law_script", u)]) ∧ ∀ base : Heap, (K w.params).In base → base.Ns mainGlobals mg → FnOk l.prog w (K w.params) mg base CX0 5 fa fd ["_law_script"] (spLaw (K w.params))) :
    PySem.W.WalkO q loose XP YP l.row.toRowW d [] (fun f vs => PySem.call f vs) :=
  L2.walk_of (n := 63) (k := 5) (x := "_law_script") (CX := fun _ => CX0) (sp := fun w => spLaw (K w.params)) hn (by decide) hdf ⟨rfl, by decide, by decide⟩ hY F (fun _ _ a ns hl hb hS => ⟨a, ns, rfl, hS, hl, fun _ => rfl⟩) fun _ _ _ _ _ z => z
end Nb
open PySem PySem.W PyProof.Rows
set_option maxRecDepth 100000 in
set_option maxHeartbeats 0 in
theorem PySem.Challenge.cw_nonebetter_k33_all_points_told_holds : PySem.Challenge.rw_nonebetter_k33_all_points_told.Holds := by
  w_on; refine PySem.W.holds_law (by kernel_rfl) fun said => ?_; o_head (PySem.W.kHook Nb.heapK (nat_lit 2 :: nat_lit 3 :: nat_lit 6 :: nat_lit 15 :: nat_lit 18 :: nat_lit 19 :: nat_lit 20 :: nat_lit 22 :: nat_lit 23 :: nat_lit 25 :: nat_lit 26 :: nat_lit 27 :: nat_lit 29 :: nat_lit 30 :: nat_lit 32 :: nat_lit 33 :: nat_lit 34 :: nat_lit 37 :: nat_lit 38 :: nat_lit 39 :: nat_lit 42 :: nat_lit 43 :: nat_lit 44 :: nat_lit 47 :: nat_lit 48 :: nat_lit 49 :: nat_lit 51 :: nat_lit 52 :: nat_lit 54 :: nat_lit 55 :: nat_lit 56 :: nat_lit 58 :: nat_lit 59 :: nat_lit 61 :: nat_lit 62 :: nat_lit 63 :: nat_lit 65 :: nat_lit 66 :: nat_lit 68 :: nat_lit 69 :: nat_lit 70 :: nat_lit 72 :: nat_lit 73 :: nat_lit 75 :: nat_lit 76 :: nat_lit 77 :: nat_lit 79 :: nat_lit 80 :: nat_lit 82 :: nat_lit 83 :: nat_lit 84 :: nat_lit 87 :: nat_lit 88 :: nat_lit 89 :: nat_lit 92 :: nat_lit 93 :: nat_lit 94 :: nat_lit 97 :: nat_lit 98 :: nat_lit 99 :: nat_lit 101 :: nat_lit 102 :: nat_lit 104 :: nat_lit 105 :: nat_lit 106 :: nat_lit 109 :: nat_lit 110 :: nat_lit 111 :: nat_lit 114 :: nat_lit 115 :: nat_lit 116 :: nat_lit 119 :: nat_lit 120 :: []) (fun _ => by kernel_rfl)); (case hw => w_witness2)
  k_fill
  refine Nb.walk (l := PySem.Challenge.rw_nonebetter_k33_all_points_told) rfl rfl (fun w h Y => PySem.W.kIn_of Y) ?F
  case F =>
    intro w mg fa h KX G hmg
    have F1 : L2.Fn (L2.KOf KX) mg "weighed" Nb.sWeighed := by
      dsimp only [L2.KOf]
      refine' L2.fn_mk KX G ?a ?l ?c ?k
      (case a => k_is); (case l => k_is); (case c => k_is); (case k => k_is)
    have F2 : L2.Fn (L2.KOf KX) mg "cost_of" Nb.sCost := by
      dsimp only [L2.KOf]
      refine' L2.fn_mk KX G ?a ?l ?c ?k
      (case a => k_is); (case l => k_is); (case c => k_is); (case k => k_is)
    have F3 : L2.Fn (L2.KOf KX) mg "most_of" Nb.sMost := by
      dsimp only [L2.KOf]
      refine' L2.fn_mk KX G ?a ?l ?c ?k
      (case a => k_is); (case l => k_is); (case c => k_is); (case k => k_is)
    have F4 : L2.Fn (L2.KOf KX) mg "grown" Nb.sGrown := by
      dsimp only [L2.KOf]
      refine' L2.fn_mk KX G ?a ?l ?c ?k
      (case a => k_is); (case l => k_is); (case c => k_is); (case k => k_is)
    have F5 : L2.Fn (L2.KOf KX) mg "all_points" Nb.sAllP := by
      dsimp only [L2.KOf]
      refine' L2.fn_mk KX G ?a ?l ?c ?k
      (case a => k_is); (case l => k_is); (case c => k_is); (case k => k_is)
    have F6 : L2.Fn (L2.KOf KX) mg "least_points" Nb.sLeastP := by
      dsimp only [L2.KOf]
      refine' L2.fn_mk KX G ?a ?l ?c ?k
      (case a => k_is); (case l => k_is); (case c => k_is); (case k => k_is)
    have F7 : L2.Fn (L2.KOf KX) mg "_law_whole" Nb.sWhole := by
      dsimp only [L2.KOf]
      refine' L2.fn_mk KX G ?a ?l ?c ?k
      (case a => k_is); (case l => k_is); (case c => k_is); (case k => k_is)
    have F8 : L2.Fn (L2.KOf KX) mg "_law_cell_at" Nb.sCell := by
      dsimp only [L2.KOf]
      refine' L2.fn_mk KX G ?a ?l ?c ?k
      (case a => k_is); (case l => k_is); (case c => k_is); (case k => k_is)
    have F9 : L2.Fn (L2.KOf KX) mg "_law_mixed" Nb.sMix2 := by
      dsimp only [L2.KOf]
      refine' L2.fn_mk KX G ?a ?l ?c ?k
      (case a => k_is); (case l => k_is); (case c => k_is); (case k => k_is)
    have F10 : L2.Fn (L2.KOf KX) mg "_law_left" Nb.sLeft := by
      dsimp only [L2.KOf]
      refine' L2.fn_mk KX G ?a ?l ?c ?k
      (case a => k_is); (case l => k_is); (case c => k_is); (case k => k_is)
    have F11 : L2.Fn (L2.KOf KX) mg "_law_row" Nb.sRow22 := by
      dsimp only [L2.KOf]
      refine' L2.fn_mk KX G ?a ?l ?c ?k
      (case a => k_is); (case l => k_is); (case c => k_is); (case k => k_is)
    have F12 : L2.Fn (L2.KOf KX) mg "_law_problem" Nb.sProblem := by
      dsimp only [L2.KOf]
      refine' L2.fn_mk KX G ?a ?l ?c ?k
      (case a => k_is); (case l => k_is); (case c => k_is); (case k => k_is)
    have F13 : L2.Fn (L2.KOf KX) mg "_law_copy" Nb.sCopy := by
      dsimp only [L2.KOf]
      refine' L2.fn_mk KX G ?a ?l ?c ?k
      (case a => k_is); (case l => k_is); (case c => k_is); (case k => k_is)
    have F14 : L2.Fn (L2.KOf KX) mg "_law_at" Nb.sAt25 := by
      dsimp only [L2.KOf]
      refine' L2.fn_mk KX G ?a ?l ?c ?k
      (case a => k_is); (case l => k_is); (case c => k_is); (case k => k_is)
    have F15 : L2.Fn (L2.KOf KX) mg "_law_points" Nb.sPoints := by
      dsimp only [L2.KOf]
      refine' L2.fn_mk KX G ?a ?l ?c ?k
      (case a => k_is); (case l => k_is); (case c => k_is); (case k => k_is)
    have F16 : L2.Fn (L2.KOf KX) mg "_law_are_points" Nb.sAreP := by
      dsimp only [L2.KOf]
      refine' L2.fn_mk KX G ?a ?l ?c ?k
      (case a => k_is); (case l => k_is); (case c => k_is); (case k => k_is)
    have F17 : L2.Fn (L2.KOf KX) mg "_law_right" Nb.sRight := by
      dsimp only [L2.KOf]
      refine' L2.fn_mk KX G ?a ?l ?c ?k
      (case a => k_is); (case l => k_is); (case c => k_is); (case k => k_is)
    have F18 : L2.Fn (L2.KOf KX) mg "law" Nb.sLaw := by
      dsimp only [L2.KOf]
      refine' L2.fn_mk KX G ?a ?l ?c ?k
      (case a => k_is); (case l => k_is); (case c => k_is); (case k => k_is)
    have M : Nb.Mg mg := by
      refine' ⟨PySem.W.mg_none_of KX G ?m_len, PySem.W.mg_none_of KX G ?m_min, PySem.W.mg_none_of KX G ?m_max, PySem.W.mg_none_of KX G ?m_sum, PySem.W.mg_none_of KX G ?m_all, PySem.W.mg_none_of KX G ?m_any, PySem.W.mg_none_of KX G ?m_abs, PySem.W.mg_none_of KX G ?m_isinstance, PySem.W.mg_none_of KX G ?m_sorted, PySem.W.mg_none_of KX G ?m_range_, PySem.W.mg_none_of KX G ?m_zip_, PySem.W.mg_none_of KX G ?m_tuple_, PySem.W.mg_none_of KX G ?m_list_, PySem.W.mg_none_of KX G ?m_int_, PySem.W.mg_none_of KX G ?m_bool_, PySem.W.mg_none_of KX G ?m_dict_, PySem.W.mg_none_of KX G ?m_enumerate_, PySem.W.mg_none_of KX G ?m_reversed_, PySem.W.mg_none_of KX G ?m_ValueError_, PySem.W.mg_none_of KX G ?m_set_, PySem.W.mg_none_of KX G ?m_str_⟩
      (case m_len => k_is)
      (case m_min => k_is)
      (case m_max => k_is)
      (case m_sum => k_is)
      (case m_all => k_is)
      (case m_any => k_is)
      (case m_abs => k_is)
      (case m_isinstance => k_is)
      (case m_sorted => k_is)
      (case m_range_ => k_is)
      (case m_zip_ => k_is)
      (case m_tuple_ => k_is)
      (case m_list_ => k_is)
      (case m_int_ => k_is)
      (case m_bool_ => k_is)
      (case m_dict_ => k_is)
      (case m_enumerate_ => k_is)
      (case m_reversed_ => k_is)
      (case m_ValueError_ => k_is)
      (case m_set_ => k_is)
      (case m_str_ => k_is)
    obtain ⟨f, fd, FF, hm⟩ := F18
    have e0 := hmg.symm.trans hm
    cases e0
    refine' ⟨fd, ?b, fun base kb nb => Nb.all_ok M F1 F2 F3 F4 F5 F6 F7 F8 F9 F10 F11 F12 F13 F14 F15 F16 F17 FF⟩
    obtain ⟨oc, od, kV, doc, pm, an, cdv, ct, osl, rfl, lk, hcd⟩ := FF.ex
    exact fun s u => .of_eq rfl

