import PyProof.Rows.All
import Wide.All
import OpenK.AllK
import Wide.FinOn
import Lean
import PyProof.EqAt
import PyProof.EqKinds
import PyProof.TupleCall
import KE.KDictOf
import KE.KRevIter
import KE.KEqDict
import KE.KMinKey
import KE.KTryDeep
import KE.KIsAll
import KE.KSortTup
import OpenK.KTop
import KE.KPairComp
import PyProof.NeKinds
import KE.KDictSum
import PyProof.Rows.SortStr
import PySem.Challenge.RW_nonebetter_k61_whole_broken_plans
noncomputable section
abbrev Fg := PySem.W.Frag
abbrev gE := @List.getElem?_eq_getElem
set_option Elab.async false
set_option linter.all false
set_option maxRecDepth 100000
set_option maxHeartbeats 4000000
set_option bootstrap.genMatcherCode false
set_option genSizeOfSpec false
set_option compiler.extract_closed false
namespace L2
theorem aRfl (h : True := by rfl) : True := h
theorem aDec (h : True := by decide) : True := h
theorem aFst (h : True := by first | exact .inl rfl | exact .inr rfl | assumption) : True := h
theorem aIrf (h : True := by intro _; rfl) : True := h
end L2
namespace L2
open PySem PySem.Spec PyProof.Rows
abbrev Key := Sum Int Str
def keyIs : Key → Value → Bool
 | .inl k, v => Value.isInt k v
 | .inr x, v => Value.isStrOf x v
def keyH (w : World) : Key → Int
 | .inl k => hashInt k
 | .inr x => hashStr w x
theorem keyIs_shape : ∀ {k : Key} {v : Value}, keyIs k v = true → (∃ i t, k = Sum.inl i ∧ v = Value.int i t) ∨ (∃ x t, k = Sum.inr x ∧ v = Value.str x t)
 | .inl i, v, h => by
  obtain ⟨t, e⟩ := Value.isInt_shape (k := i) (v := v) h
  exact .inl ⟨i, t, rfl, e⟩
 | .inr x, v, h => by
  obtain ⟨t, e⟩ := Value.isStrOf_shape (x := x) (v := v) h
  exact .inr ⟨x, t, rfl, e⟩
theorem keyIs_int (i : Int) (t : Tok) : keyIs (.inl i) (.int i t) = true := by simp [keyIs, Value.isInt]
theorem keyIs_str (x : Str) (t : Tok) : keyIs (.inr x) (.str x t) = true := by simp [keyIs, Value.isStrOf]
theorem key_ll (a b : Int) : decide ((Sum.inl a : Key) = Sum.inl b) = (a == b) := by
 by_cases e : a = b
 ·subst e; simp
 ·have h : ¬ (Sum.inl a : Key) = Sum.inl b := fun q => e (Sum.inl.inj q)
  rw [decide_eq_false h]
  exact (beq_eq_false_iff_ne.mpr e).symm
theorem key_rr (a b : Str) : decide ((Sum.inr a : Key) = Sum.inr b) = decide (a = b) := by
 by_cases e : a = b
 ·subst e; simp
 ·have h : ¬ (Sum.inr a : Key) = Sum.inr b := fun q => e (Sum.inr.inj q)
  rw [decide_eq_false h, decide_eq_false e]
theorem key_lr (a : Int) (b : Str) : decide ((Sum.inl a : Key) = Sum.inr b) = false := decide_eq_false (fun q => nomatch q)
theorem key_rl (a : Str) (b : Int) : decide ((Sum.inr a : Key) = Sum.inl b) = false := decide_eq_false (fun q => nomatch q)
def mixKind (prog : Program) (w : World) : PySem.KeyKind prog w Key where
 is := keyIs
 hash := keyH w
 inj := fun v a b ha hb => by
  rcases keyIs_shape ha with ⟨i, t, rfl, rfl⟩ | ⟨x, t, rfl, rfl⟩
  ·rcases keyIs_shape hb with ⟨j, u, rfl, e⟩ | ⟨y, u, rfl, e⟩
   ·injection e with e1 _; rw [e1]
   ·exact nomatch e
  ·rcases keyIs_shape hb with ⟨j, u, rfl, e⟩ | ⟨y, u, rfl, e⟩
   ·exact nomatch e
   ·injection e with e1 _; rw [e1]
 byValue := fun k v h => by
  rcases keyIs_shape h with ⟨i, t, rfl, rfl⟩ | ⟨x, t, rfl, rfl⟩ <;> rfl
 pyHash := fun hv h => by
  rcases keyIs_shape hv with ⟨i, t, rfl, rfl⟩ | ⟨x, t, rfl, rfl⟩
  ·exact wpAny_pyHash_int h
  ·exact wpAny_pyHash_str h
 eqBool := fun hu hv h => by
  rcases keyIs_shape hu with ⟨i, t, rfl, rfl⟩ | ⟨x, t, rfl, rfl⟩
  ·rcases keyIs_shape hv with ⟨j, u, rfl, rfl⟩ | ⟨y, u, rfl, rfl⟩
   ·rw [key_ll] at h; exact wpAny_eqBool_int h
   ·rw [key_lr] at h; exact SeqAt.EqAt.int_str i t y u _ _ _ _ h
  ·rcases keyIs_shape hv with ⟨j, u, rfl, rfl⟩ | ⟨y, u, rfl, rfl⟩
   ·rw [key_rl] at h; exact SeqAt.EqAt.str_int x t j u _ _ _ _ h
   ·rw [key_rr] at h; exact wpAny_eqBool_str h
 «strs» := fun k x t v h => by
  rcases keyIs_shape h with ⟨i, u, rfl, e⟩ | ⟨y, u, rfl, e⟩
  ·exact nomatch e
  ·injection e with e1 _
   subst e1
   cases v <;> rfl
theorem mixKind_is (prog : Program) (w : World) (k : Key) (v : Value) : (mixKind prog w).is k v = keyIs k v := rfl
theorem mixKind_int (prog : Program) (w : World) (i : Int) (t : Tok) : (mixKind prog w).is (.inl i) (.int i t) = true := keyIs_int i t
theorem mixKind_str (prog : Program) (w : World) (x : Str) (t : Tok) : (mixKind prog w).is (.inr x) (.str x t) = true := keyIs_str x t
inductive V where
 | non | bl (b : Bool) | int (i : Int) | str (x : Str) | byt (b : Array UInt8) | flt (b : UInt64) | ref (a : Addr) | ty (n : String)
 deriving DecidableEq
def RelV : V → Value → Prop
 | .non, u => u = Value.none
 | .bl b, u => u = Value.bool b
 | .int i, u => ∃ t, u = Value.int i t
 | .str x, u => ∃ t, u = Value.str x t
 | .byt b, u => ∃ t, u = Value.bytes b t
 | .flt b, u => ∃ t, u = Value.float b t
 | .ref a, u => u = Value.ref a
 | .ty n, u => u = Value.type n
abbrev Vals : List V → List Value → Prop := Paired RelV
theorem Vals.length {xs : List V} {us : List Value} (r : Vals xs us) : xs.length = us.length := Paired.length r
theorem Vals.get : ∀ {xs : List V} {us : List Value} {i : Nat} {x : V}, Vals xs us → xs[i]? = some x → ∃ u, us[i]? = some u ∧ RelV x u
 | _, _, _, _, .nil, e => by simp at e
 | _, _, 0, _, .cons r _, e => by simp at e; subst e; exact ⟨_, rfl, r⟩
 | _, _, i + 1, x, .cons _ t, e => by
  obtain ⟨u, h1, h2⟩ := Vals.get (i := i) (x := x) t (by simpa using e)
  exact ⟨u, by simpa using h1, h2⟩
theorem Vals.set {x : V} {u : Value} (r : RelV x u) : ∀ {xs : List V} {us : List Value} (i : Nat), Vals xs us → Vals (xs.set i x) (us.set i u)
 | _, _, _, .nil => .nil
 | _, _, 0, .cons _ t => .cons r t
 | _, _, i + 1, .cons q t => .cons q (Vals.set r i t)
theorem Vals.append {xs ys : List V} {us ws : List Value} (h : Vals xs us) (g : Vals ys ws) : Vals (xs ++ ys) (us ++ ws) := by
 induction h with
 | nil => exact g
 | cons r t ih => exact .cons r ih
theorem Vals.take : ∀ {xs : List V} {us : List Value} (n : Nat), Vals xs us → Vals (xs.take n) (us.take n)
 | _, _, 0, _ => .nil
 | _, _, _ + 1, .nil => .nil
 | _, _, n + 1, .cons r t => .cons r (Vals.take n t)
theorem Vals.drop : ∀ {xs : List V} {us : List Value} (n : Nat), Vals xs us → Vals (xs.drop n) (us.drop n)
 | _, _, 0, r => r
 | _, _, _ + 1, .nil => .nil
 | _, _, n + 1, .cons _ t => Vals.drop n t
def RelO : Option V → Option Value → Prop
 | some v, some u => RelV v u
 | none, none => True
 | _, _ => False
def KV {κ : Type} : List (κ × V) → List (κ × Value) → Prop := Paired fun (p : κ × V) (q : κ × Value) => p.1 = q.1 ∧ RelV p.2 q.2
def kV : Key → V
 | .inl i => .int i
 | .inr x => .str x
inductive HO where
 /-- a list -/
 | lst (xs : List V)
 /-- a tuple (never changes) -/
 | tup (xs : List V)
 /-- a dict whose keys are ints and texts; one whose keys are tuples of ints and texts (the empty one is both) -/
 | dK (kvs : List (Key × V)) | dT (kvs : List (List Key × V))
 /-- a set of ints: its members, its size -/
 | set (S : Int → Bool) (n : Nat)
 /-- an instance of the class at C, its dict at dx, its attributes -/
 | ins (C dx : Addr) (fs : List (Str × V))
 /-- the dict of the instance at x -/
 | own (x : Addr)
 /-- the dict of an exception -/
 | xd (fs : List (Str × V))
 /-- a bound method, f of x -/
 | met (f x : Addr)
 /-- a range object lo, lo + 1, .. below hi -/
 | rng (lo hi : Int)
 /-- a thing that is known to the object (the script; a dict while a loop walks it): read, never written while it is so -/
 | frz (o : Obj) (u : HO)
 /-- a code object's table -/
 | tbl (ps : Array Value)
 /-- any other thing, by what is true of its one object (a def of one's own: SetO a S n := HO.ext fun h => ..) -/
 | ext (φ : Heap → Prop)
abbrev Hp := Addr → Option HO
def upd (H : Hp) (a : Addr) (o : HO) : Hp := fun b => if b = a then some o else H b
theorem upd_same {H : Hp} {a : Addr} {o : HO} : upd H a o a = some o := by unfold upd; rw [if_pos rfl]
theorem upd_ne {H : Hp} {a b : Addr} {o : HO} (h : b ≠ a) : upd H a o b = H b := by unfold upd; rw [if_neg h]
theorem upd_upd {H : Hp} {a : Addr} {o u : HO} : upd (upd H a o) a u = upd H a u := by
 funext b; unfold upd; split <;> rfl
theorem ne_of {H : Hp} {a b : Addr} {o u : HO} (h : H a = some o) (h' : H b = some u) (d : o ≠ u) : a ≠ b := by
 intro e; subst e; rw [h] at h'; exact d (Option.some.inj h')
theorem ne_of_none {H : Hp} {a b : Addr} {o : HO} (h : H a = some o) (h' : H b = none) : a ≠ b := by
 intro e; subst e; rw [h] at h'; cases h'
section
variable (P : Program) (w : World)
def ObjOk (H : Hp) (h : Heap) (a : Addr) : HO → Prop
 | .lst xs => xs.length ≤ sizeLine ∧ ∃ (its : List Value) (n : Nat), Vals xs its ∧ h.get? a = some { cls := .type "list", data := .seq its.toArray n }
 | .tup xs => xs.length ≤ sizeLine ∧ ∃ its : List Value, Vals xs its ∧ IsTup h a its.toArray
 | .dK kvs => kvs.length ≤ sizeLine ∧ (a == sysModules) = false ∧ ∃ vs, KV kvs vs ∧ h.DictOf (mixKind P w) a vs
 | .dT kvs => kvs.length ≤ sizeLine ∧ (a == sysModules) = false ∧ ∃ xs : List (List Key × Addr × Value),
   Paired (fun (p : List Key × V) (q : List Key × Addr × Value) => p.1 = q.1 ∧ H q.2.1 = some (.tup (p.1.map kV)) ∧ RelV p.2 q.2.2) kvs xs ∧
   ∃ o es ep, h.get? a = some o ∧ o.ExactDict ∧ o.data = .dict es ep ∧ es.toList = xs.map (entryOfKey (tupleKind (mixKind P w))) ∧ (xs.map (·.1)).Nodup
 | .set S n => h.SetOf (intKind P w) a S n
 | .ins C dx fs => H dx = some (.own a) ∧ fs.length ≤ 1000 ∧ dx ≠ a ∧ h.get? a = some (PySem.W.instObj C dx) ∧
   ∃ mA, h.Ns1 dx mA ∧ (∀ f, RelO (fs.lookup f) (mA f)) ∧ PySem.Within mA (fs.map (·.1))
 | .own _ => ∃ o, h.get? a = some o
 | .xd fs => ∃ mA, h.Ns1 a mA ∧ ∀ f, RelO (fs.lookup f) (mA f)
 | .rng lo hi => ∃ t u v, h.get? a = some { cls := .type "range", data := .fields #[.int lo t, .int hi u, .int 1 v] }
 | .frz o u => h.get? a = some o ∧ ObjOk H h a u
 | .tbl ps => h.get? a = some { cls := .none, data := .fields ps }
 | .met f x => h.get? a = some (PySem.W.methodObj (.ref f) (.ref x))
 | .ext φ => φ h ∧ (∃ o, h.get? a = some o) ∧ ∀ h1 h2 : Heap, φ h1 → (∀ o, h1.get? a = some o → h2.get? a = some o) → φ h2
def HOk (H : Hp) (h : Heap) : Prop := ∀ a o, H a = some o → ObjOk P w H h a o
end
section
variable {P : Program} {w : World} {H H' : Hp} {h h' : Heap} {a : Addr} {o : HO}
theorem ObjOk.lt (x : ObjOk P w H h a o) : a < h.objs.size := by
 cases o with
 | lst xs => obtain ⟨_, _, _, _, e⟩ := x; exact Heap.lt_size e
 | tup xs => obtain ⟨_, _, _, p⟩ := x; exact p.lt
 | dK kvs => obtain ⟨_, _, _, _, o, _, _, e, _⟩ := x; exact Heap.lt_size e
 | dT kvs => obtain ⟨_, _, _, _, o, _, _, e, _⟩ := x; exact Heap.lt_size e
 | set S n => obtain ⟨o, _, _, _, e, _⟩ := x; exact Heap.lt_size e
 | ins C dx fs => obtain ⟨_, _, _, e, _⟩ := x; exact Heap.lt_size e
 | own y => obtain ⟨_, e⟩ := x; exact Heap.lt_size e
 | xd fs => obtain ⟨_, ⟨_, _, _, e, _⟩, _⟩ := x; exact Heap.lt_size e
 | rng lo hi => obtain ⟨_, _, _, e⟩ := x; exact Heap.lt_size e
 | frz ob u => obtain ⟨e, _⟩ := x; exact Heap.lt_size e
 | tbl ps => exact Heap.lt_size (show h.get? a = some _ from x)
 | met f y => exact Heap.lt_size (show h.get? a = some _ from x)
 | ext φ => obtain ⟨_, ⟨_, e⟩, _⟩ := x; exact Heap.lt_size e
theorem Paired.mapP {α β : Type} {F G : α → β → Prop} {l₁ : List α} {l₂ : List β} (h : Paired F l₁ l₂) (f : ∀ a b, F a b → G a b) : Paired G l₁ l₂ := by
 induction h with
 | nil => exact .nil
 | cons r t ih => exact .cons (f _ _ r) ih
theorem ObjOk.stay (x : ObjOk P w H h a o) (k : ∀ b u, (b = a ∨ H b = some (.own a)) → h.get? b = some u → h'.get? b = some u)
  (ho : ∀ b, H b = some (.own a) → H' b = some (.own a)) (ht : ∀ b xs, H b = some (.tup xs) → H' b = some (.tup xs)) : ObjOk P w H' h' a o := by
 induction o with
 | lst xs => obtain ⟨z, its, n, r, e⟩ := x; exact ⟨z, its, n, r, k _ _ (.inl rfl) e⟩
 | tup xs => obtain ⟨z, its, r, ob, e, c⟩ := x; exact ⟨z, its, r, ob, k _ _ (.inl rfl) e, c⟩
 | dK kvs => obtain ⟨z, y, vs, r, ob, es, ep, e, c⟩ := x; exact ⟨z, y, vs, r, ob, es, ep, k _ _ (.inl rfl) e, c⟩
 | dT kvs =>
  obtain ⟨z, y, xs, r, ob, es, ep, e, c⟩ := x
  exact ⟨z, y, xs, Paired.mapP r fun p q z => ⟨z.1, ht _ _ z.2.1, z.2.2⟩, ob, es, ep, k _ _ (.inl rfl) e, c⟩
 | set S n => obtain ⟨ob, es, ep, t, e, c⟩ := x; exact ⟨ob, es, ep, t, k _ _ (.inl rfl) e, c⟩
 | ins C dx fs =>
  obtain ⟨d, z, ne, e, mA, ⟨od, es, ep, e2, c⟩, r⟩ := x
  exact ⟨ho _ d, z, ne, k _ _ (.inl rfl) e, mA, ⟨od, es, ep, k _ _ (.inr d) e2, c⟩, r⟩
 | own y => obtain ⟨ob, e⟩ := x; exact ⟨ob, k _ _ (.inl rfl) e⟩
 | xd fs => obtain ⟨mA, ⟨od, es, ep, e, c⟩, r⟩ := x; exact ⟨mA, ⟨od, es, ep, k _ _ (.inl rfl) e, c⟩, r⟩
 | rng lo hi => obtain ⟨t, u, v, e⟩ := x; exact ⟨t, u, v, k _ _ (.inl rfl) e⟩
 | frz ob u ih => obtain ⟨e, q⟩ := x; exact ⟨k _ _ (.inl rfl) e, ih q⟩
 | tbl ps =>
  have e : h.get? a = some { cls := .none, data := .fields ps } := x
  show h'.get? a = some { cls := .none, data := .fields ps }
  exact k a _ (.inl rfl) e
 | met f y =>
  have e : h.get? a = some (PySem.W.methodObj (.ref f) (.ref y)) := x
  show h'.get? a = some (PySem.W.methodObj (.ref f) (.ref y))
  exact k a _ (.inl rfl) e
 | ext φ => obtain ⟨p, ⟨o, e⟩, st⟩ := x; exact ⟨st _ _ p fun o q => k _ _ (.inl rfl) q, ⟨o, k _ _ (.inl rfl) e⟩, st⟩
theorem HOk.lt (x : HOk P w H h) (e : H a = some o) : a < h.objs.size := (x a o e).lt
theorem HOk.fresh (x : HOk P w H h) (e : h.objs.size ≤ a) : H a = none := by
 cases q : H a with
 | none => rfl
 | some u => exact absurd (Nat.lt_of_lt_of_le (x.lt q) e) (Nat.lt_irrefl _)
theorem HOk.kept (x : HOk P w H h) (k : ∀ b u, h.get? b = some u → h'.get? b = some u) : HOk P w H h' := fun a o e =>
 (x a o e).stay (fun b u _ q => k b u q) (fun _ q => q) fun _ _ q => q
theorem HOk.laid (x : HOk P w H h) (k : ∀ b u, h.get? b = some u → h'.get? b = some u) (hp : h.objs.size ≤ a) (new : ObjOk P w (upd H a o) h' a o) : HOk P w (upd H a o) h' := fun b u e => by
 have hn := x.fresh hp
 by_cases hb : b = a
 ·subst hb; rw [upd_same] at e; cases e; exact new
 ·rw [upd_ne hb] at e
  exact (x b u e).stay (fun c v _ q => k c v q) (fun c q => by rw [upd_ne (ne_of_none q hn)]; exact q) fun c xs q => by rw [upd_ne (ne_of_none q hn)]; exact q
end
def Rd (H : Hp) (a : Addr) (u : HO) : Prop := H a = some u ∨ ∃ o, H a = some (.frz o u)
theorem Rd.ok {P : Program} {w : World} {H : Hp} {h : Heap} {a : Addr} {u : HO} (r : Rd H a u) (x : HOk P w H h) : ObjOk P w H h a u := by
 rcases r with r | ⟨o, r⟩
 ·exact x a u r
 ·obtain ⟨_, q⟩ := x a _ r
  exact q
def Mut : Option HO → Prop
 | some (.lst _) => True
 | some (.dK _) => True
 | some (.dT _) => True
 | some (.set _ _) => True
 | some (.ins _ _ _) => True
 | some (.ext _) => True
 | _ => False
section
variable {P : Program} {w : World} {H : Hp} {h h' : Heap} {x e : Addr} {o' : HO}
theorem HOk.write (ok : HOk P w H h) (mu : Mut (H x)) (he : e = x ∨ H e = some (.own x)) (k : ∀ b u, b ≠ e → h.get? b = some u → h'.get? b = some u) (heo : ∃ u, h'.get? e = some u)
  (new : ObjOk P w (upd H x o') h' x o') : HOk P w (upd H x o') h' := fun b u q => by
 have nown : ∀ c y, H c = some (.own y) → c ≠ x := fun c y r z => by subst z; rw [r] at mu; exact mu
 have ntup : ∀ c xs, H c = some (.tup xs) → c ≠ x := fun c xs r z => by subst z; rw [r] at mu; exact mu
 by_cases hb : b = x
 ·subst hb; rw [upd_same] at q; cases q; exact new
 ·rw [upd_ne hb] at q
  by_cases hbe : b = e
  ·have q' : H b = some (.own x) := by
    rcases he with z | z
    ·exact absurd (hbe.trans z) hb
    ·rw [hbe]; exact z
   rw [q] at q'; cases q'
   obtain ⟨v, hv⟩ := heo
   exact ⟨v, by rw [hbe]; exact hv⟩
  ·refine (ok b u q).stay (fun c v hc r => k c v ?_ r) (fun c r => by rw [upd_ne (nown c b r)]; exact r) fun c xs r => by rw [upd_ne (ntup c xs r)]; exact r
   rcases hc with rfl | hc
   ·exact hbe
   ·rintro rfl
    rcases he with z | z
    ·exact nown c b hc z
    ·rw [hc] at z; cases z; exact hb rfl
end
structure Un (fs ex : List Addr) (H H' : Hp) (h h' : Heap) : Prop where
 keep : ∀ b o, h.get? b = some o → H b = none → b ∉ fs → b ∉ ex → h'.get? b = some o
 slot : ∀ b o, h.get? b = some o → H b = none → b ∈ fs → b ∉ ex → ∃ sl, h'.get? b = some { o with slots := sl }
 free : ∀ b o, h.get? b = some o → H b = none → b ∉ ex → H' b = none
 there : ∀ b o, h.get? b = some o → b ∉ ex → ∃ o', h'.get? b = some o'
 tups : ∀ b xs, H b = some (.tup xs) → H' b = some (.tup xs)
 frzs : ∀ b o u, H b = some (.frz o u) → H' b = some (.frz o u)
 tbls : ∀ b ps, H b = some (.tbl ps) → ∃ more, H' b = some (.tbl (ps ++ more))
section
variable {fs fs' ex ex' : List Addr} {H H1 H2 : Hp} {h h1 h2 h' : Heap} {a x e : Addr} {o : HO}
theorem Un.any (u : Un fs ex H H1 h h1) {b : Addr} {ob : Obj} (q : h.get? b = some ob) (n : H b = none) (hx : b ∉ ex) : ∃ sl, h1.get? b = some { ob with slots := sl } := by
 by_cases hb : b ∈ fs
 ·exact u.slot b ob q n hb hx
 ·exact ⟨ob.slots, u.keep b ob q n hb hx⟩
theorem Un.kept (k : ∀ b u, h.get? b = some u → h'.get? b = some u) : Un fs ex H H h h' :=
 ⟨fun b ob q _ _ _ => k b ob q, fun b ob q _ _ _ => ⟨ob.slots, k b ob q⟩, fun _ _ _ n _ => n, fun b ob q _ => ⟨ob, k b ob q⟩, fun _ _ q => q, fun _ _ _ q => q, fun _ ps q => ⟨#[], by rw [q]; simp⟩⟩
theorem Un.refl : Un fs ex H H h h := Un.kept fun _ _ q => q
theorem Un.laid (k : ∀ b u, h.get? b = some u → h'.get? b = some u) (hp : h.objs.size ≤ a) (hn : H a = none) : Un fs ex H (upd H a o) h h' where
 keep := fun b u q _ _ _ => k b u q
 slot := fun b u q _ _ _ => ⟨u.slots, k b u q⟩
 free := fun b u q n _ => by rw [upd_ne (Nat.ne_of_lt (Nat.lt_of_lt_of_le (Heap.lt_size q) hp))]; exact n
 there := fun b u q _ => ⟨u, k b u q⟩
 tups := fun b xs q => by rw [upd_ne (ne_of_none q hn)]; exact q
 frzs := fun b u xs q => by rw [upd_ne (ne_of_none q hn)]; exact q
 tbls := fun b ps q => ⟨#[], by rw [upd_ne (ne_of_none q hn), q]; simp⟩
theorem Un.write (mu : Mut (H x)) (he : e = x ∨ H e = some (.own x)) (k : ∀ b u, b ≠ e → h.get? b = some u → h'.get? b = some u) (heo : ∃ u, h'.get? e = some u) : Un fs ex H (upd H x o) h h' := by
 have hx : ∀ b, H b = none → b ≠ x := fun b n z => by subst z; rw [n] at mu; exact mu
 have hb : ∀ b, H b = none → b ≠ e := fun b n z => by
  subst z
  rcases he with r | r
  ·exact hx b n r
  ·rw [n] at r; cases r
 have hm : ∀ b u, H b = some u → ¬ Mut (some u) → b ≠ x := fun b u q nm z => by subst z; rw [q] at mu; exact nm mu
 refine ⟨fun b u q n _ _ => k b u (hb b n) q, fun b u q n _ _ => ⟨u.slots, k b u (hb b n) q⟩, fun b u q n _ => by rw [upd_ne (hx b n)]; exact n, fun b u q _ => ?_,
  fun b xs q => by rw [upd_ne (hm b _ q fun z => z)]; exact q, fun b u xs q => by rw [upd_ne (hm b _ q fun z => z)]; exact q, fun b ps q => ⟨#[], by rw [upd_ne (hm b _ q fun z => z), q]; simp⟩⟩
 by_cases hbe : b = e
 ·subst hbe; exact heo
 ·exact ⟨u, k b u hbe q⟩
end
def trk (h : Heap) (H : Hp) : List Addr := (List.range h.objs.size).filter fun a => (H a).isSome
def hidT (h : Heap) (H : Hp) : Heap := PySem.W.hideAll h (trk h H)
theorem hidT_size (h : Heap) (H : Hp) : (hidT h H).objs.size = h.objs.size := PySem.W.hideAll_size _ _
theorem hidT_get {h : Heap} {H : Hp} {b : Addr} {o : Obj} (e : h.get? b = some o) (n : H b = none) : (hidT h H).get? b = some o :=
 PySem.W.hideAll_get _ e fun hm => by
  have q : (H b).isSome = true := (List.mem_filter.mp hm).2
  rw [n] at q; simp at q
theorem of_hidT {h : Heap} {H : Hp} {b : Addr} {o : Obj} (e : (hidT h H).get? b = some o) : h.get? b = some o ∧ H b = none := by
 have e' : h.get? b = some o := PySem.W.of_hideAll (trk h H) e
 refine ⟨e', ?_⟩
 cases q : H b with
 | none => rfl
 | some x =>
  have hm : b ∈ trk h H := List.mem_filter.mpr ⟨List.mem_range.mpr (Heap.lt_size e'), by simp [q]⟩
  have z : (hidT h H).get? b = none := PySem.W.hideAll_none (trk h H) hm
  rw [z] at e; cases e
structure Mod (K : Fg) (mg : Str → Option Value) (base : Heap) : Prop where
 kin : K.In base
 glob : base.Ns mainGlobals mg
 blt : ∃ mb, base.Ns builtinsNs mb ∧ ∀ x : Str, x ≠ "__name__" → mb x = bootBuiltins x
 nolimit : base.NoLimit
set_option genInjectivity false in
set_option genInjectivity false in
structure Cx where
 prog : Program
 w : World
 K : Fg
 mg : Str → Option Value
 base : Heap
 A : Around
 N : List Str
 s₀ : Shared
 H₀ : Hp
 env : Env
 outer : List Env
 stack : List Env
 ex : List Addr
 fn : Str → Bool
 calm : Bool
 pn : List (Addr × Obj)
 xe : Value → Shared → Prop
def frs (l : List Env) : List Addr := l.filterMap (·.frame)
abbrev Cx.fs (X : Cx) : List Addr := frs X.outer
def Vis (sc : Scope) (x : Str) : Prop := sc.names.lookup x = some .local ∨ sc.names.lookup x = some .cell ∨ sc.names.lookup x = some .free
def Loc (sc : Scope) (x : Str) : Prop := sc.names.lookup x = some .local ∨ sc.names.lookup x = some .cell
def Look (env : Env) (h : Heap) (m : Str → Option Value) (x : Str) (u : Value) : Prop :=
 (env.kindOf x = some .local ∧ m x = some u) ∨ ((env.kindOf x = some .cell ∨ env.kindOf x = some .free) ∧ ∃ c, env.cells.lookup x = some c ∧ h.IsCell c (some u))
structure Cx.Ok (X : Cx) : Prop where
 mod : Mod X.K X.mg X.base
 kind : X.env.scope.kind = .function
 glob : X.env.globals = mainGlobals
 blt : X.env.builtins = builtinsNs
 above : X.s₀.heap.objs.size ≤ X.env.locals
 inj : ∀ x y c, X.env.cells.lookup x = some c → X.env.cells.lookup y = some c → x = y
 has : ∀ x, (X.env.kindOf x = some .cell ∨ X.env.kindOf x = some .free) → ∃ c, X.env.cells.lookup x = some c
 cab : ∀ x c, X.fn x = true → X.env.cells.lookup x = some c → X.s₀.heap.objs.size ≤ c
 hd : X.calm = true → X.A.handled = none
 frames : X.A.frames = some X.stack
 stk : X.stack = X.outer ∨ (X.stack = X.env :: X.outer ∧ X.env.frame = some X.env.locals)
 exf : ∀ b ∈ X.ex, b ≠ X.env.locals ∧ ∀ x c, X.env.cells.lookup x = some c → c ≠ b
 bs : ∀ b o, X.base.get? b = some o → X.s₀.heap.get? b = some o ∧ X.H₀ b = none
 bsz : X.base.objs.size ≤ X.s₀.heap.objs.size
 noex : ∀ b o, X.base.get? b = some o → b ∉ X.ex
 exfs : ∀ b ∈ X.ex, b ∉ X.fs
 funs : X.s₀.heap.FunFrames X.base X.outer
 frf : ∀ b ∈ X.fs, X.H₀ b = none
structure Inv (X : Cx) (pins : List (Addr × Obj)) (σ : List (Option V)) (H : Hp) (s : Shared) : Prop where
 ok : X.Ok
 os : s.os = X.s₀.os
 bare : AllBare s.gens
 base : Un X.fs X.ex X.H₀ H X.s₀.heap s.heap
 loc : ∃ m, s.heap.Ns X.env.locals m ∧ ∀ (i : Nat) (x : Str) (v : V), X.N[i]? = some x → σ[i]? = some (some v) → Vis X.env.scope x → ∃ u, RelV v u ∧ Look X.env s.heap m x u
 cell : ∀ x c, X.env.cells.lookup x = some c → ∃ v, s.heap.IsCell c v
 free : H X.env.locals = none
 freeC : ∀ x c, X.env.cells.lookup x = some c → H c = none
 pin : ∀ p ∈ X.pn ++ pins, s.heap.get? p.1 = some p.2 ∧ H p.1 = none ∧ p.1 ≠ X.env.locals ∧ p.1 ∉ X.fs ∧ ∀ v, p.2.data ≠ .cell v
 hok : HOk X.prog X.w H s.heap
 len : σ.length = X.N.length
section
variable {X : Cx} {pins : List (Addr × Obj)} {σ : List (Option V)} {H H' : Hp} {s : Shared} {h' : Heap}
theorem Cx.Ok.nofr (ok : X.Ok) {b : Addr} {o : Obj} (e : X.base.get? b = some o) : b ∉ X.fs := fun hb => by
 have := (ok.funs.mem hb).1
 rw [e] at this; cases this
theorem Inv.bs (I : Inv X pins σ H s) : ∀ b o, X.base.get? b = some o → s.heap.get? b = some o ∧ H b = none := fun b o e =>
 ⟨I.base.keep b o (I.ok.bs b o e).1 (I.ok.bs b o e).2 (I.ok.nofr e) (I.ok.noex b o e), I.base.free b o (I.ok.bs b o e).1 (I.ok.bs b o e).2 (I.ok.noex b o e)⟩
theorem Inv.bk (I : Inv X pins σ H s) : ∀ b o, X.base.get? b = some o → s.heap.get? b = some o := fun b o e => (I.bs b o e).1
theorem Inv.mod (I : Inv X pins σ H s) : Mod X.K X.mg X.base := I.ok.mod
theorem Inv.kIn (I : Inv X pins σ H s) : X.K.In s.heap := I.ok.mod.kin.keeps I.bk
theorem Inv.lt (I : Inv X pins σ H s) : X.env.locals < s.heap.objs.size := by obtain ⟨_, hn, _⟩ := I.loc; exact hn.lt
theorem Inv.sz (I : Inv X pins σ H s) : X.s₀.heap.objs.size ≤ s.heap.objs.size := Nat.le_trans I.ok.above (Nat.le_of_lt I.lt)
theorem Inv.nofs (I : Inv X pins σ H s) {a : Addr} (h : s.heap.objs.size ≤ a) : a ∉ X.fs := fun hb => by
 obtain ⟨_, o, ho, _⟩ := I.ok.funs.mem hb
 exact absurd (Nat.lt_of_lt_of_le (Heap.lt_size ho) (Nat.le_trans I.sz h)) (Nat.lt_irrefl _)
theorem Inv.cne (I : Inv X pins σ H s) : ∀ x c, X.env.cells.lookup x = some c → c ≠ X.env.locals := fun x c e z => by
 obtain ⟨v, o, ho, hd⟩ := I.cell x c e
 obtain ⟨m, ⟨o', es, ep, ho', hd', _⟩, _⟩ := I.loc
 rw [z, ho'] at ho; cases ho; rw [hd'] at hd; cases hd
theorem Inv.funs (I : Inv X pins σ H s) : s.heap.FunFrames X.base X.outer := by
 have all : ∀ (l : List Env), (∀ b ∈ frs l, b ∈ X.fs) → X.s₀.heap.FunFrames X.base l → s.heap.FunFrames X.base l := by
  intro l
  induction l with
  | nil => intro _ _; trivial
  | cons env r ih =>
   intro hs hl
   obtain ⟨hk, ⟨L, o, hf, hn, ho, hd⟩, hr⟩ := hl
   have hL : L ∈ X.fs := hs L (by unfold frs; rw [List.filterMap_cons, hf]; exact List.mem_cons_self)
   obtain ⟨sl, e⟩ := I.base.slot L o ho (I.ok.frf L hL) hL fun z => I.ok.exfs L z hL
   exact ⟨hk, ⟨L, _, hf, hn, e, hd⟩, ih (fun b hb => hs b (by unfold frs; rw [List.filterMap_cons, hf]; exact List.mem_cons_of_mem _ hb)) hr⟩
 exact all X.outer (fun _ hb => hb) I.ok.funs
theorem Inv.stack (I : Inv X pins σ H s) : s.heap.FunFrames X.base X.stack := by
 rcases I.ok.stk with e | ⟨e, hf⟩
 ·rw [e]; exact I.funs
 ·rw [e]
  obtain ⟨m, hn, _⟩ := I.loc
  refine .cons (by rw [I.ok.kind]; decide) hf hn ?_ I.funs
  exact Heap.get?_none_of_le (Nat.le_trans I.ok.bsz I.ok.above)
theorem Inv.stkSub (I : Inv X pins σ H s) : ∀ b ∈ frs X.stack, b ∈ X.env.locals :: X.fs := fun b hb => by
 rcases I.ok.stk with e | ⟨e, hf⟩
 ·rw [e] at hb; exact List.mem_cons_of_mem _ hb
 ·rw [e] at hb
  unfold frs at hb
  rw [List.filterMap_cons, hf] at hb
  exact hb
theorem Inv.stkFree (I : Inv X pins σ H s) : ∀ b ∈ frs X.stack, H b = none := fun b hb => by
 rcases List.mem_cons.mp (I.stkSub b hb) with e | hb
 ·rw [e]; exact I.free
 ·obtain ⟨_, o, ho, _⟩ := I.ok.funs.mem hb
  exact I.base.free b o ho (I.ok.frf b hb) fun z => I.ok.exfs b z hb
theorem Inv.step {g' : Array GenState} {t' : Nat} {d' : Drawn} {ch : List Addr} (I : Inv X pins σ H s)
  (hch : ∀ b ∈ ch, (b ∈ X.ex ∨ X.s₀.heap.objs.size ≤ b) ∧ b ≠ X.env.locals ∧ (∀ x c, X.env.cells.lookup x = some c → c ≠ b) ∧ ∀ p ∈ X.pn ++ pins, p.1 ≠ b)
  (keep : ∀ b o, b ≠ X.env.locals → b ∉ X.fs → b ∉ ch → s.heap.get? b = some o → H b = none → h'.get? b = some o)
  (slot : ∀ b o, b ≠ X.env.locals → b ∈ X.fs → b ∉ ch → s.heap.get? b = some o → H b = none → ∃ sl, h'.get? b = some { o with slots := sl }) (free : ∀ b o, b ∉ ch → s.heap.get? b = some o → H b = none → H' b = none)
  (there : ∀ b o, b ∉ ch → s.heap.get? b = some o → ∃ o', h'.get? b = some o')
  (tups : ∀ b xs, H b = some (.tup xs) → H' b = some (.tup xs)) (frzs : ∀ b o u, H b = some (.frz o u) → H' b = some (.frz o u)) (tbls : ∀ b ps, H b = some (.tbl ps) → ∃ more, H' b = some (.tbl (ps ++ more)))
  (ns : ∀ m, s.heap.Ns X.env.locals m → h'.Ns X.env.locals m) (hok : HOk X.prog X.w H' h') (hg : AllBare g') :
  Inv X pins σ H' { s with heap := h', gens := g', drawn := d', toks := t' } := by
 have neL : ∀ b o, X.s₀.heap.get? b = some o → b ≠ X.env.locals := fun b o e => Nat.ne_of_lt (Nat.lt_of_lt_of_le (Heap.lt_size e) I.ok.above)
 have neC : ∀ b o, X.s₀.heap.get? b = some o → b ∉ X.ex → b ∉ ch := fun b o e hx hb => by
  rcases (hch b hb).1 with z | z
  ·exact hx z
  ·exact absurd (Nat.lt_of_lt_of_le (Heap.lt_size e) z) (Nat.lt_irrefl _)
 have cellK : ∀ x c, X.env.cells.lookup x = some c → ∀ v, s.heap.IsCell c v → h'.IsCell c v := fun x c e v ⟨o, ho, hd⟩ => by
  have nch : c ∉ ch := fun z => (hch c z).2.2.1 x c e rfl
  by_cases hc : c ∈ X.fs
  ·obtain ⟨sl, q⟩ := slot c o (I.cne x c e) hc nch ho (I.freeC x c e)
   exact ⟨_, q, hd⟩
  ·exact ⟨o, keep c o (I.cne x c e) hc nch ho (I.freeC x c e), hd⟩
 refine ⟨I.ok, I.os, hg, ⟨fun b o e n hb hx => ?_, fun b o e n hb hx => ?_, fun b o e n hx => ?_, fun b o e hx => ?_, fun b xs e => tups b xs (I.base.tups b xs e), fun b o xs e => frzs b o xs (I.base.frzs b o xs e), fun b ps e => ?_⟩, ?_, fun x c e => ?_, ?_, fun x c e => ?_, fun p hp => ?_, hok, I.len⟩
 ·exact keep b o (neL b o e) hb (neC b o e hx) (I.base.keep b o e n hb hx) (I.base.free b o e n hx)
 ·obtain ⟨sl, e1⟩ := I.base.slot b o e n hb hx
  obtain ⟨sl', e2⟩ := slot b _ (neL b o e) hb (neC b o e hx) e1 (I.base.free b o e n hx)
  exact ⟨sl', e2⟩
 ·obtain ⟨o', e1⟩ := I.base.there b o e hx
  exact free b o' (neC b o e hx) e1 (I.base.free b o e n hx)
 ·obtain ⟨o', e1⟩ := I.base.there b o e hx
  exact there b o' (neC b o e hx) e1
 ·obtain ⟨m1, e1⟩ := I.base.tbls b ps e
  obtain ⟨m2, e2⟩ := tbls b _ e1
  exact ⟨m1 ++ m2, by rw [e2, Array.append_assoc]⟩
 ·obtain ⟨m, hn, hl⟩ := I.loc
  refine ⟨m, ns m hn, fun i x v e1 e2 e3 => ?_⟩
  obtain ⟨u, r, l⟩ := hl i x v e1 e2 e3
  refine ⟨u, r, ?_⟩
  rcases l with l | ⟨k, c, e, z⟩
  ·exact .inl l
  ·exact .inr ⟨k, c, e, cellK x c e _ z⟩
 ·obtain ⟨v, z⟩ := I.cell x c e
  exact ⟨v, cellK x c e v z⟩
 ·obtain ⟨m, ⟨o, _, _, ho, _⟩, _⟩ := I.loc
  exact free _ o (fun z => (hch _ z).2.1 rfl) ho I.free
 ·obtain ⟨v, o, ho, hd⟩ := I.cell x c e
  exact free c o (fun z => (hch c z).2.2.1 x c e rfl) ho (I.freeC x c e)
 ·obtain ⟨e, n, ne, nf, d⟩ := I.pin p hp
  have nch : p.1 ∉ ch := fun z => (hch p.1 z).2.2.2 p hp rfl
  exact ⟨keep p.1 p.2 ne nf nch e n, free p.1 p.2 nch e n, ne, nf, d⟩
theorem Inv.un {t' : Nat} (I : Inv X pins σ H s) (u : Un X.fs [] H H' s.heap h') (hok : HOk X.prog X.w H' h') : Inv X pins σ H' { s with heap := h', toks := t' } := by
 obtain ⟨m, ⟨o, es, ep, ho, r⟩, _⟩ := id I.loc
 obtain ⟨sl, hL⟩ := u.any ho I.free (by simp)
 exact I.step (g' := s.gens) (d' := s.drawn) (ch := []) (fun _ z => nomatch z) (fun b o _ hb _ e n => u.keep b o e n hb (by simp)) (fun b o _ hb _ e n => u.slot b o e n hb (by simp)) (fun b o _ e n => u.free b o e n (by simp)) (fun b o _ e => u.there b o e (by simp)) u.tups u.frzs u.tbls (fun m' hm => by
  obtain ⟨o', es', ep', ho', r'⟩ := hm
  rw [ho] at ho'; cases ho'
  exact ⟨_, es', ep', hL, r'⟩) hok I.bare
theorem Inv.call {g' : Array GenState} {t' : Nat} {d' : Drawn} {ch : List Addr} (I : Inv X pins σ H s) (u : Un (frs X.stack) ch H H' s.heap h') (hok : HOk X.prog X.w H' h') (hg : AllBare g')
  (hch : ∀ b ∈ ch, (b ∈ X.ex ∨ X.s₀.heap.objs.size ≤ b) ∧ b ≠ X.env.locals ∧ (∀ x c, X.env.cells.lookup x = some c → c ≠ b) ∧ ∀ p ∈ X.pn ++ pins, p.1 ≠ b) :
  Inv X pins σ H' { s with heap := h', gens := g', drawn := d', toks := t' } := by
 obtain ⟨m, ⟨o, es, ep, ho, r⟩, _⟩ := id I.loc
 obtain ⟨sl, hL⟩ := u.any ho I.free fun z => (hch _ z).2.1 rfl
 exact I.step (ch := ch) hch (fun b o hL hb hc e n => u.keep b o e n (fun z => (List.mem_cons.mp (I.stkSub b z)).elim hL hb) hc) (fun b o _ _ hc e n => u.any e n hc) (fun b o hc e n => u.free b o e n hc) (fun b o hc e => u.there b o e hc) u.tups u.frzs u.tbls (fun m' hm => by
  obtain ⟨o', es', ep', ho', r'⟩ := hm
  rw [ho] at ho'; cases ho'
  exact ⟨_, es', ep', hL, r'⟩) hok hg
theorem Inv.turned {t' : Nat} {it : Addr} (I : Inv X pins σ H s) (k : ∀ b o, b ≠ it → s.heap.get? b = some o → h'.get? b = some o) (hn : H it = none) (hL : it ≠ X.env.locals)
  (h1 : it ∈ X.ex ∨ X.s₀.heap.objs.size ≤ it) (h2 : ∀ x c, X.env.cells.lookup x = some c → c ≠ it) (h3 : ∀ p ∈ X.pn ++ pins, p.1 ≠ it) : Inv X pins σ H { s with heap := h', toks := t' } := by
 have nit : ∀ b u, H b = some u → b ≠ it := fun b u e z => by rw [z, hn] at e; cases e
 refine I.step (g' := s.gens) (d' := s.drawn) (ch := [it]) (fun b hb => ?_) (fun b o _ _ hc e _ => k b o (fun z => hc (by simp [z])) e) (fun b o _ _ hc e _ => ⟨o.slots, k b o (fun z => hc (by simp [z])) e⟩) (fun _ _ _ _ n => n)
  (fun b o hc e => ⟨o, k b o (fun z => hc (by simp [z])) e⟩) (fun _ _ e => e) (fun _ _ _ e => e) (fun b ps e => ⟨#[], by rw [e]; simp⟩) (fun m hm => ?_) (fun b u e => ?_) I.bare
 ·have e : b = it := by simpa using hb
  subst e
  exact ⟨h1, hL, h2, h3⟩
 ·obtain ⟨o, es, ep, ho, r⟩ := hm
  exact ⟨o, es, ep, k _ o (Ne.symm hL) ho, r⟩
 ·refine (I.hok b u e).stay (fun c v hc q => k c v ?_ q) (fun _ q => q) fun _ _ q => q
  rcases hc with z | z
  ·rw [z]; exact nit b u e
  ·exact nit c _ z
theorem Inv.tok (I : Inv X pins σ H s) (t : Nat) : Inv X pins σ H { s with toks := t } := I.un (h' := s.heap) (t' := t) Un.refl I.hok
theorem Inv.kept {t' : Nat} (I : Inv X pins σ H s) (k : ∀ b u, s.heap.get? b = some u → h'.get? b = some u) : Inv X pins σ H { s with heap := h', toks := t' } := I.un (Un.kept k) (I.hok.kept k)
theorem Inv.laid {a : Addr} {o : HO} {t' : Nat} (I : Inv X pins σ H s) (k : ∀ b u, s.heap.get? b = some u → h'.get? b = some u) (hp : s.heap.objs.size ≤ a) (new : ObjOk X.prog X.w (upd H a o) h' a o) :
  Inv X pins σ (upd H a o) { s with heap := h', toks := t' } := I.un (Un.laid k hp (I.hok.fresh hp)) (I.hok.laid k hp new)
theorem Inv.write {x e : Addr} {o : HO} {t' : Nat} (I : Inv X pins σ H s) (mu : Mut (H x)) (he : e = x ∨ H e = some (.own x)) (k : ∀ b u, b ≠ e → s.heap.get? b = some u → h'.get? b = some u) (heo : ∃ u, h'.get? e = some u)
  (new : ObjOk X.prog X.w (upd H x o) h' x o) : Inv X pins σ (upd H x o) { s with heap := h', toks := t' } := I.un (Un.write mu he k heo) (I.hok.write mu he k heo new)
theorem Inv.pins_of {pins' : List (Addr × Obj)} (I : Inv X pins σ H s) (h : ∀ p ∈ pins', s.heap.get? p.1 = some p.2 ∧ H p.1 = none ∧ p.1 ≠ X.env.locals ∧ p.1 ∉ X.fs ∧ ∀ v, p.2.data ≠ .cell v) : Inv X pins' σ H s :=
 ⟨I.ok, I.os, I.bare, I.base, I.loc, I.cell, I.free, I.freeC, fun p hp => (List.mem_append.mp hp).elim (fun z => I.pin p (List.mem_append_left _ z)) (h p), I.hok, I.len⟩
theorem nodup_ix {N : List Str} (hN : N.Nodup) {i j : Nat} {x : Str} (a : N[i]? = some x) (b : N[j]? = some x) : i = j := by
 obtain ⟨h1, e1⟩ := List.getElem?_eq_some_iff.mp a
 obtain ⟨h2, e2⟩ := List.getElem?_eq_some_iff.mp b
 exact (List.getElem_inj hN).mp (e1.trans e2.symm)
theorem store_ok2 {M : Model} {A : Around} {E : Value → Shared → Prop} {i : Nat} {x : Str} {v : V} {u : Value} {Q : Unit → Shared → Prop} (I : Inv X pins σ H s) (hN : X.N.Nodup) (hi : X.N[i]? = some x) (hx : Loc X.env.scope x) (r : RelV v u)
  (h : ∀ s', Inv X pins (σ.set i (some v)) H s' → (∃ a, Heap.SameBut a s.heap s'.heap ∧ (a = X.env.locals ∨ X.env.cells.lookup x = some a)) → Q () s') (hf : autoParam (X.fn x = true ∨ X.env.scope.names.lookup x = some .local) L2.aFst._auto_1) : wpAny M A (storeName X.env x u) Q E s := by
 obtain ⟨m, hn, hl⟩ := id I.loc
 have hcls : (X.env.scope.kind == .class || (X.env.scope.kind == .module && X.env.locals != X.env.globals)) = false := by rw [I.ok.kind]; rfl
 have hiσ : i < σ.length := by rw [I.len]; exact (List.getElem?_eq_some_iff.mp hi).1
 have cne := I.cne
 have tracked : ∀ {a : Addr} {h' : Heap}, (∃ o, s.heap.get? a = some o ∧ H a = none) → Heap.SameBut a s.heap h' → HOk X.prog X.w H h' := fun {a h'} ha hs b ob e => by
  obtain ⟨_, _, hfree⟩ := ha
  refine (I.hok b ob e).stay (fun c w' hc q => (hs.2 c ?_).trans q) (fun _ q => q) fun _ _ q => q
  rintro rfl
  rcases hc with rfl | hc
  ·rw [hfree] at e; cases e
  ·rw [hfree] at hc; cases hc
 rcases hx with hk | hk
 ·refine wpAny_storeName_local hk hn (fun h' hn' hs => ?_) hcls
  obtain ⟨oL, _, _, hoL, _⟩ := id hn
  refine h _ ⟨I.ok, I.os, I.bare, ⟨fun b o e n hb hx => ?_, fun b o e n hb hx => ?_, I.base.free, fun b o e hx => ?_, I.base.tups, I.base.frzs, I.base.tbls⟩, ⟨_, hn', fun j y v' e1 e2 e3 => ?_⟩, fun y c e => ?_, I.free, I.freeC, fun p hp => ?_, tracked ⟨oL, hoL, I.free⟩ hs, by simpa using I.len⟩ ⟨_, hs, .inl rfl⟩
  ·exact (hs.2 b (Nat.ne_of_lt (Nat.lt_of_lt_of_le (Heap.lt_size e) I.ok.above))).trans (I.base.keep b o e n hb hx)
  ·obtain ⟨sl, e1⟩ := I.base.slot b o e n hb hx
   exact ⟨sl, (hs.2 b (Nat.ne_of_lt (Nat.lt_of_lt_of_le (Heap.lt_size e) I.ok.above))).trans e1⟩
  ·obtain ⟨o', e1⟩ := I.base.there b o e hx
   exact ⟨o', (hs.2 b (Nat.ne_of_lt (Nat.lt_of_lt_of_le (Heap.lt_size e) I.ok.above))).trans e1⟩
  ·by_cases hj : j = i
   ·subst hj
    rw [hi] at e1; cases e1
    rw [List.getElem?_set_self hiσ] at e2
    cases e2
    exact ⟨u, r, .inl ⟨hk, by simp⟩⟩
   ·rw [List.getElem?_set_ne (Ne.symm hj)] at e2
    obtain ⟨u', r', q⟩ := hl j y v' e1 e2 e3
    refine ⟨u', r', ?_⟩
    rcases q with ⟨k, e⟩ | ⟨k, c, e, z⟩
    ·refine .inl ⟨k, ?_⟩
     have : y ≠ x := fun e => hj (nodup_ix hN e1 (e ▸ hi))
     simp [this, e]
    ·exact .inr ⟨k, c, e, z.sameBut hs (cne y c e)⟩
  ·obtain ⟨w', z⟩ := I.cell y c e
   exact ⟨w', z.sameBut hs (cne y c e)⟩
  ·obtain ⟨e, n, ne, nf, d⟩ := I.pin p hp
   exact ⟨(hs.2 p.1 ne).trans e, n, ne, nf, d⟩
 ·have hfn : X.fn x = true := by
   rcases hf with z | z
   ·exact z
   ·rw [z] at hk; cases hk
  obtain ⟨c, hc⟩ := I.ok.has x (.inl hk)
  obtain ⟨w', z⟩ := I.cell x c hc
  refine wpAny_storeName_cell I.ok.kind hk hc z (fun h' hc' hs => ?_)
  obtain ⟨oc, hoc, hocd⟩ := id z
  refine h { s with heap := h' } ⟨I.ok, I.os, I.bare, ⟨fun b o e n hb hx => ?_, fun b o e n hb hx => ?_, I.base.free, fun b o e hx => ?_, I.base.tups, I.base.frzs, I.base.tbls⟩, ⟨m, hn.sameBut hs (Ne.symm (cne x c hc)), fun j y v' e1 e2 e3 => ?_⟩, fun y c' e => ?_, I.free, I.freeC, fun p hp => ?_, tracked ⟨oc, hoc, I.freeC x c hc⟩ hs, by simpa using I.len⟩ ⟨c, hs, .inr hc⟩
  ·exact (hs.2 b (Nat.ne_of_lt (Nat.lt_of_lt_of_le (Heap.lt_size e) (I.ok.cab x c hfn hc)))).trans (I.base.keep b o e n hb hx)
  ·obtain ⟨sl, e1⟩ := I.base.slot b o e n hb hx
   exact ⟨sl, (hs.2 b (Nat.ne_of_lt (Nat.lt_of_lt_of_le (Heap.lt_size e) (I.ok.cab x c hfn hc)))).trans e1⟩
  ·obtain ⟨o', e1⟩ := I.base.there b o e hx
   exact ⟨o', (hs.2 b (Nat.ne_of_lt (Nat.lt_of_lt_of_le (Heap.lt_size e) (I.ok.cab x c hfn hc)))).trans e1⟩
  ·by_cases hj : j = i
   ·subst hj
    rw [hi] at e1; cases e1
    rw [List.getElem?_set_self hiσ] at e2
    cases e2
    exact ⟨u, r, .inr ⟨.inl hk, c, hc, hc'⟩⟩
   ·rw [List.getElem?_set_ne (Ne.symm hj)] at e2
    obtain ⟨u', r', q⟩ := hl j y v' e1 e2 e3
    refine ⟨u', r', ?_⟩
    rcases q with q | ⟨k, c', e, z'⟩
    ·exact .inl q
    ·refine .inr ⟨k, c', e, z'.sameBut hs ?_⟩
     rintro rfl
     exact hj (nodup_ix hN e1 (I.ok.inj _ _ _ e hc ▸ hi))
  ·by_cases hcc : c' = c
   ·subst hcc; exact ⟨_, hc'⟩
   ·obtain ⟨w2, z2⟩ := I.cell y c' e
    exact ⟨w2, z2.sameBut hs hcc⟩
  ·obtain ⟨e, n, ne, nf, d⟩ := I.pin p hp
   refine ⟨(hs.2 p.1 ?_).trans e, n, ne, nf, d⟩
   intro q
   rw [q, hoc] at e
   have q' : oc = p.2 := Option.some.inj e
   exact d w' (by rw [← q']; exact hocd)
theorem store_ok {M : Model} {A : Around} {E : Value → Shared → Prop} {i : Nat} {x : Str} {v : V} {u : Value} {Q : Unit → Shared → Prop} (I : Inv X pins σ H s) (hN : X.N.Nodup) (hi : X.N[i]? = some x) (hx : Loc X.env.scope x) (r : RelV v u)
  (h : ∀ s', Inv X pins (σ.set i (some v)) H s' → Q () s') (hf : autoParam (X.fn x = true ∨ X.env.scope.names.lookup x = some .local) L2.aFst._auto_1) : wpAny M A (storeName X.env x u) Q E s :=
 store_ok2 I hN hi hx r (fun s' I' _ => h s' I') hf
theorem Inv.call' {s' : Shared} {ch : List Addr} (I : Inv X pins σ H s) (ho : s'.os = s.os) (u : Un (frs X.stack) ch H H' s.heap s'.heap) (hok : HOk X.prog X.w H' s'.heap) (hg : AllBare s'.gens)
  (hch : ∀ b ∈ ch, (b ∈ X.ex ∨ X.s₀.heap.objs.size ≤ b) ∧ b ≠ X.env.locals ∧ (∀ x c, X.env.cells.lookup x = some c → c ≠ b) ∧ ∀ p ∈ X.pn ++ pins, p.1 ≠ b) : Inv X pins σ H' s' := by
 obtain ⟨h', g', d', t', o'⟩ := s'
 have e : o' = s.os := ho
 subst e
 exact I.call (g' := g') (t' := t') (d' := d') u hok hg hch
end
abbrev XK := Value → Option Addr → Hp → Prop
abbrev St := List (Option V)
abbrev VK := V → Hp → Prop
abbrev TE := St → Hp → VK → Prop
abbrev TT := St → Hp → (Bool → Hp → Prop) → Prop
abbrev TA := St → Hp → (List V → Hp → Prop) → Prop
set_option genInjectivity false in
set_option genInjectivity false in
structure Ends where
 nx : St → Hp → Prop
 rt : VK
 bk : St → Hp → Prop := fun _ _ => False
 ct : St → Hp → Prop := fun _ _ => False
abbrev TS := Ends → St → Hp → Prop
inductive EP (X : Cx) (pins : List (Addr × Obj)) (σ : St) (Q : VK) (u : Value) (s' : Shared) : Prop
 | mk (v : _) (H' : _) (h1 : Inv X pins σ H' s') (h2 : RelV v u) (h3 : Q v H')
inductive TP (X : Cx) (pins : List (Addr × Obj)) (σ : St) (Q : Bool → Hp → Prop) (b : Bool) (s' : Shared) : Prop
 | mk (H' : _) (h1 : Inv X pins σ H' s') (h2 : Q b H')
inductive AP (X : Cx) (pins : List (Addr × Obj)) (σ : St) (Q : List V → Hp → Prop) (us : List Value) (s' : Shared) : Prop
 | mk (vs : _) (H' : _) (h1 : Inv X pins σ H' s') (h2 : Vals vs us) (h3 : Q vs H')
def SP (X : Cx) (pins : List (Addr × Obj)) (D : Ends) (f : Flow) (s' : Shared) : Prop :=
 match f with
 | .next => ∃ σ' H', Inv X pins σ' H' s' ∧ D.nx σ' H'
 | .brk => ∃ σ' H', Inv X pins σ' H' s' ∧ D.bk σ' H'
 | .cont => ∃ σ' H', Inv X pins σ' H' s' ∧ D.ct σ' H'
 | .ret u => ∃ v σ' H', Inv X pins σ' H' s' ∧ RelV v u ∧ D.rt v H'
def PE (X : Cx) (e : Expr) (t : TE) : Prop :=
 ∀ (pins : List (Addr × Obj)) (s : Shared) (σ : St) (H : Hp) (Q : VK), Inv X pins σ H s → t σ H Q → wpAny (model X.prog X.w) X.A (eval e X.env) (EP X pins σ Q) X.xe s
def PT (X : Cx) (e : Expr) (t : TT) : Prop :=
 ∀ (pins : List (Addr × Obj)) (s : Shared) (σ : St) (H : Hp) (Q : Bool → Hp → Prop), Inv X pins σ H s → t σ H Q → wpAny (model X.prog X.w) X.A (isTrue e X.env (eval e X.env)) (TP X pins σ Q) X.xe s
def PW (X : Cx) (e : Expr) (t : TT) : Prop :=
 ∀ (whole : Sem Value) (pins : List (Addr × Obj)) (s : Shared) (σ : St) (H : Hp) (Q : Bool → Hp → Prop), Inv X pins σ H s → t σ H Q → wpAny (model X.prog X.w) X.A (isTrue e X.env whole) (TP X pins σ Q) X.xe s
theorem PW.pt {X : Cx} {e : Expr} {t : TT} (h : PW X e t) : PT X e t := h _
def PA (X : Cx) (es : List Expr) (t : TA) : Prop :=
 ∀ (pos : Pos) (pins : List (Addr × Obj)) (s : Shared) (σ : St) (H : Hp) (Q : List V → Hp → Prop), Inv X pins σ H s → t σ H Q → wpAny (model X.prog X.w) X.A (spliced (backTo pos (starEach es X.env))) (AP X pins σ Q) X.xe s
def PS (X : Cx) (st : Stmt) (t : TS) : Prop :=
 ∀ (pins : List (Addr × Obj)) (s : Shared) (σ : St) (H : Hp) (D : Ends), Inv X pins σ H s → t D σ H → wpAny (model X.prog X.w) X.A (exec st X.env) (SP X pins D) X.xe s
def PSs (X : Cx) (st : List Stmt) (t : TS) : Prop :=
 ∀ (pins : List (Addr × Obj)) (s : Shared) (σ : St) (H : Hp) (D : Ends), Inv X pins σ H s → t D σ H → wpAny (model X.prog X.w) X.A (execs st X.env) (SP X pins D) X.xe s
theorem thn {α : Type} {t : Sem α} {Q Q' : α → Shared → Prop} {M : Model} {A : Around} {E : Value → Shared → Prop} {s : Shared} (h : wpAny M A t Q E s) (hQ : ∀ a s, Q a s → Q' a s) : wpAny M A t Q' E s := wpAny_mono h hQ fun _ _ x => x
section
variable {X : Cx}
inductive ItVar (i : Nat) (σ : St) (H : Hp) (Q : VK) : Prop
 | mk (v : _) (h1 : σ[i]? = some (some v)) (h2 : Q v H)
def tVar (i : Nat) : TE := fun σ H Q => ItVar i σ H Q
def tC (v : V) : TE := fun _ H Q => Q v H
theorem pe_var {i : Nat} {x : Str} {pos : Pos} (hN : X.N[i]? = some x) (hv : Vis X.env.scope x) (hd : autoParam ((x == ("__debug__" : Str)) = false) L2.aDec._auto_1) (hcd : autoParam ((x == ("__classdict__" : Str)) = false) L2.aDec._auto_1) : PE X (.Name x pos) (tVar i) := by
 intro pins s σ H Q I h
 obtain ⟨v, e, h⟩ := h
 obtain ⟨m, hn, hl⟩ := I.loc
 obtain ⟨u, r, l⟩ := hl i x v hN e hv
 have fin : EP X pins σ Q u s := ⟨v, H, I, r, h⟩
 rcases l with ⟨hk, hm⟩ | ⟨hk, c, hc, hcell⟩
 ·exact wpAny_Name (wpAny_loadName_local I.ok.kind hk hn hm fin) hd
 ·rcases hk with hk | hk
  ·exact wpAny_Name (wpAny_loadName_cell I.ok.kind hk hc hcell fin) hd
  ·exact wpAny_Name (wpAny_loadName_free I.ok.kind hk hc hcell fin hcd) hd
theorem pe_int {i j pos} : PE X (.Constant (.int i) j pos) (tC (.int i)) := fun _ _ _ H _ I h => wpAny_Constant_int ⟨.int i, H, I.tok _, ⟨_, rfl⟩, h⟩
theorem pe_bl {b j pos} : PE X (.Constant (.bool b) j pos) (tC (.bl b)) := fun _ _ _ H _ I h => Constant_bool ⟨.bl b, H, I, rfl, h⟩
theorem pe_non {j pos} : PE X (.Constant .none j pos) (tC .non) := fun _ _ _ H _ I h => Constant_none ⟨.non, H, I, rfl, h⟩
theorem pe_str {x j pos} : PE X (.Constant (.str x) j pos) (tC (.str x)) := fun _ _ _ H _ I h => Calls.Constant_str ⟨.str x, H, I.tok _, ⟨_, rfl⟩, h⟩
def Gl (X : Cx) (x : Str) : Prop := X.env.kindOf x = some .globalImplicit
theorem ld_glob {E : Value → Shared → Prop} {pins : List (Addr × Obj)} {s : Shared} {σ : St} {H : Hp} {x : Str} {u : Value} {pos : Pos} {Q : Value → Shared → Prop} (I : Inv X pins σ H s) (hg : Gl X x) (hm : X.mg x = some u) (h : Q u s)
  (hd : autoParam ((x == ("__debug__" : Str)) = false) L2.aDec._auto_1) : wpAny (model X.prog X.w) X.A (eval (.Name x pos) X.env) Q E s :=
 Calls.Name_function_global I.ok.kind hg (Calls.loadGlobal_global (by rw [I.ok.glob]; exact I.mod.glob.keeps I.bk) hm h) hd
theorem ld_blt {E : Value → Shared → Prop} {pins : List (Addr × Obj)} {s : Shared} {σ : St} {H : Hp} {x : Str} {u : Value} {pos : Pos} {Q : Value → Shared → Prop} (I : Inv X pins σ H s) (hg : Gl X x) (hm : X.mg x = none) (hv : bootBuiltins x = some u) (h : Q u s)
  (hn : autoParam (x ≠ "__name__") L2.aDec._auto_1) (hd : autoParam ((x == ("__debug__" : Str)) = false) L2.aDec._auto_1) : wpAny (model X.prog X.w) X.A (eval (.Name x pos) X.env) Q E s := by
 obtain ⟨mb, h1, h2⟩ := I.mod.blt
 exact Calls.Name_function_global I.ok.kind hg (Calls.loadGlobal_builtin (by rw [I.ok.glob]; exact I.mod.glob.keeps I.bk) hm (by rw [I.ok.blt]; exact h1.keeps I.bk) ((h2 x hn).trans hv) h) hd
theorem pe_glob {x : Str} {v : V} {u : Value} {pos : Pos} (hg : Gl X x) (hm : X.mg x = some u) (r : RelV v u) (hd : autoParam ((x == ("__debug__" : Str)) = false) L2.aDec._auto_1) : PE X (.Name x pos) (tC v) :=
 fun _ _ _ H _ I h => ld_glob I hg hm ⟨v, H, I, r, h⟩ hd
theorem pe_bltn {x : Str} {v : V} {u : Value} {pos : Pos} (hg : Gl X x) (hm : X.mg x = none) (hv : bootBuiltins x = some u) (r : RelV v u) (hn : autoParam (x ≠ "__name__") L2.aDec._auto_1) (hd : autoParam ((x == ("__debug__" : Str)) = false) L2.aDec._auto_1) : PE X (.Name x pos) (tC v) :=
 fun _ _ _ H _ I h => ld_blt I hg hm hv ⟨v, H, I, r, h⟩ hn hd
variable {a b : Expr} {ta tb : TE} {pos : Pos}
def PC (X : Cx) (op : CmpOp) (a b : Expr) (t : TE) : Prop :=
 ∀ (pins : List (Addr × Obj)) (s : Shared) (σ : St) (H : Hp) (Q : VK), Inv X pins σ H s → t σ H Q →
  wpAny (model X.prog X.w) X.A (eval a X.env) (fun v s₁ => wpAny (model X.prog X.w) X.A (eval b X.env) (fun u s₂ => wpAny (model X.prog X.w) X.A (compareOp op v u) (EP X pins σ Q) X.xe s₂) X.xe s₁) X.xe s
inductive ItB (Q : (Bool → Hp → Prop)) (x : V) (H1 : Hp) : Prop
 | mk (c : _) (h1 : x = .bl c) (h2 : Q c H1)
def tB (t : TE) : TT := fun σ H Q => t σ H fun x H1 => ItB Q x H1
theorem pe_cmp {op : CmpOp} {t : TE} (h : PC X op a b t) (h1 : behindInMarks op b = false := by first | exact nobehind _ (by decide) (by decide) | rfl) : PE X (.Compare a [op] [b] pos) t := fun pins s σ H Q I hw => wpAny_Compare1 (h pins s σ H Q I hw) h1
theorem pt_cmp {op : CmpOp} {t : TE} (h : PC X op a b t) (h1 : behindInMarks op b = false := by first | exact nobehind _ (by decide) (by decide) | rfl) : PT X (.Compare a [op] [b] pos) (tB t) := by
 intro pins s σ H Q I hw
 refine wpAny_isTrue_Compare1 (thn (h pins s σ H _ I hw) fun v s1 h1 => thn h1 fun u s2 h2 => thn h2 fun c s3 hqP => ?_) h1
 obtain ⟨x, H1, I1, r1, q1⟩ := hqP
 obtain ⟨d, rfl, q⟩ := q1
 cases r1
 exact wpAny_truthy_bool ⟨H1, I1, q⟩
theorem pt_val {e : Expr} {t : TE} (h : PE X e t) (he : autoParam (∀ whole, isTrue e X.env whole = (do let v ← whole; standAt e.pos; holding [v] (truthy v))) L2.aIrf._auto_1) : PT X e (tB t) := by
 intro pins s σ H Q I hw
 refine isTrue_plain (thn (h pins s σ H _ I hw) fun v s1 hqP => ?_) (he _)
 obtain ⟨x, H1, I1, r1, q1⟩ := hqP
 obtain ⟨d, rfl, q⟩ := q1
 cases r1
 exact wpAny_truthy_bool ⟨H1, I1, q⟩
variable {tA tB' : TT} {rest : List Expr}
def tAnd (t u : TT) : TT := fun σ H Q => t σ H fun c H1 => if c = true then u σ H1 Q else Q false H1
def tOr (t u : TT) : TT := fun σ H Q => t σ H fun c H1 => if c = true then Q true H1 else u σ H1 Q
def tNot (t : TT) : TT := fun σ H Q => t σ H fun c H1 => Q (!c) H1
theorem pw_and1 (ha : PT X a tA) : PW X (.BoolOp .And [a] pos) tA := by
 intro wh pins s σ H Q I h
 refine isTrue_and (thn (ha pins s σ H Q I h) fun c s1 e => ?_)
 cases c with
 | true => exact isTrue_and_nil e
 | false => exact e
theorem pw_or1 (ha : PT X a tA) : PW X (.BoolOp .Or [a] pos) tA := by
 intro wh pins s σ H Q I h
 refine isTrue_or (thn (ha pins s σ H Q I h) fun c s1 e => ?_)
 cases c with
 | false => exact isTrue_or_nil e
 | true => exact e
theorem pw_and (ha : PT X a tA) (hb : PW X (.BoolOp .And (b :: rest) pos) tB') : PW X (.BoolOp .And (a :: b :: rest) pos) (tAnd tA tB') := by
 intro wh pins s σ H Q I h
 refine isTrue_and (thn (ha pins s σ H _ I h) fun c s1 hqP => ?_)
 obtain ⟨H1, I1, q1⟩ := hqP
 cases c with
 | true => exact hb wh pins s1 σ H1 Q I1 q1
 | false => exact ⟨H1, I1, q1⟩
theorem pw_or (ha : PT X a tA) (hb : PW X (.BoolOp .Or (b :: rest) pos) tB') : PW X (.BoolOp .Or (a :: b :: rest) pos) (tOr tA tB') := by
 intro wh pins s σ H Q I h
 refine isTrue_or (thn (ha pins s σ H _ I h) fun c s1 hqP => ?_)
 obtain ⟨H1, I1, q1⟩ := hqP
 cases c with
 | true => exact ⟨H1, I1, q1⟩
 | false => exact hb wh pins s1 σ H1 Q I1 q1
theorem pt_not (ha : PT X a tA) : PT X (.UnaryOp .Not a pos) (tNot tA) := by
 intro pins s σ H Q I h
 exact isTrue_not (thn (ha pins s σ H (fun c H1 => Q (!c) H1) I h) fun c s1 ⟨H1, I1, q1⟩ => ⟨H1, I1, q1⟩)
inductive ItAndV (tb : TE) (σ : St) (Q : VK) (x : V) (H1 : Hp) : Prop
 | mk (c : _) (h1 : x = .bl c) (h2 : if c = true then tb σ H1 Q else Q (.bl false) H1)
def tAndV (ta tb : TE) : TE := fun σ H Q => ta σ H fun x H1 => ItAndV tb σ Q x H1
inductive ItOrV (tb : TE) (σ : St) (Q : VK) (x : V) (H1 : Hp) : Prop
 | mk (c : _) (h1 : x = .bl c) (h2 : if c = true then Q (.bl true) H1 else tb σ H1 Q)
def tOrV (ta tb : TE) : TE := fun σ H Q => ta σ H fun x H1 => ItOrV tb σ Q x H1
inductive ItNotV (Q : VK) (x : V) (H1 : Hp) : Prop
 | mk (c : _) (h1 : x = .bl c) (h2 : Q (.bl (!c)) H1)
def tNotV (ta : TE) : TE := fun σ H Q => ta σ H fun x H1 => ItNotV Q x H1
theorem pe_one {op} {t : TE} (h : PE X a t) : PE X (.BoolOp op [a] pos) t := fun pins s σ H Q I hw => BoolOp_one (h pins s σ H Q I hw)
theorem pe_and (ha : PE X a ta) (hb : PE X (.BoolOp .And (b :: rest) pos) tb) : PE X (.BoolOp .And (a :: b :: rest) pos) (tAndV ta tb) := by
 intro pins s σ H Q I h
 refine BoolOp_and (thn (ha pins s σ H _ I h) fun v s1 hqP => ?_)
 obtain ⟨x, H1, I1, r1, q1⟩ := hqP
 obtain ⟨c, rfl, q1⟩ := q1
 cases r1
 refine wpAny_truthy_bool ?_
 cases c with
 | true => exact hb pins s1 σ H1 Q I1 q1
 | false => exact ⟨.bl false, H1, I1, rfl, q1⟩
theorem pe_or (ha : PE X a ta) (hb : PE X (.BoolOp .Or (b :: rest) pos) tb) : PE X (.BoolOp .Or (a :: b :: rest) pos) (tOrV ta tb) := by
 intro pins s σ H Q I h
 refine BoolOp_or (thn (ha pins s σ H _ I h) fun v s1 hqP => ?_)
 obtain ⟨x, H1, I1, r1, q1⟩ := hqP
 obtain ⟨c, rfl, q1⟩ := q1
 cases r1
 refine wpAny_truthy_bool ?_
 cases c with
 | false => exact hb pins s1 σ H1 Q I1 q1
 | true => exact ⟨.bl true, H1, I1, rfl, q1⟩
theorem pe_not (ha : PE X a ta) : PE X (.UnaryOp .Not a pos) (tNotV ta) := by
 intro pins s σ H Q I h
 refine UnaryOp_ (thn (ha pins s σ H _ I h) fun v s1 hqP => ?_)
 obtain ⟨x, H1, I1, r1, q1⟩ := hqP
 obtain ⟨c, rfl, q1⟩ := q1
 cases r1
 exact not_of (wpAny_truthy_bool ⟨.bl (!c), H1, I1, rfl, q1⟩)
def tIf (t : TT) (ta tb : TE) : TE := fun σ H Q => t σ H fun c H1 => if c = true then ta σ H1 Q else tb σ H1 Q
theorem pe_ifExp {c : Expr} (hc : PT X c tA) (ha : PE X a ta) (hb : PE X b tb) : PE X (.IfExp c a b pos) (tIf tA ta tb) := by
 intro pins s σ H Q I h
 refine wpAny_IfExp (thn (hc pins s σ H _ I h) fun d s1 hqP => ?_)
 obtain ⟨H1, I1, q1⟩ := hqP
 cases d with
 | true => exact ha pins s1 σ H1 Q I1 q1
 | false => exact hb pins s1 σ H1 Q I1 q1
end
def SqL (K : Fg) (H : Hp) (a : Addr) (xs : List V) : Prop :=
 Rd H a (.lst xs) ∨
  ∃ (o : Obj) (its : Array Value) (n : Nat), K.lookup a = some o ∧ o.cls = .type "list" ∧ o.dict = none ∧ o.data = .seq its n ∧ its.size ≤ sizeLine ∧ Vals xs its.toList
def SqT (K : Fg) (H : Hp) (a : Addr) (xs : List V) : Prop :=
 Rd H a (.tup xs) ∨
  ∃ (o : Obj) (its : Array Value) (n : Nat), K.lookup a = some o ∧ o.cls = .type "tuple" ∧ o.data = .seq its n ∧ its.size ≤ sizeLine ∧ Vals xs its.toList
def absV : Value → Option V
 | .none => some .non
 | .bool b => some (.bl b)
 | .int i _ => some (.int i)
 | .str x _ => some (.str x)
 | .bytes b _ => some (.byt b)
 | .float b _ => some (.flt b)
 | .ref a => some (.ref a)
 | .type n => some (.ty n)
 | _ => none
theorem RelV.abs {x : V} {u : Value} (r : RelV x u) : absV u = some x := by
 cases x with
 | non => cases r; rfl
 | bl _ => cases r; rfl
 | int _ => obtain ⟨t, rfl⟩ := r; rfl
 | str _ => obtain ⟨t, rfl⟩ := r; rfl
 | byt _ => obtain ⟨t, rfl⟩ := r; rfl
 | flt _ => obtain ⟨t, rfl⟩ := r; rfl
 | ref _ => cases r; rfl
 | ty _ => cases r; rfl
theorem RelV.inj {x y : V} {u : Value} (r : RelV x u) (q : RelV y u) : x = y := Option.some.inj (r.abs.symm.trans q.abs)
theorem Vals.inj {xs ys : List V} {us : List Value} (h : Vals xs us) (g : Vals ys us) : xs = ys := by
 induction h generalizing ys with
 | nil => cases g; rfl
 | cons r t ih =>
  cases g with
  | cons r' t' => rw [r.inj r', ih t']
section
variable {X : Cx} {pins : List (Addr × Obj)} {σ : St} {H : Hp} {s : Shared} {a : Addr} {xs ys : List V}
theorem SqL.of {K : Fg} (h : H a = some (.lst xs)) : SqL K H a xs := .inl (.inl h)
theorem Inv.list (I : Inv X pins σ H s) (h : SqL X.K H a xs) : ∃ its : List Value, Vals xs its ∧ PlainL s.heap a its.toArray ∧ xs.length ≤ sizeLine := by
 rcases h with h | ⟨o, its, n, hk, hc, hd, hs, hz, r⟩
 ·obtain ⟨z, its, n, r, e⟩ := h.ok I.hok
  exact ⟨its, r, ⟨_, n, e, rfl, rfl, rfl⟩, z⟩
 ·refine ⟨its.toList, r, ⟨o, n, I.kIn a o hk, hc, hd, by simpa using hs⟩, ?_⟩
  have e := r.length
  simp only [Array.length_toList] at e
  lia
theorem Inv.tuple (I : Inv X pins σ H s) (h : SqT X.K H a xs) : ∃ its : List Value, Vals xs its ∧ IsTup s.heap a its.toArray ∧ xs.length ≤ sizeLine := by
 rcases h with h | ⟨o, its, n, hk, hc, hs, hz, r⟩
 ·obtain ⟨z, its, r, p⟩ := h.ok I.hok
  exact ⟨its, r, p, z⟩
 ·refine ⟨its.toList, r, ⟨o, I.kIn a o hk, hc, n, by simpa using hs⟩, ?_⟩
  have e := r.length
  simp only [Array.length_toList] at e
  lia
theorem Inv.list_inj (I : Inv X pins σ H s) (h : SqL X.K H a xs) (h' : SqL X.K H a ys) : xs = ys := by
 obtain ⟨its, r, ⟨o, n, e, _, _, d⟩, _⟩ := I.list h
 obtain ⟨its', r', ⟨o', n', e', _, _, d'⟩, _⟩ := I.list h'
 rw [e] at e'; cases e'
 rw [d] at d'
 injection d' with d1 _
 have : its = its' := by simpa using congrArg Array.toList d1
 subst this
 exact r.inj r'
theorem Inv.tuple_inj (I : Inv X pins σ H s) (h : SqT X.K H a xs) (h' : SqT X.K H a ys) : xs = ys := by
 obtain ⟨its, r, ⟨o, e, _, n, d⟩, _⟩ := I.tuple h
 obtain ⟨its', r', ⟨o', e', _, n', d'⟩, _⟩ := I.tuple h'
 rw [e] at e'; cases e'
 rw [d] at d'
 injection d' with d1 _
 have : its = its' := by simpa using congrArg Array.toList d1
 subst this
 exact r.inj r'
end
abbrev Cx.wish (X : Cx) (E : Value → Shared → Prop) : Cx := { X with xe := E }
abbrev Cx.nox (X : Cx) : Cx := X.wish fun _ _ => False
theorem Cx.Ok.wish {X : Cx} (ok : X.Ok) (E : Value → Shared → Prop) : (X.wish E).Ok :=
 ⟨ok.mod, ok.kind, ok.glob, ok.blt, ok.above, ok.inj, ok.has, ok.cab, ok.hd, ok.frames, ok.stk, ok.exf, ok.bs, ok.bsz, ok.noex, ok.exfs, ok.funs, ok.frf⟩
theorem Cx.Ok.unwish {X : Cx} {E : Value → Shared → Prop} (ok : (X.wish E).Ok) : X.Ok :=
 ⟨ok.mod, ok.kind, ok.glob, ok.blt, ok.above, ok.inj, ok.has, ok.cab, ok.hd, ok.frames, ok.stk, ok.exf, ok.bs, ok.bsz, ok.noex, ok.exfs, ok.funs, ok.frf⟩
section
variable {X : Cx} {pins : List (Addr × Obj)} {σ : St} {H : Hp} {s : Shared} {E : Value → Shared → Prop}
theorem Inv.wish (I : Inv X pins σ H s) (E : Value → Shared → Prop) : Inv (X.wish E) pins σ H s := ⟨I.ok.wish E, I.os, I.bare, I.base, I.loc, I.cell, I.free, I.freeC, I.pin, I.hok, I.len⟩
theorem Inv.unwish (I : Inv (X.wish E) pins σ H s) : Inv X pins σ H s := ⟨I.ok.unwish, I.os, I.bare, I.base, I.loc, I.cell, I.free, I.freeC, I.pin, I.hok, I.len⟩
theorem SP.unwish {D : Ends} {f : Flow} {s' : Shared} (h : SP (X.wish E) pins D f s') : SP X pins D f s' := by
 cases f with
 | next => obtain ⟨σ', H', I, q⟩ := h; exact ⟨σ', H', I.unwish, q⟩
 | brk => obtain ⟨σ', H', I, q⟩ := h; exact ⟨σ', H', I.unwish, q⟩
 | cont => obtain ⟨σ', H', I, q⟩ := h; exact ⟨σ', H', I.unwish, q⟩
 | ret u => obtain ⟨v, σ', H', I, r, q⟩ := h; exact ⟨v, σ', H', I.unwish, r, q⟩
theorem PSs.nox {st : List Stmt} {t : TS} (h : PSs X.nox st t) : PSs X st t := fun pins s σ H D I hw =>
 wpAny_mono (h pins s σ H D (I.wish _) hw) (fun _ _ q => q.unwish) fun _ _ z => False.elim z
end
section
variable {X : Cx} {st : Stmt} {rest : List Stmt} {t u : TS} {e : Expr} {te : TE} {pos : Pos}
def tNext : TS := fun D σ H => D.nx σ H
def tSeq (t u : TS) : TS := fun D σ H => t { D with nx := u D } σ H
theorem pss_nil : PSs X [] tNext := fun _ _ σ H _ I h => wpAny_execs_nil ⟨σ, H, I, h⟩
theorem pss_cons (h1 : PS X st t) (h2 : PSs X rest u) : PSs X (st :: rest) (tSeq t u) := by
 intro pins s σ H D I h
 refine wpAny_execs_cons (thn (h1 pins s σ H { D with nx := u D } I h) fun f s1 q => ?_)
 cases f with
 | next =>
  obtain ⟨σ', H', I', q⟩ := q
  exact h2 pins s1 σ' H' D I' q
 | ret v => exact q
 | brk => exact q
 | cont => exact q
theorem pss_one (h1 : PS X st t) : PSs X [st] t := by
 intro pins s σ H D I h
 refine wpAny_execs_cons (thn (h1 pins s σ H D I h) fun f s1 q => ?_)
 cases f with
 | next => exact wpAny_execs_nil q
 | ret v => exact q
 | brk => exact q
 | cont => exact q
theorem Inv.quiet {pins : List (Addr × Obj)} {σ : St} {H : Hp} {s : Shared} (I : Inv X pins σ H s) : interactive X.env = false := by simp [interactive, I.ok.kind]
def tDrop (te : TE) : TS := fun D σ H => te σ H fun _ H1 => D.nx σ H1
theorem ps_expr (he : PE X e te) (hs : autoParam (swapsWith e none pos.line X.env = pure false) L2.aRfl._auto_1) : PS X (.Expr e pos) (tDrop te) := by
 intro pins s σ H D I h
 exact wpAny_Expr_any (thn (he pins s σ H _ I h) fun v s1 ⟨x, H1, I1, r1, q1⟩ => ⟨σ, H1, I1, q1⟩) I.quiet hs
def tRet (te : TE) : TS := fun D σ H => te σ H D.rt
theorem ps_ret (he : PE X e te) : PS X (.Return (some e) pos) (tRet te) := by
 intro pins s σ H D I h
 exact wpAny_Return_some (thn (he pins s σ H _ I h) fun v s1 ⟨x, H1, I1, r1, q1⟩ => ⟨x, σ, H1, I1, r1, q1⟩)
def tIfS (c : TT) (t u : TS) : TS := fun D σ H => c σ H fun b H1 => if b = true then t D σ H1 else u D σ H1
theorem ps_if {c : Expr} {a b : List Stmt} {tc : TT} (hc : PT X c tc) (ha : PSs X a t) (hb : PSs X b u) : PS X (.If c a b pos) (tIfS tc t u) := by
 intro pins s σ H D I h
 refine wpAny_If (thn (hc pins s σ H _ I h) fun d s1 hqP => ?_)
 obtain ⟨H1, I1, q1⟩ := hqP
 cases d with
 | true => exact ha pins s1 σ H1 D I1 q1
 | false => exact hb pins s1 σ H1 D I1 q1
end
abbrev TG := V → St → Hp → (St → Hp → Prop) → Prop
abbrev TGs := List V → St → Hp → (St → Hp → Prop) → Prop
def PG (X : Cx) (target : Expr) (t : TG) : Prop :=
 ∀ (pins : List (Addr × Obj)) (s : Shared) (σ : St) (H : Hp) (v : V) (u : Value) (Q : St → Hp → Prop), Inv X pins σ H s → RelV v u → t v σ H Q →
  wpAny (model X.prog X.w) X.A (assign target X.env u) (fun _ s' => ∃ σ' H', Inv X pins σ' H' s' ∧ Q σ' H') X.xe s
def PGs (X : Cx) (ts : List Expr) (t : TGs) : Prop :=
 ∀ (pins : List (Addr × Obj)) (s : Shared) (σ : St) (H : Hp) (vs : List V) (us : List Value) (Q : St → Hp → Prop), Inv X pins σ H s → Vals vs us → t vs σ H Q →
  wpAny (model X.prog X.w) X.A (assignInOrder ((assignEach ts X.env).map (·.2)) us) (fun _ s' => ∃ σ' H', Inv X pins σ' H' s' ∧ Q σ' H') X.xe s
abbrev TSet := V → V → V → Hp → (Hp → Prop) → Prop
def PSet (X : Cx) (t : TSet) : Prop :=
 ∀ (pins : List (Addr × Obj)) (s : Shared) (σ : St) (H : Hp) (o i v : V) (ov iv u : Value) (Q : Hp → Prop), Inv X pins σ H s → RelV o ov → RelV i iv → RelV v u → t o i v H Q →
  wpAny (model X.prog X.w) X.A (setItem ov iv u) (fun _ s' => ∃ H', Inv X pins σ H' s' ∧ Q H') X.xe s
abbrev TIp := V → V → Hp → VK → Prop
def PIp (X : Cx) (op : Operator) (t : TIp) : Prop :=
 ∀ (pins : List (Addr × Obj)) (s : Shared) (σ : St) (H : Hp) (x y : V) (v u : Value) (Q : VK), Inv X pins σ H s → RelV x v → RelV y u → t x y H Q →
  wpAny (model X.prog X.w) X.A (inplaceOp op v u) (EP X pins σ Q) X.xe s
section
variable {X : Cx} {pos : Pos}
def gName (i : Nat) : TG := fun v σ H Q => Q (σ.set i (some v)) H
theorem pg_name {i : Nat} {x : Str} (hN : X.N.Nodup) (hi : X.N[i]? = some x) (hx : Loc X.env.scope x) (hf : autoParam (X.fn x = true ∨ X.env.scope.names.lookup x = some .local) L2.aFst._auto_1) : PG X (.Name x pos) (gName i) := by
 intro pins s σ H v u Q I r h
 exact wpAny_assign_Name (store_ok I hN hi hx r (fun s' I' => ⟨_, H, I', h⟩) hf)
def gNil : TGs := fun vs σ H Q => vs = [] ∧ Q σ H
inductive IgCons (t : TG) (u : TGs) (vs : List V) (σ : St) (H : Hp) (Q : (St → Hp → Prop)) : Prop
 | mk (v : _) (r : _) (h1 : vs = v :: r) (h2 : t v σ H fun σ' H' => u r σ' H' Q)
def gCons (t : TG) (u : TGs) : TGs := fun vs σ H Q => IgCons t u vs σ H Q
theorem pgs_nil : PGs X [] gNil := by
 intro pins s σ H vs us Q I r h
 obtain ⟨e, h⟩ := h
 subst e
 cases r
 exact assignInOrder_nil ⟨σ, H, I, h⟩
theorem pgs_cons {e : Expr} {es : List Expr} {t : TG} {u : TGs} (h1 : PG X e t) (h2 : PGs X es u)
  (hs : autoParam ((assignEach (e :: es) X.env).map (·.2) = assign e X.env :: (assignEach es X.env).map (·.2)) L2.aRfl._auto_1) : PGs X (e :: es) (gCons t u) := by
 intro pins s σ H vs us Q I r h
 obtain ⟨v, vr, e1, h⟩ := h
 subst e1
 cases r with
 | cons r rr =>
  rw [hs]
  refine assignInOrder_cons (thn (h1 pins s σ H _ _ _ I r h) fun _ s1 hqP => ?_)
  obtain ⟨σ1, H1, I1, q1⟩ := hqP
  exact h2 pins s1 σ1 H1 _ _ Q I1 rr q1
inductive IgTup (K : Fg) (n : Nat) (t : TGs) (v : V) (σ : St) (H : Hp) (Q : (St → Hp → Prop)) : Prop
 | mk (a : _) (xs : _) (h1 : v = .ref a) (h2 : SqT K H a xs) (h3 : xs.length = n) (h4 : t xs σ H Q)
def gTup (K : Fg) (n : Nat) (t : TGs) : TG := fun v σ H Q => IgTup K n t v σ H Q
theorem pg_tup {es : List Expr} {k : Nat} {t : TGs} {n : Nat} (hc : X.calm = true) (h : PGs X es t)
  (hn : autoParam ((assignEach es X.env).length = n) L2.aRfl._auto_1) (hst : autoParam ((assignEach es X.env).findIdx? (·.1) = none) L2.aRfl._auto_1) : PG X (.Tuple es k pos) (gTup X.K n t) := by
 intro pins s σ H v u Q I r hw
 obtain ⟨a, xs, e1, hq, hl, hw⟩ := hw
 subst e1
 cases r
 obtain ⟨its, rv, ht, hz⟩ := I.tuple hq
 refine assign_Tuple_tuple (I.ok.hd hc) ht (by simp [hn, ← hl, rv.length]) hst fun h' hx => ?_
 have I1 : Inv X pins σ H { s with heap := h' } := I.kept (t' := s.toks) fun b o e => hx b o (Nat.ne_of_lt (Heap.lt_size e)) e
 exact h pins _ σ H xs _ Q I1 (by simpa using rv) hw
def gSub (to ti : TE) (t : TSet) : TG := fun v σ H Q => to σ H fun o H1 => ti σ H1 fun i H2 => t o i v H2 fun H3 => Q σ H3
theorem pg_sub {o i : Expr} {to ti : TE} {t : TSet} (ho : PE X o to) (hi : PE X i ti) (hs : PSet X t)
  (ha : ∀ v, assign (.Subscript o i pos) X.env v = (do
   let ov ← holding [v] (eval o X.env)
   let iv ← holding [v, ov] (eval i X.env)
   standAt pos
   holding [v, ov, iv] (setItem ov iv v)
   release [v, ov, iv] []) := by intro _; rfl) : PG X (.Subscript o i pos) (gSub to ti t) := by
 intro pins s σ H v u Q I r h
 rw [ha]
 refine wpAny_bind (wpAny_holding (thn (ho pins s σ H _ I h) fun ov s1 hqP => ?_))
 obtain ⟨x, H1, I1, r1, q1⟩ := hqP
 refine wpAny_bind (wpAny_holding (thn (hi pins s1 σ H1 _ I1 q1) fun iv s2 hqP => ?_))
 obtain ⟨y, H2, I2, r2, q2⟩ := hqP
 refine wpAny_bind (wpAny_standAt (wpAny_bind (wpAny_holding (thn (hs pins s2 σ H2 x y v ov iv u _ I2 r1 r2 r q2) fun _ s3 hqP => ?_))))
 obtain ⟨H3, I3, q3⟩ := hqP
 exact wpAny_release ⟨σ, H3, I3, q3⟩
def tAsg (te : TE) (g : TG) : TS := fun D σ H => te σ H fun x H1 => g x σ H1 D.nx
theorem ps_asg {tg e : Expr} {te : TE} {g : TG} (he : PE X e te) (hg : PG X tg g) (hs : autoParam (swapsWithSole [tg] e pos.line X.env = pure false) L2.aRfl._auto_1) (hw : autoParam (swappedStores [tg] e X.env = pure none) L2.aRfl._auto_1)
  (h1 : autoParam ((assignEach [tg] X.env).map (·.2) = [assign tg X.env]) L2.aRfl._auto_1) : PS X (.Assign [tg] e pos) (tAsg te g) := by
 intro pins s σ H D I h
 refine wpAny_Assign_stores (thn (he pins s σ H _ I h) fun v s1 hqP => ?_) hs hw
 obtain ⟨x, H1, I1, r1, q1⟩ := hqP
 rw [h1]
 exact thn (hg pins s1 σ H1 x v _ I1 r1 q1) fun _ s2 q => q
theorem ps_set {i : Nat} {x : Str} {e : Expr} {te : TE} {pos' : Pos} (hN : X.N.Nodup) (hi : X.N[i]? = some x) (hx : Loc X.env.scope x) (he : PE X e te) (hs : autoParam (swapsWith e (some (.Name x pos')) pos.line X.env = pure false) L2.aRfl._auto_1) (hf : autoParam (X.fn x = true ∨ X.env.scope.names.lookup x = some .local) L2.aFst._auto_1) :
  PS X (.Assign [.Name x pos'] e pos) (tAsg te (gName i)) := by
 intro pins s σ H D I h
 refine wpAny_Assign_Name (thn (he pins s σ H _ I h) fun v s1 hqP => ?_) hs
 obtain ⟨y, H1, I1, r1, q1⟩ := hqP
 exact store_ok I1 hN hi hx r1 (fun s2 I2 => ⟨_, H1, I2, q1⟩) hf
inductive ItAug (i : Nat) (te : TE) (ti : TIp) (D : Ends) (σ : St) (H : Hp) : Prop
 | mk (x : _) (h1 : σ[i]? = some (some x)) (h2 : te σ H fun y H1 => ti x y H1 fun z H2 => D.nx (σ.set i (some z)) H2)
def tAug (i : Nat) (te : TE) (ti : TIp) : TS := fun D σ H => ItAug i te ti D σ H
theorem ps_aug {i : Nat} {x : Str} {e : Expr} {te : TE} {op : Operator} {ti : TIp} {pos' : Pos} (hN : X.N.Nodup) (hi : X.N[i]? = some x) (hx : Loc X.env.scope x) (he : PE X e te) (ho : PIp X op ti) (hf : autoParam (X.fn x = true ∨ X.env.scope.names.lookup x = some .local) L2.aFst._auto_1) :
  PS X (.AugAssign (.Name x pos') op e pos) (tAug i te ti) := by
 intro pins s σ H D I h
 obtain ⟨v, e1, h⟩ := h
 obtain ⟨m, hn, hl⟩ := I.loc
 have vis : Vis X.env.scope x := by rcases hx with k | k; exact .inl k; exact .inr (.inl k)
 obtain ⟨u, r, l⟩ := hl i x v hi e1 vis
 refine wpAny_AugAssign_Name ?_
 have go : wpAny (model X.prog X.w) X.A (eval e X.env) (fun w s₂ => wpAny (model X.prog X.w) X.A (inplaceOp op u w) (fun r s₃ => wpAny (model X.prog X.w) X.A (storeName X.env x r) (fun _ => SP X pins D .next) X.xe s₃) X.xe s₂) X.xe s := by
  refine thn (he pins s σ H _ I h) fun w s1 hqP => ?_
  obtain ⟨y, H1, I1, r1, q1⟩ := hqP
  refine thn (ho pins s1 σ H1 v y u w _ I1 r r1 q1) fun z s2 hqP => ?_
  obtain ⟨zv, H2, I2, r2, q2⟩ := hqP
  exact store_ok I2 hN hi hx r2 (fun s3 I3 => ⟨_, H2, I3, q2⟩) hf
 rcases l with ⟨hk, hm⟩ | ⟨hk, c, hc, hcell⟩
 ·exact wpAny_loadName_local I.ok.kind hk hn hm go
 ·rcases hk with hk | hk
  ·exact wpAny_loadName_cell I.ok.kind hk hc hcell go
  ·rcases hx with k | k
   ·have : X.env.scope.names.lookup x = some .free := hk
    rw [k] at this; cases this
   ·have : X.env.scope.names.lookup x = some .free := hk
    rw [k] at this; cases this
inductive IipI (f : Int → Int → Int) (x : V) (y : V) (H : Hp) (Q : VK) : Prop
 | mk (i : _) (j : _) (h1 : x = .int i) (h2 : y = .int j) (h3 : Q (.int (f i j)) H)
def ipI (f : Int → Int → Int) : TIp := fun x y H Q => IipI f x y H Q
theorem ip_add : PIp X .Add (ipI fun i j => i + j) := by
 intro pins s σ H x y v u Q I r1 r2 h
 obtain ⟨i, j, e1, e2, q⟩ := h
 subst e1; subst e2
 obtain ⟨t, rfl⟩ := r1
 obtain ⟨t', rfl⟩ := r2
 exact iadd_int ⟨.int _, H, I.tok _, ⟨_, rfl⟩, q⟩
theorem ip_sub : PIp X .Sub (ipI fun i j => i - j) := by
 intro pins s σ H x y v u Q I r1 r2 h
 obtain ⟨i, j, e1, e2, q⟩ := h
 subst e1; subst e2
 obtain ⟨t, rfl⟩ := r1
 obtain ⟨t', rfl⟩ := r2
 exact isub_int ⟨.int _, H, I.tok _, ⟨_, rfl⟩, q⟩
end
section
variable {X : Cx} {pos : Pos}
end
set_option genInjectivity false in
set_option genInjectivity false in
structure It where
 go : Nat → Hp → Prop
 yld : Nat → Hp → V → Hp → Prop
 stop : Nat → Hp → Prop
def FpOk (X : Cx) (pins : List (Addr × Obj)) (H : Hp) (b : Addr) : Prop :=
 H b = none ∧ b ≠ X.env.locals ∧ b ∉ X.fs ∧ (b ∈ X.ex ∨ X.s₀.heap.objs.size ≤ b) ∧ (∀ x c, X.env.cells.lookup x = some c → c ≠ b) ∧ ∀ p ∈ X.pn ++ pins, p.1 ≠ b
theorem Inv.fpOk {X : Cx} {pins : List (Addr × Obj)} {σ : St} {H H' : Hp} {s : Shared} {b : Addr} (I : Inv X pins σ H s) (hb : s.heap.objs.size ≤ b) (hn : H' b = none) : FpOk X pins H' b := by
 refine ⟨hn, Nat.ne_of_gt (Nat.lt_of_lt_of_le I.lt hb), I.nofs hb, .inr (Nat.le_trans I.sz hb), fun x c e z => ?_, fun p hp z => ?_⟩
 ·obtain ⟨v, q⟩ := I.cell x c e
  exact absurd (Nat.lt_of_lt_of_le q.lt (by rw [z]; exact hb)) (Nat.lt_irrefl _)
 ·exact absurd (Nat.lt_of_lt_of_le (Heap.lt_size (I.pin p hp).1) (by rw [z]; exact hb)) (Nat.lt_irrefl _)
structure Turn (P : Program) (w : World) (K : Fg) (tg : Expr) (J : It) (fp : List Addr) (it : Addr) (tn : Nat → Heap → Prop) : Prop where
 mem : it ∈ fp
 obj : ∀ i h, tn i h → ∀ b ∈ fp, ∃ o, h.get? b = some o ∧ ∀ v, o.data ≠ .cell v
 keep : ∀ i h h', tn i h → (∀ b ∈ fp, ∀ o, h.get? b = some o → h'.get? b = some o) → tn i h'
 item : ∀ (X : Cx), X.prog = P → X.w = w → X.K = K → X.calm = true → ∀ (i : Nat) (pins : List (Addr × Obj)) (s : Shared) (σ : St) (H : Hp) (E : Value → Shared → Prop), Inv X pins σ H s → (∀ b ∈ fp, FpOk X pins H b) → tn i s.heap → J.go i H →
  wpAny (model P w) X.A (pyNext (.ref it)) (fun r s1 => ∃ u, r = some u ∧
   wpAny (model P w) X.A (letOwnedTupleGo tg (.ref it) u) (fun _ s2 => ∃ x H', Inv X pins σ H' s2 ∧ RelV x u ∧ J.yld i H x H' ∧ tn (i + 1) s2.heap ∧ ∀ b ∈ fp, H' b = none) E s1) E s
 done : ∀ (X : Cx), X.prog = P → X.w = w → X.K = K → X.calm = true → ∀ (i : Nat) (pins : List (Addr × Obj)) (s : Shared) (σ : St) (H : Hp) (E : Value → Shared → Prop), Inv X pins σ H s → (∀ b ∈ fp, FpOk X pins H b) → tn i s.heap → J.stop i H →
  wpAny (model P w) X.A (pyNext (.ref it)) (fun r s1 => r = none ∧ Inv X pins σ H s1) E s
 self : ∀ (A : Around) (i : Nat) (s : Shared) (Q : Value → Shared → Prop) (E : Value → Shared → Prop), tn i s.heap → Q (.ref it) s → wpAny (model P w) A (pyIter (.ref it)) Q E s
abbrev TI := St → Hp → (It → Hp → Prop) → Prop
def PIE (X : Cx) (pins : List (Addr × Obj)) (σ : St) (tg : Expr) (R : It → Hp → Prop) (itv : Value) (s2 : Shared) : Prop :=
 ∃ (it : Addr) (fp : List Addr) (tn : Nat → Heap → Prop) (J : It) (H' : Hp), itv = .ref it ∧ Inv X pins σ H' s2 ∧ Turn X.prog X.w X.K tg J fp it tn ∧ tn 0 s2.heap ∧ (∀ b ∈ fp, FpOk X pins H' b) ∧ R J H'
def PI (X : Cx) (tg iter : Expr) (wi : TI) : Prop :=
 ∀ (pins : List (Addr × Obj)) (s : Shared) (σ : St) (H : Hp) (R : It → Hp → Prop), Inv X pins σ H s → wi σ H R →
  wpAny (model X.prog X.w) X.A (eval iter X.env) (fun v s1 => wpAny (model X.prog X.w) X.A (pyIter v) (PIE X pins σ tg R) X.xe s1) X.xe s
theorem go_of {M : Model} {A : Around} {E : Value → Shared → Prop} {s : Shared} {tg : Expr} {it : Addr} {u : Value} {o : Obj} {n : String} {vs : Array Value} {Q : Unit → Shared → Prop} (ho : s.heap.get? it = some o) (hc : o.cls = .type n) (hd : o.data = .fields vs)
    (hn : ["enumerate", "zip", "dict_itemiterator", "dict_reverseitemiterator", "odict_iterator", "itertools.zip_longest", "itertools.pairwise"].contains n = false) (hQ : Q () s) : wpAny M A (letOwnedTupleGo tg (.ref it) u) Q E s := by
  unfold letOwnedTupleGo
  cases tg <;> first
    | exact wpAny_pure hQ
    | (cases u <;> first
        | exact wpAny_pure hQ
        | (refine wpAny_bind (wpAny_load ho ?_)
           rw [hc, hd]
           show wpAny M A (if (["enumerate", "zip", "dict_itemiterator", "dict_reverseitemiterator", "odict_iterator", "itertools.zip_longest", "itertools.pairwise"].contains n && vs[0]? == some (rawInt _)) = true then _ else _) Q E s
           rw [if_neg (by intro h; rw [hn, Bool.false_and] at h; cases h)]
           exact wpAny_pure hQ))
def Itl (K : Fg) (a : Addr) : It :=
 ⟨fun i H => ∃ xs x, SqL K H a xs ∧ xs[i]? = some x, fun i H x H' => H' = H ∧ ∀ xs, SqL K H a xs → xs[i]? = some x, fun i H => ∃ xs, SqL K H a xs ∧ xs.length ≤ i⟩
def Itr (lo : Int) (n : Nat) : It := ⟨fun i _ => i < n, fun i H x H' => H' = H ∧ x = .int (lo + i), fun i _ => n ≤ i⟩
theorem turn_list {P : Program} {w : World} {K : Fg} {tg : Expr} (a it : Addr) : Turn P w K tg (Itl K a) [it] it (fun i h => h.IsListIter it a i) where
 mem := by simp
 obj := fun i h st b hb => by
  have e : b = it := by simpa using hb
  subst e
  obtain ⟨o, e, c, d⟩ := st
  exact ⟨o, e, fun v z => by rw [d] at z; cases z⟩
 keep := fun i h h' st k => st.at fun o e => k it (by simp) o e
 item := by
  intro X hP hw hK hc i pins s σ H E I hf st hg
  subst hP hw hK
  obtain ⟨xs, x, hq, hx⟩ := hg
  obtain ⟨its, rv, p, hz⟩ := I.list hq
  obtain ⟨u, hu, ru⟩ := rv.get hx
  obtain ⟨f0, f1, f2, f3, f4, f5⟩ := hf it (by simp)
  refine wpAny_pyNext_list_item st p.isList (x := u) (by simpa using hu) fun h' st' sb => ?_
  have I1 : Inv X pins σ H { s with heap := h' } := I.turned (t' := s.toks) (fun b o hb e => (sb.2 b hb).trans e) f0 f1 f3 f4 f5
  obtain ⟨o, e, c, d⟩ := id st'
  exact ⟨u, rfl, go_of (s := { s with heap := h' }) e c d (by decide) ⟨x, H, I1, ru, ⟨rfl, fun ys hy => by rw [I.list_inj hy hq]; exact hx⟩, st', fun b hb => (hf b hb).1⟩⟩
 done := by
  intro X hP hw hK hc i pins s σ H E I hf st hg
  subst hP hw hK
  obtain ⟨xs, hq, hx⟩ := hg
  obtain ⟨its, rv, p, hz⟩ := I.list hq
  obtain ⟨f0, f1, f2, f3, f4, f5⟩ := hf it (by simp)
  have hl := rv.length
  exact wpAny_pyNext_list_end (I.ok.hd hc) st p.isList (by simp; lia) fun h' eb => ⟨rfl, I.turned (t' := s.toks) (fun b o hb e => eb b o hb e) f0 f1 f3 f4 f5⟩
 self := fun _ _ _ _ _ st h => wpAny_pyIter_listiter st h
theorem turn_range {P : Program} {w : World} {K : Fg} {tg : Expr} (it : Addr) (lo : Int) (n : Nat) : Turn P w K tg (Itr lo n) [it] it (fun i h => IsRangeIter h it (lo + (i : Nat) * 1) ((n : Int) - (i : Nat)) 1) where
 mem := by simp
 obj := fun i h st b hb => by
  have e : b = it := by simpa using hb
  subst e
  exact ⟨_, st, fun v z => by
   have z' : Data.fields _ = Data.cell v := z
   cases z'⟩
 keep := fun i h h' st k => k it (by simp) _ st
 item := by
  intro X hP hw hK hc i pins s σ H E I hf st hg
  subst hP hw hK
  obtain ⟨f0, f1, f2, f3, f4, f5⟩ := hf it (by simp)
  have W := Walks.range (prog := X.prog) (w := X.w) (I.ok.hd hc) it lo 1 n
  refine W.item i s _ _ hg st fun v h' tk hv st' kk => ?_
  obtain ⟨t, rfl⟩ := hv
  have I1 : Inv X pins σ H { s with heap := h', toks := tk } := I.turned (fun b o hb e => kk b o (by simpa using hb) e) f0 f1 f3 f4 f5
  refine ⟨_, rfl, go_of (s := { s with heap := h', toks := tk }) (n := "range_iterator") st' rfl rfl (by decide) ⟨.int (lo + i), H, I1, ⟨t, ?_⟩, ⟨rfl, rfl⟩, st', fun b hb => (hf b hb).1⟩⟩
  rw [Int.mul_one]
 done := by
  intro X hP hw hK hc i pins s σ H E I hf st hg
  subst hP hw hK
  obtain ⟨f0, f1, f2, f3, f4, f5⟩ := hf it (by simp)
  exact wpAny_pyNext_range_end (I.ok.hd hc) st (by have : n ≤ i := hg; lia) fun h' eb => ⟨rfl, I.turned (t' := s.toks) (fun b o hb e => eb b o hb e) f0 f1 f3 f4 f5⟩
 self := fun _ _ _ _ _ st h => wpAny_pyIter_rangeiter st h
section
variable {X : Cx} {tg : Expr}
inductive IiList (K : Fg) (R : (It → Hp → Prop)) (x : V) (H1 : Hp) : Prop
 | mk (a : _) (h1 : x = .ref a) (h2 : (∃ xs, SqL K H1 a xs)) (h3 : R (Itl K a) H1)
def iList (K : Fg) (tl : TE) : TI := fun σ H R => tl σ H fun x H1 => IiList K R x H1
theorem pi_list {l : Expr} {tl : TE} (hl : PE X l tl) : PI X tg l (iList X.K tl) := by
 intro pins s σ H R I h
 refine thn (hl pins s σ H _ I h) fun v s1 hqP => ?_
 obtain ⟨x, H1, I1, r1, q1⟩ := hqP
 obtain ⟨a, e, ⟨xs, hq⟩, q⟩ := q1
 subst e
 cases r1
 obtain ⟨its, rv, p, hz⟩ := I1.list hq
 refine wpAny_pyIter_list p.isList ?_
 refine ⟨s1.heap.objs.size, [s1.heap.objs.size], _, _, H1, rfl, I1.kept (t' := s1.toks) fun b o e => Heap.get?_push_of_some _ e, turn_list a _, ⟨_, Heap.get?_push_size _ rfl, rfl, rfl⟩, fun b hb => ?_, q⟩
 have e : b = s1.heap.objs.size := by simpa using hb
 subst e
 exact I1.fpOk (Nat.le_refl _) (I1.hok.fresh (Nat.le_refl _))
theorem range_it {pins : List (Addr × Obj)} {σ : St} {H : Hp} {s : Shared} {R : It → Hp → Prop} {E : Value → Shared → Prop} {lo hi : Int} {t u v : Tok} {tk : Nat} (I : Inv X pins σ H s) (h1 : -(2 ^ 62) ≤ lo) (h2 : lo < 2 ^ 62) (h3 : -(2 ^ 62) ≤ hi) (h4 : hi < 2 ^ 62)
  (q : R (Itr lo (hi - lo).toNat) H) : wpAny (model X.prog X.w) X.A (pyIter (.ref s.heap.objs.size)) (PIE X pins σ tg R) E { s with heap := s.heap.push { cls := .type "range", data := .fields #[.int lo t, .int hi u, .int 1 v] }, toks := tk } := by
 refine wpAny_pyIter_range (IsRange.new ..) (small_one h1 h2 h3 h4) ?_
 have I1 : Inv X pins σ H { s with heap := s.heap.push { cls := .type "range", data := .fields #[.int lo t, .int hi u, .int 1 v] }, toks := tk } := I.kept fun b o e => Heap.get?_push_of_some _ e
 refine ⟨(s.heap.push { cls := .type "range", data := .fields #[.int lo t, .int hi u, .int 1 v] }).objs.size, [(s.heap.push { cls := .type "range", data := .fields #[.int lo t, .int hi u, .int 1 v] }).objs.size], _, _, H, rfl,
  I1.kept (t' := tk) fun b o e => Heap.get?_push_of_some _ e, turn_range _ lo (hi - lo).toNat, ?_, fun b hb => ?_, q⟩
 ·have e1 : lo + ((0 : Nat) : Int) * 1 = lo := by simp
  have e2 : (((hi - lo).toNat : Nat) : Int) - ((0 : Nat) : Int) = Builtin.Range.rangeSize lo hi 1 := by rw [rangeSize_one]; split <;> lia
  show IsRangeIter _ _ (lo + ((0 : Nat) : Int) * 1) ((((hi - lo).toNat : Nat) : Int) - ((0 : Nat) : Int)) 1
  rw [e1, e2]
  exact Heap.get?_push_size _ rfl
 ·have e : b = (s.heap.push { cls := .type "range", data := .fields #[.int lo t, .int hi u, .int 1 v] }).objs.size := by simpa using hb
  subst e
  exact I1.fpOk (Nat.le_refl _) (I1.hok.fresh (Nat.le_refl _))
inductive IiRng1 (R : (It → Hp → Prop)) (vs : List V) (H1 : Hp) : Prop
 | mk (j : Int) (h1 : vs = [.int j]) (h2 : -(2 ^ 62) ≤ j) (h3 : j < 2 ^ 62) (h4 : R (Itr 0 j.toNat) H1)
def iRng1 (ta : TA) : TI := fun σ H R => ta σ H fun vs H1 => IiRng1 R vs H1
inductive IiRng2 (R : (It → Hp → Prop)) (vs : List V) (H1 : Hp) : Prop
 | mk (i j : Int) (h1 : vs = [.int i, .int j]) (h2 : (-(2 ^ 62) ≤ i ∧ i < 2 ^ 62 ∧ -(2 ^ 62) ≤ j ∧ j < 2 ^ 62)) (h3 : R (Itr i (j - i).toNat) H1)
def iRng2 (ta : TA) : TI := fun σ H R => ta σ H fun vs H1 => IiRng2 R vs H1
theorem pi_range1 {a : Expr} {ta : TA} {p pos : Pos} (hg : Gl X "range") (hm : X.mg "range" = none) (ha : PA X [a] ta) (hs : autoParam (starEach [a] X.env = [(false, eval a X.env)]) L2.aRfl._auto_1) : PI X tg (.Call (.Name "range" p) [a] [] pos) (iRng1 ta) := by
 intro pins s σ H R I h
 refine Call_ (ld_blt I hg hm boot_range (PyProof.Rows.callWith_type1 (thn (ha pos pins s σ H _ I h) fun us s1 hqP => ?_) hs rfl))
 obtain ⟨vs, H1, I1, r1, q1⟩ := hqP
 obtain ⟨j, e, q1, q2, q⟩ := q1
 subst e
 cases r1 with
 | cons r rr =>
  cases rr
  obtain ⟨t, rfl⟩ := r
  exact call_range_1 (range_it I1 (by lia) (by lia) q1 q2 (by simpa using q))
theorem pi_range2 {a b : Expr} {ta : TA} {p pos : Pos} (hg : Gl X "range") (hm : X.mg "range" = none) (ha : PA X [a, b] ta) (hs : autoParam (starEach [a, b] X.env = [(false, eval a X.env), (false, eval b X.env)]) L2.aRfl._auto_1) (hs2 : autoParam (starEach [b] X.env = [(false, eval b X.env)]) L2.aRfl._auto_1) :
  PI X tg (.Call (.Name "range" p) [a, b] [] pos) (iRng2 ta) := by
 intro pins s σ H R I h
 refine Call_ (ld_blt I hg hm boot_range (PyProof.Rows.callWith_type1 (thn (ha pos pins s σ H _ I h) fun us s1 hqP => ?_) (by rw [hs, hs2]) (by rw [hs2]; rfl)))
 obtain ⟨vs, H1, I1, r1, q1⟩ := hqP
 obtain ⟨i, j, e, ⟨q1, q2, q3, q4⟩, q⟩ := q1
 subst e
 cases r1 with
 | cons r rr =>
  cases rr with
  | cons r' rr =>
   cases rr
   obtain ⟨t, rfl⟩ := r
   obtain ⟨t', rfl⟩ := r'
   exact call_range_2 (range_it I1 q1 q2 q3 q4 q)
def tFor (wi : TI) (g : TG) (tb : TS) : TS := fun D σ H => wi σ H fun J H1 => ∃ W : Nat → Nat → St → Hp → Prop, (∃ m, W 0 m σ H1) ∧ ∀ i m σ H, W i m σ H →
 (J.stop i H ∧ D.nx σ H) ∨ (J.go i H ∧ ∃ N : St → Hp → Prop, (∀ σ' H', N σ' H' → ∃ m', m' < m ∧ W (i + 1) m' σ' H') ∧ ∀ x H', J.yld i H x H' → g x σ H' fun σ2 H2 => tb { D with nx := N, ct := N, bk := D.nx } σ2 H2)
def pinsAt (fp : List Addr) (h : Heap) : List (Addr × Obj) := fp.filterMap fun b => (h.get? b).map fun o => (b, o)
theorem mem_pinsAt {fp : List Addr} {h : Heap} {b : Addr} {o : Obj} (hb : b ∈ fp) (e : h.get? b = some o) : (b, o) ∈ pinsAt fp h := List.mem_filterMap.mpr ⟨b, hb, by rw [e]; rfl⟩
theorem of_pinsAt {fp : List Addr} {h : Heap} {p : Addr × Obj} (hp : p ∈ pinsAt fp h) : p.1 ∈ fp ∧ h.get? p.1 = some p.2 := by
 obtain ⟨b, hb, e⟩ := List.mem_filterMap.mp hp
 cases q : h.get? b with
 | none => rw [q] at e; cases e
 | some o =>
  rw [q] at e
  have e' : (b, o) = p := Option.some.inj e
  subst e'
  exact ⟨hb, q⟩
theorem Inv.pinned {pins : List (Addr × Obj)} {σ : St} {H : Hp} {s : Shared} {fp : List Addr} (I : Inv X pins σ H s) (hf : ∀ b ∈ fp, FpOk X pins H b) (ho : ∀ b ∈ fp, ∃ o, s.heap.get? b = some o ∧ ∀ v, o.data ≠ .cell v) : Inv X (pins ++ pinsAt fp s.heap) σ H s :=
 I.pins_of fun p hp => (List.mem_append.mp hp).elim (fun z => I.pin p (List.mem_append_right _ z)) fun z => by
  obtain ⟨hb, e⟩ := of_pinsAt z
  obtain ⟨f0, f1, f2, _⟩ := hf p.1 hb
  obtain ⟨o, e', d⟩ := ho p.1 hb
  rw [e] at e'; cases e'
  exact ⟨e, f0, f1, f2, d⟩
theorem Inv.unpinned {pins pl : List (Addr × Obj)} {σ : St} {H : Hp} {s : Shared} (I : Inv X (pins ++ pl) σ H s) : Inv X pins σ H s := I.pins_of fun p hp => I.pin p (List.mem_append_right _ (List.mem_append_left _ hp))
theorem ps_for {iter : Expr} {body : List Stmt} {wi : TI} {g : TG} {tb : TS} {pos : Pos} (hp : PassesOwn (model X.prog X.w) X.A X.env X.xe) (hc : X.calm = true) (hi : PI X tg iter wi) (hg : PG X tg g) (hb : PSs X body tb)
  (hs : autoParam (∀ x, foldedSetIterable iter X.env x = pure x) L2.aIrf._auto_1) : PS X (.For tg iter body [] pos) (tFor wi g tb) := by
 intro pins s σ H D I h
 refine wpAny_For (thn (hi pins s σ H _ I h) fun v s1 h1 => thn h1 fun itv s2 h2 => ?_) hs
 obtain ⟨it, fp, tn, J, H2, e, I2, T, st2, f2, W, ⟨m0, w0⟩, turn⟩ := h2
 subst e
 -- what stays true of the iterator's objects through the loop
 have stat : ∀ {H' : Hp}, (∀ b ∈ fp, H' b = none) → ∀ b ∈ fp, FpOk X pins H' b := fun hn b hb => ⟨hn b hb, (f2 b hb).2⟩
 refine codeAny_forLoop_any (fun n s' => ∃ i σ' H', Inv X pins σ' H' s' ∧ tn i s'.heap ∧ (∀ b ∈ fp, H' b = none) ∧ W i n σ' H') ?_ m0 ⟨0, σ, H2, I2, st2, fun b hb => (f2 b hb).1, w0⟩
 rintro n s3 ⟨i, σ3, H3, I3, st3, fr3, w3⟩
 rcases turn i n σ3 H3 w3 with ⟨stop, qn⟩ | ⟨go, N, hN, step⟩
 ·refine wpAny_passesOwn hp (thn (T.done X rfl rfl rfl hc i pins s3 σ3 H3 X.xe I3 (stat fr3) st3 stop) fun r s4 hqP => ?_)
  obtain ⟨hr, I4⟩ := hqP
  subst hr
  exact wpAny_execs_nil ⟨σ3, H3, I4, qn⟩
 ·refine wpAny_passesOwn hp (thn (T.item X rfl rfl rfl hc i pins s3 σ3 H3 X.xe I3 (stat fr3) st3 go) fun r s4 hqP => ?_)
  obtain ⟨u, hr, h4⟩ := hqP
  subst hr
  refine wpAny_passesOwn hp (thn h4 fun _ s5 hqP => ?_)
  obtain ⟨x, H5, I5, r5, y5, st5, fr5⟩ := hqP
  have I5' := I5.pinned (stat fr5) (T.obj _ _ st5)
  refine wpAny_passesOwn hp (thn (hg _ s5 σ3 H5 x u _ I5' r5 (step x H5 y5)) fun _ s6 hqP => ?_)
  obtain ⟨σ6, H6, I6, q6⟩ := hqP
  refine wpAny_passesOwn hp (thn (hb _ s6 σ6 H6 _ I6 q6) fun f s7 q7 => ?_)
  have again : ∀ {σ7 : St} {H7 : Hp}, Inv X (pins ++ pinsAt fp s5.heap) σ7 H7 s7 → N σ7 H7 → ∃ m, m < n ∧ ∃ i σ' H', Inv X pins σ' H' s7 ∧ tn i s7.heap ∧ (∀ b ∈ fp, H' b = none) ∧ W i m σ' H' := fun {σ7 H7} I7 n7 => by
   obtain ⟨m', hm, w7⟩ := hN σ7 H7 n7
   refine ⟨m', hm, i + 1, σ7, H7, I7.unpinned, T.keep _ _ _ st5 fun b hb o e => (I7.pin (b, o) (List.mem_append_right _ (List.mem_append_right _ (mem_pinsAt hb e)))).1, fun b hb => ?_, w7⟩
   obtain ⟨o, e, d⟩ := T.obj _ _ st5 b hb
   exact (I7.pin (b, o) (List.mem_append_right _ (List.mem_append_right _ (mem_pinsAt hb e)))).2.1
  cases f with
  | next => obtain ⟨σ7, H7, I7, n7⟩ := q7; exact again I7 n7
  | cont => obtain ⟨σ7, H7, I7, n7⟩ := q7; exact again I7 n7
  | brk => obtain ⟨σ7, H7, I7, q7⟩ := q7; exact ⟨σ7, H7, I7.unpinned, q7⟩
  | ret v => obtain ⟨x7, σ7, H7, I7, r7, q7⟩ := q7; exact ⟨x7, σ7, H7, I7.unpinned, r7, q7⟩
end
theorem for_list {K : Fg} {a : Addr} {xs : List V} {g : TG} {tb : TS} {D : Ends} {σ : St} {H : Hp} (Pv : Nat → St → Hp → Prop) (h0 : Pv 0 σ H) (hl : ∀ i σ H, i ≤ xs.length → Pv i σ H → SqL K H a xs)
  (hs : ∀ i x σ H, xs[i]? = some x → Pv i σ H → g x σ H fun σ2 H2 => tb { D with nx := Pv (i + 1), ct := Pv (i + 1), bk := D.nx } σ2 H2) (hd : ∀ σ H, Pv xs.length σ H → D.nx σ H) :
  ∃ W : Nat → Nat → St → Hp → Prop, (∃ m, W 0 m σ H) ∧ ∀ i m σ H, W i m σ H →
   ((Itl K a).stop i H ∧ D.nx σ H) ∨ ((Itl K a).go i H ∧ ∃ N : St → Hp → Prop, (∀ σ' H', N σ' H' → ∃ m', m' < m ∧ W (i + 1) m' σ' H') ∧ ∀ x H', (Itl K a).yld i H x H' → g x σ H' fun σ2 H2 => tb { D with nx := N, ct := N, bk := D.nx } σ2 H2) := by
 refine ⟨fun i m σ H => m = xs.length - i ∧ i ≤ xs.length ∧ Pv i σ H, ⟨xs.length, by simp, Nat.zero_le _, h0⟩, ?_⟩
 rintro i m σ H ⟨rfl, hi, p⟩
 have q := hl i σ H hi p
 by_cases hlt : i < xs.length
 ·refine .inr ⟨⟨xs, xs[i], q, by simp [hlt]⟩, Pv (i + 1), fun σ' H' p' => ⟨xs.length - (i + 1), by lia, rfl, hlt, p'⟩, fun x H' y => ?_⟩
  obtain ⟨e, y⟩ := y
  subst e
  exact hs i x σ _ (y xs q) p
 ·have e : i = xs.length := by lia
  subst e
  exact .inl ⟨⟨xs, q, Nat.le_refl _⟩, hd σ H p⟩
theorem for_range {lo : Int} {n : Nat} {g : TG} {tb : TS} {D : Ends} {σ : St} {H : Hp} (Pv : Nat → St → Hp → Prop) (h0 : Pv 0 σ H)
  (hs : ∀ i σ H, i < n → Pv i σ H → g (.int (lo + i)) σ H fun σ2 H2 => tb { D with nx := Pv (i + 1), ct := Pv (i + 1), bk := D.nx } σ2 H2) (hd : ∀ σ H, Pv n σ H → D.nx σ H) :
  ∃ W : Nat → Nat → St → Hp → Prop, (∃ m, W 0 m σ H) ∧ ∀ i m σ H, W i m σ H →
   ((Itr lo n).stop i H ∧ D.nx σ H) ∨ ((Itr lo n).go i H ∧ ∃ N : St → Hp → Prop, (∀ σ' H', N σ' H' → ∃ m', m' < m ∧ W (i + 1) m' σ' H') ∧ ∀ x H', (Itr lo n).yld i H x H' → g x σ H' fun σ2 H2 => tb { D with nx := N, ct := N, bk := D.nx } σ2 H2) := by
 refine ⟨fun i m σ H => m = n - i ∧ i ≤ n ∧ Pv i σ H, ⟨n, by simp, Nat.zero_le _, h0⟩, ?_⟩
 rintro i m σ H ⟨rfl, hi, p⟩
 by_cases hlt : i < n
 ·refine .inr ⟨hlt, Pv (i + 1), fun σ' H' p' => ⟨n - (i + 1), by lia, rfl, hlt, p'⟩, fun x H' y => ?_⟩
  obtain ⟨e, y⟩ := y
  subst e y
  exact hs i σ _ hlt p
 ·have e : i = n := by lia
  subst e
  exact .inl ⟨Nat.le_refl _, hd σ H p⟩
abbrev R2 := V → V → Hp → VK → Prop
def OpR (X : Cx) (f : Value → Value → Sem Value) (r : R2) : Prop :=
 ∀ (pins : List (Addr × Obj)) (s : Shared) (σ : St) (H : Hp) (x y : V) (v u : Value) (Q : VK), Inv X pins σ H s → RelV x v → RelV y u → r x y H Q →
  wpAny (model X.prog X.w) X.A (f v u) (EP X pins σ Q) X.xe s
def CallR (X : Cx) (f : Value) (r : List V → Hp → VK → Prop) : Prop :=
 ∀ (pins : List (Addr × Obj)) (s : Shared) (σ : St) (H : Hp) (xs : List V) (us : List Value) (Q : VK), Inv X pins σ H s → Vals xs us → r xs H Q →
  wpAny (model X.prog X.w) X.A (call f us) (EP X pins σ Q) X.xe s
def tOp (r : R2) (ta tb : TE) : TE := fun σ H Q => ta σ H fun x H1 => tb σ H1 fun y H2 => r x y H2 Q
inductive IrI (C : Int → Int → Prop) (g : Int → Int → V) (x : V) (y : V) (H : Hp) (Q : VK) : Prop
 | mk (i : _) (j : _) (h1 : x = .int i) (h2 : y = .int j) (h3 : C i j) (h4 : Q (g i j) H)
def rI (C : Int → Int → Prop) (g : Int → Int → V) : R2 := fun x y H Q => IrI C g x y H Q
inductive IrI0 (g : Int → Int → V) (x : V) (y : V) (H : Hp) (Q : VK) : Prop
 | mk (i : _) (j : _) (h1 : x = .int i) (h2 : y = .int j) (h3 : Q (g i j) H)
def rI0 (g : Int → Int → V) : R2 := fun x y H Q => IrI0 g x y H Q
section
variable {X : Cx} {a b c : Expr} {ta tb tc : TE} {pos : Pos}
theorem binT (ha : PE X a ta) (hb : PE X b tb) {pins : List (Addr × Obj)} {s : Shared} {σ : St} {H : Hp} {R : V → V → Hp → Prop} (I : Inv X pins σ H s)
  (h : ta σ H fun x H1 => tb σ H1 fun y H2 => R x y H2) {Q : Value → Shared → Prop} {f : Value → Value → Sem Value}
  (hf : ∀ v u s2 x y H2, Inv X pins σ H2 s2 → RelV x v → RelV y u → R x y H2 → wpAny (model X.prog X.w) X.A (f v u) Q X.xe s2) :
  wpAny (model X.prog X.w) X.A (eval a X.env) (fun v s₁ => wpAny (model X.prog X.w) X.A (eval b X.env) (fun u s₂ => wpAny (model X.prog X.w) X.A (f v u) Q X.xe s₂) X.xe s₁) X.xe s := by
 refine thn (ha pins s σ H _ I h) fun v s1 hqP => ?_
 obtain ⟨x, H1, I1, r1, q1⟩ := hqP
 refine thn (hb pins s1 σ H1 _ I1 q1) fun u s2 hqP => ?_
 obtain ⟨y, H2, I2, r2, q2⟩ := hqP
 exact hf v u s2 x y H2 I2 r1 r2 q2
theorem pe_op {op : Operator} {r : R2} (ho : OpR X (binaryOp op) r) (ha : PE X a ta) (hb : PE X b tb) : PE X (.BinOp a op b pos) (tOp r ta tb) := by
 intro pins s σ H Q I h
 exact wpAny_BinOp (binT ha hb I h fun v u s2 x y H2 I2 rx ry q => ho pins s2 σ H2 x y v u Q I2 rx ry q)
theorem opI {f : Value → Value → Sem Value} {C : Int → Int → Prop} {g : Int → Int → Int}
  (rule : ∀ (i j : Int) (t u : Tok) (s : Shared) (Q : Value → Shared → Prop) (E : Value → Shared → Prop), C i j → Q (.int (g i j) s.toks) { s with toks := s.toks + 1 } → wpAny (model X.prog X.w) X.A (f (.int i t) (.int j u)) Q E s) :
  OpR X f (rI C fun i j => .int (g i j)) := by
 intro pins s σ H x y v u Q I rx ry h
 obtain ⟨i, j, rfl, rfl, hc, q⟩ := h
 obtain ⟨t, rfl⟩ := rx
 obtain ⟨t', rfl⟩ := ry
 exact rule i j t t' s _ _ hc ⟨.int (g i j), H, I.tok _, ⟨_, rfl⟩, q⟩
theorem opI0 {f : Value → Value → Sem Value} {g : Int → Int → Int}
  (rule : ∀ (i j : Int) (t u : Tok) (s : Shared) (Q : Value → Shared → Prop) (E : Value → Shared → Prop), Q (.int (g i j) s.toks) { s with toks := s.toks + 1 } → wpAny (model X.prog X.w) X.A (f (.int i t) (.int j u)) Q E s) :
  OpR X f (rI0 fun i j => .int (g i j)) := by
 intro pins s σ H x y v u Q I rx ry h
 obtain ⟨i, j, rfl, rfl, q⟩ := h
 obtain ⟨t, rfl⟩ := rx
 obtain ⟨t', rfl⟩ := ry
 exact rule i j t t' s _ _ ⟨.int (g i j), H, I.tok _, ⟨_, rfl⟩, q⟩
theorem opB0 {f : Value → Value → Sem Value} {g : Int → Int → Bool}
  (rule : ∀ (i j : Int) (t u : Tok) (s : Shared) (Q : Value → Shared → Prop) (E : Value → Shared → Prop), Q (.bool (g i j)) s → wpAny (model X.prog X.w) X.A (f (.int i t) (.int j u)) Q E s) :
  OpR X f (rI0 fun i j => .bl (g i j)) := by
 intro pins s σ H x y v u Q I rx ry h
 obtain ⟨i, j, rfl, rfl, q⟩ := h
 obtain ⟨t, rfl⟩ := rx
 obtain ⟨t', rfl⟩ := ry
 exact rule i j t t' s _ _ ⟨.bl (g i j), H, I, rfl, q⟩
def CDiv (i j : Int) : Prop := 0 < j ∧ j < 1073741824
def CPow (i j : Int) : Prop := 0 ≤ j ∧ j ≤ 1000000 ∧ i.natAbs < 2 ^ 64
def CMul (i j : Int) : Prop := (-(2 ^ 64) < i ∧ i < 2 ^ 64) ∨ (-(2 ^ 64) < j ∧ j < 2 ^ 64)
theorem CMul.ok {i j : Int} (h : CMul i j) : IntMulOk i j := by
 rcases h with ⟨h1, h2⟩ | ⟨h1, h2⟩
 ·exact .of_left (intBits_le_64 h1 h2)
 ·exact .of_right (intBits_le_64 h1 h2)
theorem op_add : OpR X (binaryOp .Add) (rI0 fun i j => .int (i + j)) := opI0 fun _ _ _ _ _ _ _ q => add_int q
theorem op_sub : OpR X (binaryOp .Sub) (rI0 fun i j => .int (i - j)) := opI0 fun _ _ _ _ _ _ _ q => sub_int q
theorem op_mul : OpR X (binaryOp .Mult) (rI CMul fun i j => .int (i * j)) := opI fun _ _ _ _ _ _ _ hc q => mul_int q hc.ok
theorem op_fdiv : OpR X (binaryOp .FloorDiv) (rI CDiv fun i j => .int (i / j)) := opI fun i j _ _ _ _ _ hc q => by
 have h1 : (0 : Int) < j := hc.1
 have h2 : j < 1073741824 := hc.2
 exact floordiv_int (by lia) (by rw [Int.fdiv_eq_ediv_of_nonneg i (by lia)]; exact q) (.inl (PyProof.noPylong_small (by lia)))
theorem op_mod : OpR X (binaryOp .Mod) (rI (fun _ j => 0 < j) fun i j => .int (i % j)) := opI fun i j _ _ _ _ _ hc q => by
 have h1 : (0 : Int) < j := hc
 exact mod_int' (by lia) (by rw [Int.fmod_eq_emod_of_nonneg i (by lia)]; exact q)
theorem op_pow : OpR X (binaryOp .Pow) (rI CPow fun i j => .int (i ^ j.toNat)) := opI fun _ _ _ _ _ _ _ hc q => pow_int_small hc.1 hc.2.1 hc.2.2 q
end
def scal : V → V → Bool
 | .non, .non => true | .non, .int _ => true | .int _, .non => true | .non, .bl _ => true | .bl _, .non => true | .non, .str _ => true | .str _, .non => true
 | .int _, .int _ => true | .bl _, .bl _ => true | .str _, .str _ => true | .byt _, .byt _ => true
 | .int _, .str _ => true | .str _, .int _ => true | .bl _, .str _ => true | .str _, .bl _ => true
 | _, _ => false
def rEq : R2 := fun x y H Q => scal x y = true ∧ Q (.bl (decide (x = y))) H
def rNe : R2 := fun x y H Q => scal x y = true ∧ Q (.bl (!decide (x = y))) H
theorem dec_int {i j : Int} : decide (V.int i = V.int j) = (i == j) := by
 rw [Bool.eq_iff_iff]
 simp
theorem dec_bl {i j : Bool} : decide (V.bl i = V.bl j) = (i == j) := by
 rw [Bool.eq_iff_iff]
 simp
theorem dec_str {i j : Str} : decide (V.str i = V.str j) = (i == j) := by
 rw [Bool.eq_iff_iff]
 simp
theorem dec_byt {i j : Array UInt8} : decide (V.byt i = V.byt j) = (i.toList == j.toList) := by
 rw [Bool.eq_iff_iff]
 cases i
 cases j
 simp
section
variable {X : Cx} {a b c : Expr} {ta tb tc : TE} {pos : Pos}
theorem fin_bl {pins : List (Addr × Obj)} {σ : St} {H : Hp} {s : Shared} {Q : VK} {k k' : Bool} (I : Inv X pins σ H s) (q : Q (.bl k) H) (e : k = k') : EP X pins σ Q (.bool k') s := by
 subst e
 exact ⟨.bl k, H, I, rfl, q⟩
theorem op_eq : OpR X (compareOp .Eq) rEq := by
 intro pins s σ H x y v u Q I rx ry h
 obtain ⟨hs, q⟩ := h
 cases x with
 | non =>
  cases rx
  cases y with
  | non => cases ry; exact PySem.EqNone.eq_none_none (fin_bl I q (by simp))
  | bl j => cases ry; exact PySem.EqNone.eq_none_bool (fin_bl I q (by simp))
  | int j => obtain ⟨t', rfl⟩ := ry; exact PySem.EqNone.eq_none_int (fin_bl I q (by simp))
  | str j => obtain ⟨t', rfl⟩ := ry; exact PySem.EqNone.eq_none_str (fin_bl I q (by simp))
  | _ => exact absurd (show false = true from hs) Bool.false_ne_true
 | bl i =>
  cases rx
  cases y with
  | non => cases ry; exact PySem.EqNone.eq_bool_none (fin_bl I q (by simp))
  | bl j => cases ry; exact eq_bool (fin_bl I q dec_bl)
  | str j => obtain ⟨t', rfl⟩ := ry; exact PySem.EqMixed.eq_bool_str (fin_bl I q (by simp))
  | _ => exact absurd (show false = true from hs) Bool.false_ne_true
 | int i =>
  obtain ⟨t, rfl⟩ := rx
  cases y with
  | non => cases ry; exact PySem.EqNone.eq_int_none (fin_bl I q (by simp))
  | int j => obtain ⟨t', rfl⟩ := ry; exact eq_int (fin_bl I q dec_int)
  | str j => obtain ⟨t', rfl⟩ := ry; exact PySem.EqMixed.eq_int_str (fin_bl I q (by simp))
  | _ => exact absurd (show false = true from hs) Bool.false_ne_true
 | str i =>
  obtain ⟨t, rfl⟩ := rx
  cases y with
  | non => cases ry; exact PySem.EqNone.eq_str_none (fin_bl I q (by simp))
  | bl j => cases ry; exact PySem.EqMixed.eq_str_bool (fin_bl I q (by simp))
  | int j => obtain ⟨t', rfl⟩ := ry; exact PySem.EqMixed.eq_str_int (fin_bl I q (by simp))
  | str j => obtain ⟨t', rfl⟩ := ry; exact eq_str (fin_bl I q dec_str)
  | _ => exact absurd (show false = true from hs) Bool.false_ne_true
 | byt i =>
  obtain ⟨t, rfl⟩ := rx
  cases y with
  | byt j => obtain ⟨t', rfl⟩ := ry; exact PySem.W.eq_bytes (fin_bl I q dec_byt)
  | _ => exact absurd (show false = true from hs) Bool.false_ne_true
 | _ => cases y <;> exact absurd (show false = true from hs) Bool.false_ne_true
theorem op_ne : OpR X (compareOp .NotEq) rNe := by
 intro pins s σ H x y v u Q I rx ry h
 obtain ⟨hs, q⟩ := h
 cases x with
 | non =>
  cases rx
  cases y with
  | non => cases ry; exact PySem.EqNone.ne_none_none (fin_bl I q (by simp))
  | bl j => cases ry; exact PySem.EqNone.ne_none_bool (fin_bl I q (by simp))
  | int j => obtain ⟨t', rfl⟩ := ry; exact PySem.EqNone.ne_none_int (fin_bl I q (by simp))
  | str j => obtain ⟨t', rfl⟩ := ry; exact PySem.EqNone.ne_none_str (fin_bl I q (by simp))
  | _ => exact absurd (show false = true from hs) Bool.false_ne_true
 | bl i =>
  cases rx
  cases y with
  | non => cases ry; exact PySem.EqNone.ne_bool_none (fin_bl I q (by simp))
  | bl j => cases ry; exact ne_bool (fin_bl I q (congrArg not dec_bl))
  | str j => obtain ⟨t', rfl⟩ := ry; exact PySem.EqMixed.ne_bool_str (fin_bl I q (by simp))
  | _ => exact absurd (show false = true from hs) Bool.false_ne_true
 | int i =>
  obtain ⟨t, rfl⟩ := rx
  cases y with
  | non => cases ry; exact PySem.EqNone.ne_int_none (fin_bl I q (by simp))
  | int j => obtain ⟨t', rfl⟩ := ry; exact ne_int (fin_bl I q (congrArg not dec_int))
  | str j => obtain ⟨t', rfl⟩ := ry; exact PySem.EqMixed.ne_int_str (fin_bl I q (by simp))
  | _ => exact absurd (show false = true from hs) Bool.false_ne_true
 | str i =>
  obtain ⟨t, rfl⟩ := rx
  cases y with
  | non => cases ry; exact PySem.EqNone.ne_str_none (fin_bl I q (by simp))
  | bl j => cases ry; exact PySem.EqMixed.ne_str_bool (fin_bl I q (by simp))
  | int j => obtain ⟨t', rfl⟩ := ry; exact PySem.EqMixed.ne_str_int (fin_bl I q (by simp))
  | str j => obtain ⟨t', rfl⟩ := ry; exact ne_str (fin_bl I q (congrArg not dec_str))
  | _ => exact absurd (show false = true from hs) Bool.false_ne_true
 | byt i =>
  obtain ⟨t, rfl⟩ := rx
  cases y with
  | byt j => obtain ⟨t', rfl⟩ := ry; exact PySem.W.ne_bytes (fin_bl I q (congrArg not dec_byt))
  | _ => exact absurd (show false = true from hs) Bool.false_ne_true
 | _ => cases y <;> exact absurd (show false = true from hs) Bool.false_ne_true
theorem op_lt : OpR X (compareOp .Lt) (rI0 fun i j => .bl (decide (i < j))) := opB0 fun _ _ _ _ _ _ _ q => lt_int q
theorem op_le : OpR X (compareOp .LtE) (rI0 fun i j => .bl (decide (i ≤ j))) := opB0 fun _ _ _ _ _ _ _ q => le_int q
theorem op_gt : OpR X (compareOp .Gt) (rI0 fun i j => .bl (decide (j < i))) := opB0 fun _ _ _ _ _ _ _ q => gt_int q
theorem op_isN : OpR X (compareOp .Is) (fun x y H Q => y = .non ∧ Q (.bl (decide (x = .non))) H) := by
 intro pins s σ H x y v u Q I rx ry h
 obtain ⟨rfl, q⟩ := h
 cases ry
 refine is_none_gen (fin_bl I q ?_)
 cases x <;> first
  | (cases rx; rfl)
  | (obtain ⟨t, rfl⟩ := rx; rfl)
theorem op_notN : OpR X (compareOp .IsNot) (fun x y H Q => y = .non ∧ Q (.bl (!decide (x = .non))) H) := by
 intro pins s σ H x y v u Q I rx ry h
 obtain ⟨rfl, q⟩ := h
 cases ry
 refine isnot_none_gen (fin_bl I q ?_)
 cases x <;> first
  | (cases rx; rfl)
  | (obtain ⟨t, rfl⟩ := rx; rfl)
theorem nomark (b : Expr) {op : CmpOp} (h : autoParam (op ≠ .In) L2.aDec._auto_1) (h2 : autoParam (op ≠ .NotIn) L2.aDec._auto_1) : behindInMarks op b = false := by
 have e1 : (op == CmpOp.In) = false := by cases op <;> first | rfl | exact absurd rfl h
 have e2 : (op == CmpOp.NotIn) = false := by cases op <;> first | rfl | exact absurd rfl h2
 cases b <;> simp [behindInMarks, e1, e2]
theorem pe_cmpR {op : CmpOp} {r : R2} (ho : OpR X (compareOp op) r) (ha : PE X a ta) (hb : PE X b tb) (hm : behindInMarks op b = false) : PE X (.Compare a [op] [b] pos) (tOp r ta tb) := by
 intro pins s σ H Q I h
 exact wpAny_Compare1 (binT ha hb I h fun v u s2 x y H2 I2 rx ry q => ho pins s2 σ H2 x y v u Q I2 rx ry q) hm
inductive ItTest (Q : (Bool → Hp → Prop)) (x : V) (H' : Hp) : Prop
 | mk (k : _) (h1 : x = .bl k) (h2 : Q k H')
def tTest (t : TE) : TT := fun σ H Q => t σ H fun x H' => ItTest Q x H'
theorem pt_cmpR {op : CmpOp} {r : R2} (ho : OpR X (compareOp op) r) (ha : PE X a ta) (hb : PE X b tb) (hm : behindInMarks op b = false) : PT X (.Compare a [op] [b] pos) (tTest (tOp r ta tb)) := by
 intro pins s σ H Q I h
 refine wpAny_isTrue_Compare1 (thn (ha pins s σ H _ I h) fun v s1 ⟨x, H1, I1, r1, q1⟩ => thn (hb pins s1 σ H1 _ I1 q1) fun u s2 ⟨y, H2, I2, r2, q2⟩ =>
  thn (ho pins s2 σ H2 x y v u _ I2 r1 r2 q2) fun c s3 ⟨z, H3, I3, r3, k, e, q3⟩ => ?_) hm
 subst e
 cases r3
 exact wpAny_truthy_bool ⟨H3, I3, q3⟩
inductive ItChain (r' : R2) (tc : TE) (σ : St) (Q : VK) (y : V) (z : V) (H3 : Hp) : Prop
 | mk (k : _) (h1 : z = .bl k) (h2 : (if k = true then tc σ H3 fun w' H4 => r' y w' H4 Q else Q (.bl false) H3))
def tChain (r r' : R2) (ta tb tc : TE) : TE := fun σ H Q => ta σ H fun x H1 => tb σ H1 fun y H2 => r x y H2 fun z H3 => ItChain r' tc σ Q y z H3
theorem pe_chain {op op' : CmpOp} {r r' : R2} (ho : OpR X (compareOp op) r) (ho' : OpR X (compareOp op') r') (ha : PE X a ta) (hb : PE X b tb) (hc : PE X c tc)
  (hm : lastMarks [op, op'] [b, c] = false := by with_unfolding_all rfl) : PE X (.Compare a [op, op'] [b, c] pos) (tChain r r' ta tb tc) := by
 intro pins s σ H Q I h
 refine Compare_chain (thn (ha pins s σ H _ I h) fun v s1 ⟨x, H1, I1, r1, q1⟩ => chain_link (thn (hb pins s1 σ H1 _ I1 q1) fun u s2 ⟨y, H2, I2, r2, q2⟩ =>
  thn (ho pins s2 σ H2 x y v u _ I2 r1 r2 q2) fun d s3 ⟨z, H3, I3, r3, k, e, q3⟩ => ?_)) hm
 subst e
 cases r3
 refine wpAny_truthy_bool ?_
 cases k with
 | false => exact ite_ff ⟨.bl false, H3, I3, rfl, q3⟩
 | true => exact ite_tt (chain_last (thn (hc pins s3 σ H3 _ I3 q3) fun w' s4 ⟨z', H4, I4, r4, q4⟩ => ho' pins s4 σ H4 y z' u w' Q I4 r2 r4 q4))
theorem pt_chain {op op' : CmpOp} {r r' : R2} (ho : OpR X (compareOp op) r) (ho' : OpR X (compareOp op') r') (ha : PE X a ta) (hb : PE X b tb) (hc : PE X c tc)
  (hm : lastMarks [op, op'] [b, c] = false := by with_unfolding_all rfl) : PT X (.Compare a [op, op'] [b, c] pos) (tTest (tChain r r' ta tb tc)) := by
 intro pins s σ H Q I h
 refine isTrue_chain (thn (ha pins s σ H _ I h) fun v s1 ⟨x, H1, I1, r1, q1⟩ => test_link (thn (hb pins s1 σ H1 _ I1 q1) fun u s2 ⟨y, H2, I2, r2, q2⟩ =>
  thn (ho pins s2 σ H2 x y v u _ I2 r1 r2 q2) fun d s3 ⟨z, H3, I3, r3, k, e, q3⟩ => ?_)) hm
 subst e
 cases r3
 refine wpAny_truthy_bool ?_
 cases k with
 | false =>
  obtain ⟨k', e', q'⟩ := q3
  cases e'
  exact ite_ff ⟨H3, I3, q'⟩
 | true =>
  refine ite_tt (test_last (thn (hc pins s3 σ H3 _ I3 q3) fun w' s4 ⟨z', H4, I4, r4, q4⟩ => thn (ho' pins s4 σ H4 y z' u w' _ I4 r2 r4 q4) fun d' s5 hqP => ?_))
  obtain ⟨z2, H5, I5, r5, k2, e2, q5⟩ := hqP
  subst e2
  cases r5
  exact wpAny_truthy_bool ⟨H5, I5, q5⟩
theorem line63 : (sizeLine : Nat) < 2 ^ 63 := by rw [sizeLine_eq]; decide
inductive Cop_add_str (x : V) (y : V) (H : Hp) (Q : VK) : Prop
 | mk (i : _) (j : _) (h1 : x = .str i) (h2 : y = .str j) (h3 : i.length + j.length ≤ sizeLine) (h4 : Q (.str (i ++ j)) H)
theorem op_add_str : OpR X (binaryOp .Add) (fun x y H Q => Cop_add_str x y H Q) := by
 intro pins s σ H x y v u Q I rx ry h
 obtain ⟨i, j, rfl, rfl, hz, q⟩ := h
 obtain ⟨t, rfl⟩ := rx
 obtain ⟨t', rfl⟩ := ry
 exact add_str (fun t' tk => ⟨.str (i ++ j), H, I.tok _, ⟨_, rfl⟩, q⟩) hz
theorem vals1 {x : V} {us : List Value} (r : Vals [x] us) : ∃ u, us = [u] ∧ RelV x u := by
 cases r with
 | cons r1 r2 => cases r2; exact ⟨_, rfl, r1⟩
theorem vals2 {x y : V} {us : List Value} (r : Vals [x, y] us) : ∃ u w', us = [u, w'] ∧ RelV x u ∧ RelV y w' := by
 cases r with
 | cons r1 r2 =>
  cases r2 with
  | cons r3 r4 => cases r4; exact ⟨_, _, rfl, r1, r3⟩
inductive Ccall_max2 (xs : List V) (H : Hp) (Q : VK) : Prop
 | mk (i : _) (j : _) (h1 : xs = [.int i, .int j]) (h2 : Q (.int (if j > i then j else i)) H)
theorem call_max2 (hc : X.calm = true) : CallR X (.builtin "max") (fun xs H Q => Ccall_max2 xs H Q) := by
 intro pins s σ H xs us Q I r h
 obtain ⟨i, j, rfl, q⟩ := h
 obtain ⟨u, w', rfl, ⟨t, rfl⟩, ⟨t', rfl⟩⟩ := vals2 r
 refine max_two_ints (I.ok.hd hc) fun h' tk k => ⟨_, H, I.kept k, ?_, q⟩
 by_cases hj : j > i
 ·rw [if_pos hj, if_pos hj]; exact ⟨_, rfl⟩
 ·rw [if_neg hj, if_neg hj]; exact ⟨_, rfl⟩
inductive Ccall_min2 (xs : List V) (H : Hp) (Q : VK) : Prop
 | mk (i : _) (j : _) (h1 : xs = [.int i, .int j]) (h2 : Q (.int (if j < i then j else i)) H)
theorem call_min2 (hc : X.calm = true) : CallR X (.builtin "min") (fun xs H Q => Ccall_min2 xs H Q) := by
 intro pins s σ H xs us Q I r h
 obtain ⟨i, j, rfl, q⟩ := h
 obtain ⟨u, w', rfl, ⟨t, rfl⟩, ⟨t', rfl⟩⟩ := vals2 r
 refine min_two_ints (I.ok.hd hc) fun h' tk k => ⟨_, H, I.kept k, ?_, q⟩
 by_cases hj : j < i
 ·rw [if_pos hj, if_pos hj]; exact ⟨_, rfl⟩
 ·rw [if_neg hj, if_neg hj]; exact ⟨_, rfl⟩
theorem call_int1 : CallR X (.type "int") (fun xs H Q => (∃ i, xs = [.int i] ∧ Q (.int i) H) ∨ ∃ k, xs = [.bl k] ∧ Q (.int (if k then 1 else 0)) H) := by
 intro pins s σ H xs us Q I r h
 rcases h with ⟨i, rfl, q⟩ | ⟨k, rfl, q⟩
 ·obtain ⟨u, rfl, t, rfl⟩ := vals1 r
  exact call_int_int ⟨.int i, H, I, ⟨_, rfl⟩, q⟩
 ·obtain ⟨u, rfl, r1⟩ := vals1 r
  cases r1
  exact call_int_bool ⟨.int (if k then 1 else 0), H, I.tok _, ⟨_, rfl⟩, q⟩
end
structure ObjM (h : Heap) (x dx C : Addr) (mA : Str → Option Value) : Prop where
 obj : h.get? x = some (PySem.W.instObj C dx)
 ns : h.Ns1 dx mA
 ne : dx ≠ x
theorem lookIn_ns {h : Heap} {dx : Addr} {mA : Str → Option Value} (n : h.Ns1 dx mA) : ∃ od, h.get? dx = some od ∧ ∀ name, PySem.W.lookIn name od = some (mA name) := by
 obtain ⟨o, es, ep, ho, hd, hk, _, hm⟩ := n
 refine ⟨o, ho, fun name => ?_⟩
 have e := hm name
 unfold nsFind findBy at e
 rw [← Array.find?_toList] at e
 unfold PySem.W.lookIn
 rw [hd]
 dsimp only
 split
 ·rename_i y q
  rw [q] at e
  exact congrArg some e
 ·rename_i q
  rw [q] at e
  have a : es.toList.any (·.refKey) = false := by
   rw [List.any_eq_false]
   intro y hy
   obtain ⟨z, t, hkey⟩ := hk y (Array.mem_toList_iff.mp hy)
   simp [DictEntry.refKey, hkey]
  have a' : ¬ es.toList.any (·.refKey) = true := by rw [a]; exact Bool.false_ne_true
  rw [if_neg a']
  exact congrArg some e
theorem ObjM.look {h : Heap} {x dx C : Addr} {mA : Str → Option Value} (I : ObjM h x dx C mA) : ∃ od, PySem.W.InstAt h x (PySem.W.instObj C dx) C (some od) ∧ ∀ name, PySem.W.lookIn name od = some (mA name) :=
 let ⟨od, ho, hl⟩ := lookIn_ns I.ns
 ⟨od, ⟨I.obj, rfl, rfl, ho⟩, hl⟩
section
variable {prog : Program} {w : World} {A : Around} {E : Value → Shared → Prop} {s : Shared} {K : Fg} {x dx C f : Addr} {mA : Str → Option Value} {name : Str} {v : Value}
theorem get_map {expr : Bool} {Q : Value → Shared → Prop} (X : K.In s.heap) (I : ObjM s.heap x dx C mA) (hg : PySem.W.plainGet K C name = true) (hh : PySem.W.hasDictIn K C = true)
  (ha : PySem.W.findIn K (.ref C) name = some none) (hv : mA name = some v) (hv' : PySem.W.handedIn v = true) (h : Q v { s with toks := s.toks + 1 }) :
  wpAny (model prog w) A (getAttr (.ref x) name expr) Q E s := by
 obtain ⟨od, J, hl⟩ := I.look
 exact PySem.W.get_value X J (PySem.W.plainGet_of hg).1 (PySem.W.findObj_own hh ha rfl (by rw [hl, hv])) hv' h
theorem get_meth {pl : Sem Bool} {Q : Value × List Value → Shared → Prop} (X : K.In s.heap) (I : ObjM s.heap x dx C mA) (hg : PySem.W.plainGet K C name = true)
  (hf : PySem.W.findIn K (.ref C) name = some (some (.ref f))) (ht : PySem.W.isFn K (.ref f) = true) (hv : mA name = none) (h : Q (.ref f, [.ref x]) s) :
  wpAny (model prog w) A (getMethod (.ref x) name pl) Q E s := by
 obtain ⟨od, J, hl⟩ := I.look
 exact PySem.W.method_fn X J (PySem.W.plainGet_of hg).1 (PySem.W.plainGet_of hg).2 hf (beq_iff_eq.mp ht) (by show (PySem.W.lookIn name od).map (·.isSome) = some false; rw [hl, hv]; rfl) h
theorem set_map {ns : List Str} {Q : Unit → Shared → Prop} (X : K.In s.heap) (I : ObjM s.heap x dx C mA)
  (hs : PySem.W.findIn K (.ref C) "__setattr__" = some (some (.builtin "object.__setattr__"))) (hp : PySem.W.plainOver K C = true) (ht : PySem.W.takerIn K C name = some none) (hh : PySem.W.hasDictIn K C = true)
  (hw : PySem.Within mA ns) (hsz : ns.length ≤ sizeLine)
  (h : ∀ h', ObjM h' x dx C (fun y => if y = name then some v else mA y) → Heap.SameBut dx s.heap h' → Q () { s with heap := h', toks := s.toks + 2 }) :
  wpAny (model prog w) A (setAttr (.ref x) name v) Q E s := by
 obtain ⟨od, J, hl⟩ := I.look
 refine PySem.W.set_plain X J hs (PySem.W.osa_open (s := { s with toks := s.toks + 1 }) (r := none) X J hp ht fun b => ?_)
 obtain ⟨cd, hc, hd'⟩ := PySem.W.any_some hh
 have hx : s.heap.get? x = some ⟨.ref C, some dx, .plain, #[]⟩ := I.obj
 refine wpAny_bind (wpAny_pure (wpAny_bind (wpAny_bind (wpAny_loadPart hx (wpAny_bind (PySem.W.Looks.here (s := { s with toks := s.toks + 1 }) (PySem.W.looks_clsIn X hc) ?_))))))
 rw [hd']
 refine wpAny_pure (a := some dx) (wpAny_bind (wpAny_pure (wpAny_bind ?_)))
 refine wpAny_nsSet1 (s := { s with toks := s.toks + 1 }) I.ns fun h' hn2 hs2 => ?_
 obtain ⟨oD, esD, epD, hoD, hdD, hcD⟩ := hn2.count (PySem.Within.cons name v hw)
 refine wpAny_bind (wpAny_lookBehind hoD (by rw [hdD]; exact pastItsLine_dict (Nat.le_trans hcD (by rw [List.length_cons]; lia))) ?_)
 exact wpAny_pure (h _ ⟨(hs2.2 _ (Ne.symm I.ne)).trans I.obj, hn2, I.ne⟩ hs2)
theorem make_map {R : Result → Shared → Prop} {vs : List Value} {kw : List (Str × Value)} (X : K.In s.heap) (hm : PySem.W.makesIn K C = true)
  (hi : PySem.W.findIn K (.ref C) "__init__" = some (some (.ref f))) (hf : PySem.W.typeIn K (.ref f) = some (.type "function"))
  (h : codeAny (model prog w) (A.under (.builtin "type.__call__" ⟨.ref C :: vs, kw⟩)) (.call (.ref f) ⟨.ref (s.heap.objs.size + 1) :: vs, kw⟩) (PySem.W.InitBack (s.heap.objs.size + 1) R)
   { s with heap := (s.heap.push PySem.W.emptyDict).push (PySem.W.instObj C s.heap.objs.size) }) :
  codeAny (model prog w) A (.call (.ref C) ⟨vs, kw⟩) R s := by
 obtain ⟨hh, g, d, t, os⟩ := s
 exact PySem.W.make_core (PySem.W.makes_of X hm) (PySem.W.looks_findIn X hi) (fun self => PySem.W.bind_fn X self hf) (.inl rfl) h
end
def putF (f : Str) (v : V) : List (Str × V) → List (Str × V)
 | [] => [(f, v)]
 | (g, x) :: r => if g = f then (g, v) :: r else (g, x) :: putF f v r
theorem lookup_putF (f g : Str) (v : V) : ∀ fs : List (Str × V), (putF f v fs).lookup g = if g = f then some v else fs.lookup g
 | [] => by
  show List.lookup g [(f, v)] = _
  by_cases h : g = f
  ·have hb : (g == f) = true := beq_iff_eq.mpr h
   simp only [List.lookup, hb, if_pos h]
  ·have hb : (g == f) = false := beq_eq_false_iff_ne.mpr h
   simp only [List.lookup, hb, if_neg h]
 | (k, x) :: r => by
  have ih := lookup_putF f g v r
  rw [show putF f v ((k, x) :: r) = (if k = f then (k, v) :: r else (k, x) :: putF f v r) from rfl]
  by_cases hk : k = f
  ·rw [if_pos hk]
   by_cases h : g = k
   ·have hb : (g == k) = true := beq_iff_eq.mpr h
    simp only [List.lookup, hb, if_pos (h.trans hk)]
   ·have hb : (g == k) = false := beq_eq_false_iff_ne.mpr h
    simp only [List.lookup, hb, if_neg (fun e : g = f => h (e.trans hk.symm))]
  ·rw [if_neg hk]
   by_cases h : g = k
   ·have hb : (g == k) = true := beq_iff_eq.mpr h
    simp only [List.lookup, hb, if_neg (fun e : g = f => hk (h.symm.trans e))]
   ·have hb : (g == k) = false := beq_eq_false_iff_ne.mpr h
    simp only [List.lookup, hb]
    exact ih
theorem keys_putF (f : Str) (v : V) : ∀ fs : List (Str × V), f ∈ (putF f v fs).map (·.1) ∧ ∀ g, g ∈ fs.map (·.1) → g ∈ (putF f v fs).map (·.1)
 | [] => ⟨by simp [putF], fun g h => by simp at h⟩
 | (k, x) :: r => by
  obtain ⟨i1, i2⟩ := keys_putF f v r
  rw [show putF f v ((k, x) :: r) = (if k = f then (k, v) :: r else (k, x) :: putF f v r) from rfl]
  by_cases hk : k = f
  ·rw [if_pos hk]
   subst hk
   exact ⟨by simp, fun g h => by simpa using h⟩
  ·rw [if_neg hk]
   refine ⟨?_, fun g h => ?_⟩
   ·rw [List.map_cons]
    exact List.mem_cons_of_mem _ i1
   ·rw [List.map_cons] at h ⊢
    rcases List.mem_cons.mp h with e | e
    ·exact List.mem_cons.mpr (.inl e)
    ·exact List.mem_cons_of_mem _ (i2 g e)
theorem length_putF (f : Str) (v : V) : ∀ fs : List (Str × V), (putF f v fs).length ≤ fs.length + 1
 | [] => by simp [putF]
 | (k, x) :: r => by
  have ih := length_putF f v r
  rw [show putF f v ((k, x) :: r) = (if k = f then (k, v) :: r else (k, x) :: putF f v r) from rfl]
  by_cases hk : k = f
  ·rw [if_pos hk, List.length_cons, List.length_cons]; lia
  ·rw [if_neg hk, List.length_cons, List.length_cons]; lia
theorem RelO.some_of {v : V} {o : Option Value} (r : RelO (some v) o) : ∃ u, o = some u ∧ RelV v u := by
 cases o with
 | none => exact (show False from r).elim
 | some u => exact ⟨u, rfl, r⟩
theorem RelO.none_of {o : Option Value} (r : RelO none o) : o = none := by
 cases o with
 | none => rfl
 | some u => exact (show False from r).elim
theorem handed_of {v : V} {u : Value} (r : RelV v u) : PySem.W.handedIn u = true := by
 cases v with
 | non => cases (show u = Value.none from r); rfl
 | bl b => cases (show u = Value.bool b from r); rfl
 | int i => obtain ⟨t, e⟩ := (show ∃ t, u = Value.int i t from r); cases e; rfl
 | str x => obtain ⟨t, e⟩ := (show ∃ t, u = Value.str x t from r); cases e; rfl
 | byt b => obtain ⟨t, e⟩ := (show ∃ t, u = Value.bytes b t from r); cases e; rfl
 | flt b => obtain ⟨t, e⟩ := (show ∃ t, u = Value.float b t from r); cases e; rfl
 | ref a => cases (show u = Value.ref a from r); rfl
 | ty n => cases (show u = Value.type n from r); rfl
section
variable {P : Program} {w : World} {H H' : Hp} {h h' : Heap} {a C dx : Addr} {fs fs' : List (Str × V)}
theorem ins_get (hok : HOk P w H h) (e : H a = some (.ins C dx fs)) : ∃ mA, ObjM h a dx C mA ∧ (∀ f, RelO (fs.lookup f) (mA f)) ∧ PySem.Within mA (fs.map (·.1)) ∧ fs.length ≤ 1000 ∧ H dx = some (.own a) := by
 obtain ⟨d, z, ne, ob, mA, n, r, q⟩ := (show ObjOk P w H h a (.ins C dx fs) from hok a _ e)
 exact ⟨mA, ⟨ob, n, ne⟩, r, q, z, d⟩
end
structure Cls (K : Fg) (C : Addr) : Prop where
 pg : PySem.W.plainGet K C Str.empty = true
 hd : PySem.W.hasDictIn K C = true
 po : PySem.W.plainOver K C = true
 sa : PySem.W.findIn K (.ref C) "__setattr__" = some (some (.builtin "object.__setattr__"))
theorem Cls.get {K : Fg} {C : Addr} (c : Cls K C) (f : Str) : PySem.W.plainGet K C f = true := c.pg
def NoAttr (K : Fg) (C : Addr) (f : Str) : Prop := PySem.W.findIn K (.ref C) f = some none
theorem NoAttr.taker {K : Fg} {C : Addr} {f : Str} (n : NoAttr K C f) : PySem.W.takerIn K C f = some none := by
 unfold PySem.W.takerIn
 rw [show PySem.W.findIn K (.ref C) f = some none from n]
 rfl
structure Meth (K : Fg) (C : Addr) (m : Str) (f : Addr) : Prop where
 at_ : PySem.W.findIn K (.ref C) m = some (some (.ref f))
 fn : PySem.W.isFn K (.ref f) = true
 kp : PySem.W.keepIn K (.ref f) = true
section
variable {X : Cx} {pins : List (Addr × Obj)} {σ : St} {H : Hp} {s : Shared} {a C dx : Addr} {fs : List (Str × V)} {f : Str} {v : V} {A : Around} {E : Value → Shared → Prop}
theorem getattr_ok {b : Bool} {Q : Value → Shared → Prop} (I : Inv X pins σ H s) (e : H a = some (.ins C dx fs)) (c : Cls X.K C) (n : NoAttr X.K C f) (l : fs.lookup f = some v)
  (h : ∀ u s', Inv X pins σ H s' → RelV v u → Q u s') : wpAny (model X.prog X.w) A (getAttr (.ref a) f b) Q E s := by
 obtain ⟨mA, O, r, _, _, _⟩ := ins_get I.hok e
 obtain ⟨u, hu, ru⟩ := RelO.some_of (v := v) (o := mA f) (by rw [← l]; exact r f)
 exact get_map I.kIn O (c.get f) c.hd n hu (handed_of ru) (h u _ (I.tok _) ru)
theorem getmeth_ok {m : Str} {g : Addr} {pl : Sem Bool} {Q : Value × List Value → Shared → Prop} (I : Inv X pins σ H s) (e : H a = some (.ins C dx fs)) (c : Cls X.K C) (k : Meth X.K C m g) (l : fs.lookup m = none)
  (h : Q (.ref g, [.ref a]) s) : wpAny (model X.prog X.w) A (getMethod (.ref a) m pl) Q E s := by
 obtain ⟨mA, O, r, _, _, _⟩ := ins_get I.hok e
 have hn : mA m = none := RelO.none_of (by rw [← l]; exact r m)
 exact get_meth I.kIn O (c.get m) k.at_ k.fn hn h
theorem setattr_ok {y : V} {u : Value} {Q : Unit → Shared → Prop} (I : Inv X pins σ H s) (e : H a = some (.ins C dx fs)) (c : Cls X.K C) (n : NoAttr X.K C f) (hl : fs.length < 1000) (ry : RelV y u)
  (h : ∀ s', Inv X pins σ (upd H a (.ins C dx (putF f y fs))) s' → Q () s') : wpAny (model X.prog X.w) A (setAttr (.ref a) f u) Q E s := by
 obtain ⟨mA, O, r, wi, _, ho⟩ := ins_get I.hok e
 have hz : (fs.map (·.1)).length ≤ sizeLine := by rw [List.length_map, sizeLine_eq]; lia
 refine set_map I.kIn O c.sa c.po n.taker c.hd wi hz fun h' O' sb => h _ ?_
 have hd : ∃ o, h'.get? dx = some o := let ⟨o, _, _, e', _⟩ := O'.ns; ⟨o, e'⟩
 refine I.write (x := a) (e := dx) (by rw [e]; exact True.intro) (.inr ho) (fun b q hb z => (sb.2 b hb).trans z) hd ?_
 refine ⟨by rw [upd_ne O.ne]; exact ho, ?_, O.ne, O'.obj, _, O'.ns, fun g => ?_, fun g hg => ?_⟩
 ·have := length_putF f y fs; lia
 ·show RelO ((putF f y fs).lookup g) (if g = f then some u else mA g)
  rw [lookup_putF]
  by_cases q : g = f
  ·rw [if_pos q, if_pos q]; exact ry
  ·rw [if_neg q, if_neg q]; exact r g
 ·by_cases q : g = f
  ·rw [q]; exact (keys_putF f y fs).1
  ·refine (keys_putF f y fs).2 g (wi g fun z => hg ?_)
   show (if g = f then some u else mA g) = none
   rw [if_neg q]; exact z
theorem Inv.made (I : Inv X pins σ H s) : Inv X pins σ (upd (upd H s.heap.objs.size (.own (s.heap.objs.size + 1))) (s.heap.objs.size + 1) (.ins C s.heap.objs.size []))
  { s with heap := (s.heap.push PySem.W.emptyDict).push (PySem.W.instObj C s.heap.objs.size) } := by
 have e1 : (s.heap.push PySem.W.emptyDict).get? s.heap.objs.size = some PySem.W.emptyDict := Heap.get?_push_size s.heap rfl
 have e2 : ((s.heap.push PySem.W.emptyDict).push (PySem.W.instObj C s.heap.objs.size)).get? (s.heap.objs.size + 1) = some (PySem.W.instObj C s.heap.objs.size) := by
  have := Heap.get?_push_size (s.heap.push PySem.W.emptyDict) (o := PySem.W.instObj C s.heap.objs.size) rfl
  rwa [Heap.size_push] at this
 have e3 : (s.heap.push PySem.W.emptyDict).Ns s.heap.objs.size (fun _ => none) := ⟨PySem.W.emptyDict, #[], _, e1, rfl, (fun e he => absurd he (by simp)), fun _ => rfl⟩
 have I1 := I.laid (a := s.heap.objs.size) (o := .own (s.heap.objs.size + 1)) (h' := s.heap.push PySem.W.emptyDict) (t' := s.toks) (fun b u q => Heap.get?_push_of_some _ q) (Nat.le_refl _) ⟨_, e1⟩
 refine I1.laid (a := s.heap.objs.size + 1) (o := .ins C s.heap.objs.size []) (t' := s.toks) (fun b u q => Heap.get?_push_of_some _ q) (Nat.le_of_eq (Heap.size_push _ _)) ?_
 have ne : s.heap.objs.size ≠ s.heap.objs.size + 1 := Nat.ne_of_lt (Nat.lt_succ_self _)
 refine ⟨by rw [upd_ne ne, upd_same], Nat.zero_le _, ne, e2, fun _ => none, (Heap.Ns1.of_empty e3).at fun o q => Heap.get?_push_of_some _ q, fun _ => True.intro, fun y hy => absurd rfl hy⟩
theorem attr_of {prog : Program} {w : World} {env : Env} {e : Expr} {f : Str} {pos : Pos} {s : Shared} {Q : Value → Shared → Prop} (hb : attributeBase e f env (eval e env) = eval e env)
  (h : wpAny (model prog w) A (eval e env) (fun o s₁ => wpAny (model prog w) A (getAttr o f true) Q E s₁) E s) : wpAny (model prog w) A (eval (.Attribute e f pos) env) Q E s :=
 Attribute_any_ h (by rw [arm_eval_Attribute, hb])
end
inductive ItFld (K : Fg) (f : Str) (Q : VK) (x : V) (H1 : Hp) : Prop
 | mk (a : _) (C : _) (dx : _) (fs : _) (v : _) (h1 : x = .ref a) (h2 : H1 a = some (.ins C dx fs)) (h3 : Cls K C) (h4 : NoAttr K C f) (h5 : fs.lookup f = some v) (h6 : Q v H1)
def tFld (K : Fg) (ta : TE) (f : Str) : TE := fun σ H Q => ta σ H fun x H1 => ItFld K f Q x H1
inductive IsFld (K : Fg) (f : Str) (D : Ends) (σ : St) (y : V) (x : V) (H2 : Hp) : Prop
 | mk (a : _) (C : _) (dx : _) (fs : _) (h1 : x = .ref a) (h2 : H2 a = some (.ins C dx fs)) (h3 : Cls K C) (h4 : NoAttr K C f) (h5 : fs.length < 1000) (h6 : D.nx σ (upd H2 a (.ins C dx (putF f y fs))))
def sFld (K : Fg) (ta tv : TE) (f : Str) : TS := fun D σ H => tv σ H fun y H1 => ta σ H1 fun x H2 => IsFld K f D σ y x H2
section
variable {X : Cx} {o e value : Expr} {f : Str} {pos pos' tpos : Pos} {ta tv : TE}
theorem pe_fld (he : PE X e ta) (hb : attributeBase e f X.env (eval e X.env) = eval e X.env) : PE X (.Attribute e f pos) (tFld X.K ta f) := by
 intro pins s σ H Q I h
 refine attr_of hb (thn (he pins s σ H _ I h) fun u s1 hqP => ?_)
 obtain ⟨x, H1, I1, rx, a, C, dx, fs, v, ex, ea, c, n, l, q⟩ := hqP
 subst ex
 obtain rfl : u = Value.ref a := rx
 exact getattr_ok I1 ea c n l fun u' s2 I2 ru => ⟨v, H1, I2, ru, q⟩
theorem ps_fld (ha : PE X o ta) (hv : PE X value tv) (hs : swapsWith value (some (.Attribute o f pos')) pos.line X.env = pure false) : PS X (.Assign [.Attribute o f pos'] value pos) (sFld X.K ta tv f) := by
 intro pins s σ H D I h
 refine plainObj_wpAny_Assign_Attribute (thn (hv pins s σ H _ I h) fun u s1 ⟨y, H1, I1, ry, q⟩ => thn (ha pins s1 σ H1 _ I1 q) fun ov s2 hqP => ?_) hs
 obtain ⟨x, H2, I2, rx, a, C, dx, fs, ex, ea, c, n, l, q2⟩ := hqP
 subst ex
 obtain rfl : ov = Value.ref a := rx
 exact setattr_ok I2 ea c n l ry fun s3 I3 => ⟨σ, _, I3, q2⟩
end
section
variable {X : Cx} {pins : List (Addr × Obj)} {σ : St} {H : Hp} {s : Shared} {A : Around} {E : Value → Shared → Prop} {Q : Value → Shared → Prop} {c : Value} {b : Bool}
end
structure Room (k : Nat) (A : Around) : Prop where
 hd : A.handled = none
 dp : A.depth + 3 * k + 5 < recursionLimit
 un : A.units + 16 * k + 200 < cLine
theorem Room.mono {j k : Nat} {A : Around} (r : Room k A) (h : j ≤ k) : Room j A := ⟨r.hd, by have := r.dp; lia, by have := r.un; lia⟩
theorem Room.deeper {k : Nat} {A : Around} (r : Room (k + 1) A) (env : Env) : Room k (A.deeper env) :=
 ⟨r.hd, by have := r.dp; show A.depth + 1 + 3 * k + 5 < _; lia, by have := r.un; show A.units + 3 + 16 * k + 200 < _; lia⟩
theorem make_depth {A : Around} {C : Addr} {us : List Value} {kw : List (Str × Value)} : (A.under (.builtin "type.__call__" ⟨.ref C :: us, kw⟩)).depth = A.depth + 1 := by
 first | rfl | simp [Around.under, Code.weight, Code.isCreation, Code.isGuard, Code.isCaller, Code.frames, Code.isFrame, guardIds]
theorem make_units {A : Around} {C : Addr} {us : List Value} {kw : List (Str × Value)} : (A.under (.builtin "type.__call__" ⟨.ref C :: us, kw⟩)).units = A.units + 1 := by
 first | rfl | simp [Around.under, Code.cUnits, Code.frames, Code.isFrame]
theorem Room.make {k : Nat} {A : Around} (r : Room (k + 1) A) (C : Addr) (us : List Value) (kw : List (Str × Value)) : Room k (A.under (.builtin "type.__call__" ⟨.ref C :: us, kw⟩)) :=
 ⟨r.hd, by have := r.dp; rw [make_depth]; lia, by have := r.un; rw [make_units]; lia⟩
theorem Room.depth {k : Nat} {A : Around} (r : Room k A) : A.depth < recursionLimit := by have := r.dp; lia
theorem Room.units {k : Nat} {A : Around} (r : Room k A) : A.units + 64 < cLine := by have := r.un; lia
def tNil : TA := fun _ H Q => Q [] H
def tCons (ta : TE) (tr : TA) : TA := fun σ H Q => ta σ H fun x H1 => tr σ H1 fun xs H2 => Q (x :: xs) H2
section
variable {X : Cx} {e : Expr} {es : List Expr} {te : TE} {t : TA} {pos : Pos}
theorem pa_nil : PA X [] tNil := fun _ _ _ _ H Q I h => Calls.spliced_nil ⟨[], H, I, .nil, h⟩
theorem pa_cons (ha : PE X e te) (hr : PA X es t) (hs : autoParam (starEach (e :: es) X.env = (false, eval e X.env) :: starEach es X.env) L2.aRfl._auto_1) : PA X (e :: es) (tCons te t) := by
 intro pos pins s σ H Q I h
 rw [hs]
 show wpAny _ _ (spliced ((false, eval e X.env) :: backTo pos (starEach es X.env))) _ _ s
 refine Calls.spliced_cons (thn (ha pins s σ H _ I h) fun u s1 hqP => ?_)
 obtain ⟨x, H1, I1, r1, q1⟩ := hqP
 exact thn (hr pos pins s1 σ H1 _ I1 q1) fun us s2 ⟨xs, H2, I2, r2, q2⟩ => ⟨x :: xs, H2, I2, .cons r1 r2, q2⟩
def tTup (t : TA) : TE := fun σ H Q => t σ H fun xs H1 => xs.length ≤ sizeLine ∧ ∀ p, H1 p = none → Q (.ref p) (upd H1 p (.tup xs))
def tLst (t : TA) : TE := fun σ H Q => t σ H fun xs H1 => xs.length ≤ sizeLine ∧ ∀ p, H1 p = none → Q (.ref p) (upd H1 p (.lst xs))
theorem pe_tup {x1} (h : PA X es t) : PE X (.Tuple es x1 pos) (tTup t) := by
 intro pins s σ H Q I hq
 refine wpAny_Tuple_spliced (thn (h pos pins s σ H _ I hq) fun us s1 ⟨xs, H1, I1, r, z, q⟩ => ⟨by rw [← r.length]; exact z, ?_⟩)
 have hf : H1 s1.heap.objs.size = none := I1.hok.fresh (Nat.le_refl _)
 refine ⟨.ref s1.heap.objs.size, upd H1 s1.heap.objs.size (.tup xs), I1.laid (t' := s1.toks) (fun b u e => Heap.get?_push_of_some _ e) (Nat.le_refl _) ?_, rfl, q _ hf⟩
 exact ⟨z, us, r, ⟨_, Heap.get?_push_size _ rfl, rfl, _, rfl⟩⟩
theorem pe_lst (h : PA X es t) : PE X (.List es pos) (tLst t) := by
 intro pins s σ H Q I hq
 refine wpAny_List_spliced (thn (h pos pins s σ H _ I hq) fun us s1 ⟨xs, H1, I1, r, z, q⟩ => ⟨by rw [← r.length]; exact z, ?_⟩)
 have hf : H1 s1.heap.objs.size = none := I1.hok.fresh (Nat.le_refl _)
 refine ⟨.ref s1.heap.objs.size, upd H1 s1.heap.objs.size (.lst xs), I1.laid (t' := s1.toks) (fun b u e => Heap.get?_push_of_some _ e) (Nat.le_refl _) ?_, rfl, q _ hf⟩
 exact ⟨z, us, 0, r, Heap.get?_push_size _ rfl⟩
end
abbrev Sp := List V → Hp → VK → XK → Prop
abbrev CXT := List Env → Hp → Shared → XK → Value → Shared → Prop
structure Env0 (P : Program) (w : World) (K : Fg) (mg : Str → Option Value) (base : Heap) (A : Around) (outer : List Env) (s : Shared) (H : Hp) : Prop where
 frames : A.frames = some outer
 mod : Mod K mg base
 bs : ∀ b o, base.get? b = some o → s.heap.get? b = some o ∧ H b = none
 bsz : base.objs.size ≤ s.heap.objs.size
 funs : s.heap.FunFrames base outer
 frf : ∀ b ∈ frs outer, H b = none
 hok : HOk P w H s.heap
 bare : AllBare s.gens
def CE (outer : List Env) (P : Program) (w : World) (H : Hp) (s : Shared) (Q : VK) (u : Value) (s' : Shared) : Prop :=
 ∃ v H', s'.os = s.os ∧ AllBare s'.gens ∧ Un (frs outer) [] H H' s.heap s'.heap ∧ HOk P w H' s'.heap ∧ RelV v u ∧ Q v H'
def CR (CX : CXT) (outer : List Env) (P : Program) (w : World) (H : Hp) (s : Shared) (Q : VK) (E : XK) (r : Result) (s' : Shared) : Prop :=
 match r with
 | .ok (.ret u) => CE outer P w H s Q u s'
 | .ok _ => False
 | .error e => CX outer H s E e s'
structure FnOk (P : Program) (w : World) (K : Fg) (mg : Str → Option Value) (base : Heap) (CX : CXT) (k : Nat) (f : Addr) (fd : FuncData) (ps : List Str) (sp : Sp) : Prop where
 len : ∀ vs H Q E, sp vs H Q E → vs.length = ps.length
 run : ∀ (A : Around) (outer : List Env) (s : Shared) (H : Hp) (args : Args) (us : List Value) (vs : List V) (Q : VK) (E : XK), Room k A → Env0 P w K mg base A outer s H → BindsTo s fd args (ps.zip us) → Vals vs us → sp vs H Q E →
  codeAny (model P w) A (.call (.ref f) args) (CR CX outer P w H s Q E) s
theorem Env0.make {P : Program} {w : World} {K : Fg} {mg : Str → Option Value} {base : Heap} {A : Around} {outer : List Env} {s : Shared} {H : Hp} (e : Env0 P w K mg base A outer s H) (C : Addr) (us : List Value) (kw : List (Str × Value)) :
  Env0 P w K mg base (A.under (.builtin "type.__call__" ⟨.ref C :: us, kw⟩)) outer s H := ⟨by first | exact e.frames | (simpa [Around.under, Code.envs, Code.isFrame, pushEnvs] using e.frames), e.mod, e.bs, e.bsz, e.funs, e.frf, e.hok, e.bare⟩
section
variable {X : Cx} {pins : List (Addr × Obj)} {σ : St} {H : Hp} {s s' : Shared}
theorem Inv.env0 (I : Inv X pins σ H s) : Env0 X.prog X.w X.K X.mg X.base X.A X.stack s H :=
 ⟨I.ok.frames, I.ok.mod, I.bs, Nat.le_trans I.ok.bsz I.sz, I.stack, I.stkFree, I.hok, I.bare⟩
theorem Inv.after {Q : VK} {u : Value} (I : Inv X pins σ H s) (h : CE X.stack X.prog X.w H s Q u s') : EP X pins σ Q u s' := by
 obtain ⟨v, H', os, bare, un, hok, r, q⟩ := h
 obtain ⟨hh, g, d, t, os'⟩ := s'
 obtain rfl : os' = s.os := os
 exact ⟨v, H', I.call (h' := hh) (g' := g) (d' := d) (t' := t) (ch := []) un hok bare (fun b z => absurd z (by simp)), r, q⟩
end
def tCall (sp : Sp) (dvs : List V) (E : XK) (t : TA) : TE := fun σ H Q => t σ H fun vs H1 => sp (vs ++ dvs) H1 Q E
inductive ItMeth (C : Addr) (m : Str) (sp : Sp) (dvs : List V) (E : XK) (t : TA) (σ : St) (Q : VK) (x : V) (H1 : Hp) : Prop
 | mk (a : _) (dx : _) (fs : _) (h1 : x = .ref a) (h2 : H1 a = some (.ins C dx fs)) (h3 : fs.lookup m = none) (h4 : t σ H1 fun vs H2 => sp (x :: (vs ++ dvs)) H2 Q E)
def tMeth (C : Addr) (m : Str) (sp : Sp) (dvs : List V) (E : XK) (ta : TE) (t : TA) : TE := fun σ H Q => ta σ H fun x H1 => ItMeth C m sp dvs E t σ Q x H1
def tMake (C : Addr) (sp : Sp) (dvs : List V) (E : XK) (t : TA) : TE := fun σ H Q => t σ H fun vs H1 => ∀ x dx, H1 x = none → H1 dx = none → dx ≠ x →
 sp (.ref x :: (vs ++ dvs)) (upd (upd H1 dx (.own x)) x (.ins C dx [])) (fun v H2 => v = .non ∧ Q (.ref x) H2) E
def Binds (K : Fg) (fd : FuncData) (ps : List Str) (ds : List Value) : Prop :=
 ∀ (s : Shared) (us : List Value), K.In s.heap → (us ++ ds).length = ps.length → BindsTo s fd ⟨us, []⟩ (ps.zip (us ++ ds))
theorem Binds.all {K : Fg} {fd : FuncData} {ps : List Str} (h : ∀ us : List Value, us.length = ps.length → bindArgs fd ⟨us, []⟩ = pure (ps.zip us)) : Binds K fd ps [] := fun s us _ hl => by
 rw [List.append_nil] at hl ⊢
 exact .of_eq (h us hl)
def Passes (CX : CXT) (X : Cx) (E : XK) : Prop := ∀ (pins : List (Addr × Obj)) (σ : St) (H : Hp) (s : Shared) (e : Value) (s' : Shared), Inv X pins σ H s → CX X.stack H s E e s' → X.xe e s'
section
variable {X : Cx} {CX : CXT} {k : Nat} {f C : Addr} {fd : FuncData} {ps : List Str} {sp : Sp} {dvs : List V} {ds : List Value} {E : XK} {x m : Str} {p pos apos : Pos} {e o : Expr} {es : List Expr} {ta : TE} {t : TA}
theorem run_fn {pins : List (Addr × Obj)} {σ : St} {H : Hp} {s : Shared} {Q : VK} {us : List Value} {vs : List V} (F : FnOk X.prog X.w X.K X.mg X.base CX k f fd ps sp) (hr : Room k X.A) (hb : Binds X.K fd ps ds) (hd : Vals dvs ds) (hx : Passes CX X E)
  (I : Inv X pins σ H s) (r : Vals vs us) (h : sp (vs ++ dvs) H Q E) : wpAny (model X.prog X.w) X.A (call (.ref f) us) (EP X pins σ Q) X.xe s := by
 have r2 : Vals (vs ++ dvs) (us ++ ds) := r.append hd
 have hl : (us ++ ds).length = ps.length := by rw [← r2.length]; exact F.len _ _ _ _ h
 refine wpAny_call (codeAny_mono (F.run X.A X.stack s H ⟨us, []⟩ (us ++ ds) (vs ++ dvs) Q E hr I.env0 (hb s us I.kIn hl) r2 h) fun r s' hq => ?_)
 cases r with
 | error e => exact hx pins σ H s e s' I hq
 | ok fl =>
  cases fl with
  | ret u => exact I.after hq
  | next => exact False.elim hq
  | brk => exact False.elim hq
  | cont => exact False.elim hq
theorem pe_call (F : FnOk X.prog X.w X.K X.mg X.base CX k f fd ps sp) (hr : Room k X.A) (hg : Gl X x) (hm : X.mg x = some (.ref f)) (hk : PySem.W.keepIn X.K (.ref f) = true) (hb : Binds X.K fd ps ds) (hd : Vals dvs ds) (hx : Passes CX X E)
  (ha : PA X (e :: es) t) (hdb : autoParam ((x == ("__debug__" : Str)) = false) L2.aDec._auto_1) (he : autoParam (starEach (e :: es) X.env = (false, eval e X.env) :: starEach es X.env) L2.aRfl._auto_1) (hpl : autoParam ((backTo pos (starEach es X.env)).any (·.1) = false) L2.aRfl._auto_1) :
  PE X (.Call (.Name x p) (e :: es) [] pos) (tCall sp dvs E t) := by
 intro pins s σ H Q I h
 refine wpAny_Call_Name_kw (ld_glob I hg hm ?_ hdb)
 refine PySem.W.callWith_K (h₀ := X.base) I.ok.mod.kin hk (thn (ha pos pins s σ H _ I h) fun us s1 ⟨vs, H1, I1, r, q⟩ => ⟨I1.kIn, ?_⟩) he hpl
 exact run_fn F hr hb hd hx I1 r q
theorem pe_meth {pl : Sem Bool} (he : PE X o ta) (c : Cls X.K C) (hm : Meth X.K C m f) (F : FnOk X.prog X.w X.K X.mg X.base CX k f fd ps sp) (hr : Room k X.A) (hb : Binds X.K fd ps ds) (hd : Vals dvs ds) (hx : Passes CX X E) (ha : PA X (e :: es) t)
  (hst : autoParam (starEach (e :: es) X.env = (false, eval e X.env) :: starEach es X.env) L2.aRfl._auto_1) (hpl : autoParam ((backTo pos (starEach es X.env)).any (·.1) = false) L2.aRfl._auto_1)
  (ht : eval (.Call (.Attribute o m apos) (e :: es) [] pos) X.env = (do
   let ov ← eval o X.env
   standAt apos.atName
   let (f, first) ← holding [ov] (getMethod ov m pl)
   callWith pos f first (backTo pos (starEach (e :: es) X.env)) (backToKw pos (keywordEach [] X.env))) := by rfl) :
  PE X (.Call (.Attribute o m apos) (e :: es) [] pos) (tMeth C m sp dvs E ta t) := by
 intro pins s σ H Q I h
 refine PySem.W.methodCall_KW (pl := pl) (thn (he pins s σ H _ I h) fun u s1 hqP => ?_) ht
 obtain ⟨x, H1, I1, rx, a, dx, fs, ex, ea, l, q⟩ := hqP
 subst ex
 obtain rfl : u = Value.ref a := rx
 refine getmeth_ok I1 ea c hm l ?_
 refine PySem.W.callWith_K (first := [.ref a]) (h₀ := X.base) I.ok.mod.kin hm.kp (thn (ha pos pins s1 σ H1 _ I1 q) fun us s2 ⟨vs, H2, I2, r, q2⟩ => ⟨I2.kIn, ?_⟩) hst hpl
 exact run_fn (us := .ref a :: us) (vs := .ref a :: vs) F hr hb hd hx I2 (.cons rfl r) q2
structure Mk (K : Fg) (C f : Addr) : Prop where
 makes : PySem.W.makesIn K C = true
 init : PySem.W.findIn K (.ref C) "__init__" = some (some (.ref f))
 fn : PySem.W.isFn K (.ref f) = true
 kp : PySem.W.keepIn K (.ref C) = true
theorem run_make {pins : List (Addr × Obj)} {σ : St} {H : Hp} {s : Shared} {Q : VK} {us : List Value} {vs : List V} (M : Mk X.K C f) (F : FnOk X.prog X.w X.K X.mg X.base CX k f fd ps sp) (hr : Room (k + 1) X.A) (hb : Binds X.K fd ps ds) (hd : Vals dvs ds)
  (hx : Passes CX X E) (I : Inv X pins σ H s) (r : Vals vs us)
  (h : ∀ x dx, H x = none → H dx = none → dx ≠ x → sp (.ref x :: (vs ++ dvs)) (upd (upd H dx (.own x)) x (.ins C dx [])) (fun v H2 => v = .non ∧ Q (.ref x) H2) E) :
  wpAny (model X.prog X.w) X.A (call (.ref C) us) (EP X pins σ Q) X.xe s := by
 have hq := h (s.heap.objs.size + 1) s.heap.objs.size (I.hok.fresh (Nat.le_succ _)) (I.hok.fresh (Nat.le_refl _)) (Nat.ne_of_lt (Nat.lt_succ_self _))
 have I2 := Inv.made (C := C) I
 have r2 : Vals (V.ref (s.heap.objs.size + 1) :: (vs ++ dvs)) (Value.ref (s.heap.objs.size + 1) :: (us ++ ds)) := .cons rfl (r.append hd)
 have hl : (Value.ref (s.heap.objs.size + 1) :: us ++ ds).length = ps.length := by
  have e := r2.length
  rw [F.len _ _ _ _ hq] at e
  exact e.symm
 refine wpAny_call (make_map (f := f) I.kIn M.makes M.init (beq_iff_eq.mp M.fn) (codeAny_mono (F.run _ X.stack _ _ ⟨Value.ref (s.heap.objs.size + 1) :: us, []⟩ (Value.ref (s.heap.objs.size + 1) :: (us ++ ds)) _ _ E (hr.make C us [])
  (I2.env0.make C us []) (hb _ (Value.ref (s.heap.objs.size + 1) :: us) I2.kIn hl) r2 hq) fun r s' hq' => ?_))
 cases r with
 | error e => exact hx pins σ _ _ e s' I2 hq'
 | ok fl =>
  cases fl with
  | ret u =>
   obtain ⟨v, H', I3, rv, ev, q3⟩ := I2.after hq'
   subst ev
   exact ⟨rv, ⟨V.ref (s.heap.objs.size + 1), H', I3, rfl, q3⟩⟩
  | next => exact False.elim hq'
  | brk => exact False.elim hq'
  | cont => exact False.elim hq'
theorem pe_make (M : Mk X.K C f) (F : FnOk X.prog X.w X.K X.mg X.base CX k f fd ps sp) (hr : Room (k + 1) X.A) (hg : Gl X x) (hm : X.mg x = some (.ref C)) (hb : Binds X.K fd ps ds) (hd : Vals dvs ds) (hx : Passes CX X E)
  (ha : PA X (e :: es) t) (hdb : autoParam ((x == ("__debug__" : Str)) = false) L2.aDec._auto_1) (he : autoParam (starEach (e :: es) X.env = (false, eval e X.env) :: starEach es X.env) L2.aRfl._auto_1) (hpl : autoParam ((backTo pos (starEach es X.env)).any (·.1) = false) L2.aRfl._auto_1) :
  PE X (.Call (.Name x p) (e :: es) [] pos) (tMake C sp dvs E t) := by
 intro pins s σ H Q I h
 refine wpAny_Call_Name_kw (ld_glob I hg hm ?_ hdb)
 refine PySem.W.callWith_K (h₀ := X.base) I.ok.mod.kin M.kp (thn (ha pos pins s σ H _ I h) fun us s1 ⟨vs, H1, I1, r, q⟩ => ⟨I1.kIn, ?_⟩) he hpl
 exact run_make M F hr hb hd hx I1 r q
end
section
variable {X : Cx} {CX : CXT} {k : Nat} {f C : Addr} {fd : FuncData} {ps ks : List Str} {sp : Sp} {E : XK} {x m : Str} {p pos apos kpos : Pos} {e o : Expr} {es : List Expr} {kws : List Keyword} {te ta : TE} {t tk : TA} {nm : Option Str}
variable {g : List Value → List Value → List Value} {gV : List V → List V → List V}
end
structure FnScope (N P : List Str) (sc : Scope) : Prop where
 kind : sc.kind = .function
 co : sc.isCoroutine = false
 gen : sc.isGenerator = false
 nd : N.Nodup
 pre : N.take P.length = P
 par : ∀ x ∈ P, sc.names.lookup x = some .local ∨ sc.names.lookup x = some .cell
 nofree : ∀ y ∈ sc.names, y.2 ≠ .free
theorem bindL_out {kindOf : Str → Option NameKind} {x : Str} : ∀ {binds : List (Str × Value)} {m : Str → Option Value}, (∀ v, (x, v) ∉ binds) → bindL kindOf binds m x = m x
 | [], _, _ => rfl
 | (n, v) :: r, m, h => by
  unfold bindL
  rw [bindL_out fun w hw => h w (List.mem_cons_of_mem _ hw)]
  split
  ·have : x ≠ n := by rintro rfl; exact h v List.mem_cons_self
   simp [this]
  ·rfl
theorem bindC_out {kindOf : Str → Option NameKind} {x : Str} : ∀ {binds : List (Str × Value)} {m : Str → Option Value}, (∀ v, (x, v) ∉ binds) → bindC kindOf binds m x = m x
 | [], _, _ => rfl
 | (n, v) :: r, m, h => by
  unfold bindC
  rw [bindC_out fun w hw => h w (List.mem_cons_of_mem _ hw)]
  split
  ·rfl
  ·have : x ≠ n := by rintro rfl; exact h v List.mem_cons_self
   simp [this]
theorem bindL_get {kindOf : Str → Option NameKind} {x : Str} {v : Value} : ∀ {P : List Str} {vs : List Value} {i : Nat} {m : Str → Option Value}, P.Nodup → P[i]? = some x → vs[i]? = some v → kindOf x = some .local →
  bindL kindOf (P.zip vs) m x = some v
 | [], _, _, _, _, h, _, _ => by simp at h
 | _ :: _, [], _, _, _, _, h, _ => by simp at h
 | p :: P, w :: vs, 0, m, nd, h1, h2, hk => by
  simp at h1 h2; subst h1; subst h2
  show bindL kindOf ((p, w) :: P.zip vs) m p = _
  unfold bindL
  rw [bindL_out fun v hv => (List.nodup_cons.mp nd).1 (List.of_mem_zip hv).1, if_pos hk]
  simp
 | p :: P, w :: vs, i + 1, m, nd, h1, h2, hk => by
  show bindL kindOf ((p, w) :: P.zip vs) m x = _
  unfold bindL
  exact bindL_get (i := i) (List.nodup_cons.mp nd).2 (by simpa using h1) (by simpa using h2) hk
theorem bindC_get {kindOf : Str → Option NameKind} {x : Str} {v : Value} : ∀ {P : List Str} {vs : List Value} {i : Nat} {m : Str → Option Value}, P.Nodup → P[i]? = some x → vs[i]? = some v → kindOf x ≠ some .local →
  bindC kindOf (P.zip vs) m x = some v
 | [], _, _, _, _, h, _, _ => by simp at h
 | _ :: _, [], _, _, _, _, h, _ => by simp at h
 | p :: P, w :: vs, 0, m, nd, h1, h2, hk => by
  simp at h1 h2; subst h1; subst h2
  show bindC kindOf ((p, w) :: P.zip vs) m p = _
  unfold bindC
  rw [bindC_out fun v hv => (List.nodup_cons.mp nd).1 (List.of_mem_zip hv).1, if_neg hk]
  simp
 | p :: P, w :: vs, i + 1, m, nd, h1, h2, hk => by
  show bindC kindOf ((p, w) :: P.zip vs) m x = _
  unfold bindC
  exact bindC_get (i := i) (List.nodup_cons.mp nd).2 (by simpa using h1) (by simpa using h2) hk
def start (N : List Str) (vs : List V) : St := vs.map some ++ List.replicate (N.length - vs.length) none
def cxOf (CX : CXT) (P : Program) (w : World) (K : Fg) (mg : Str → Option Value) (base : Heap) (N : List Str) (qual : Str) (scope : Scope) (f : Addr) (cd : Value) (A : Around) (outer : List Env) (s : Shared) (H : Hp) (E : XK) : Cx where
 prog := P
 w := w
 K := K
 mg := mg
 base := base
 A := A.deeper (envOfC qual scope s.heap.objs.size f cd)
 N := N
 s₀ := s
 H₀ := H
 env := envOfC qual scope s.heap.objs.size f cd
 outer := outer
 stack := envOfC qual scope s.heap.objs.size f cd :: outer
 ex := []
 calm := true
 fn := fun _ => true
 pn := []
 xe := fun e s' => wpAny (model P w) (A.deeper (envOfC qual scope s.heap.objs.size f cd)) (leaving (envOfC qual scope s.heap.objs.size f cd) e) (fun _ s'' => CX outer H s E e s'') (fun e' s'' => CX outer H s E e' s'') s'
theorem cell_has {sc : Scope} {n : Nat} {x : Str} (h : sc.names.lookup x = some .cell) : ∃ c, (cellsFrom n sc.names []).lookup x = some c := by
 have q := PySem.W.cellsFrom_some sc.names n [] (.inl h)
 exact Option.isSome_iff_exists.mp q
theorem inv_start {CX : CXT} {P : Program} {w : World} {K : Fg} {mg : Str → Option Value} {base : Heap} {N ps : List Str} {qual : Str} {scope : Scope} {f : Addr} {cd : Value} {A : Around} {outer : List Env} {s s1 : Shared} {H : Hp} {E : XK} {us : List Value} {vs : List V}
  (S : FnScope N ps scope) (hd : A.handled = none) (e0 : Env0 P w K mg base A outer s H) (hl : vs.length = ps.length) (r : Vals vs us)
  (x : InCallC s s.heap.objs.size (bindL (envOfC qual scope s.heap.objs.size f cd).kindOf (ps.zip us) fun _ => none) (cellsFrom (s.heap.objs.size + 1) scope.names []) (bindC (envOfC qual scope s.heap.objs.size f cd).kindOf (ps.zip us) fun _ => none) s1) :
  Inv (cxOf CX P w K mg base N qual scope f cd A outer s H E) [] (start N vs) H s1 := by
 have hpl : ps.length ≤ N.length := by have := congrArg List.length S.pre; rw [List.length_take] at this; lia
 obtain ⟨h1, tk, rfl, hk⟩ := x.done
 have noA : ∀ b : Addr, b ∉ (cxOf CX P w K mg base N qual scope f cd A outer s H E).ex := fun b z => absurd (show b ∈ ([] : List Addr) from z) (by simp)
 refine ⟨⟨e0.mod, S.kind, rfl, rfl, Nat.le_refl _, fun y z c h1 h2 => ?_, fun y hy => ?_, fun y c _ h => ?_, fun _ => hd, Around.frames_deeper e0.frames, .inr ⟨rfl, rfl⟩, fun b z => absurd z (noA b), e0.bs, e0.bsz, fun b _ _ => noA b, fun b z => absurd z (noA b), e0.funs, e0.frf⟩,
  rfl, e0.bare, Un.kept hk, ⟨_, x.toInCall.ns, fun i y v h1 h2 h3 => ?_⟩, fun y c h => ⟨_, x.cell y c h⟩, e0.hok.fresh (Nat.le_refl _), fun y c h => ?_, fun p hp => absurd (show p ∈ ([] : List (Addr × Obj)) from hp) (by simp), e0.hok.kept hk, ?_⟩
 ·exact name_of_addr x.apart (PySem.mem_of_lookup h1) (PySem.mem_of_lookup h2)
 ·have hy : scope.names.lookup y = some .cell ∨ scope.names.lookup y = some .free := hy
  rcases hy with hy | hy
  ·exact cell_has hy
  ·exact absurd rfl (S.nofree _ (PySem.mem_of_lookup hy))
 ·exact Nat.le_of_lt (x.above y c (PySem.mem_of_lookup h))
 ·have hi : i < vs.length := by
   unfold start at h2
   by_cases hi : i < vs.length
   ·exact hi
   ·rw [List.getElem?_append_right (by simpa using hi)] at h2
    rw [List.getElem?_replicate] at h2
    split at h2 <;> cases h2
  have ha : vs[i]? = some v := by
   unfold start at h2
   rw [List.getElem?_append_left (by simpa using hi), List.getElem?_map] at h2
   cases e : vs[i]? with
   | none => rw [e] at h2; cases h2
   | some a => rw [e] at h2; cases h2; rfl
  obtain ⟨u, hu, rv⟩ := r.get ha
  have hp : ps[i]? = some y := by
   rw [← S.pre, List.getElem?_take_of_lt (by lia)]; exact h1
  have ndP : ps.Nodup := by rw [← S.pre]; exact S.nd.sublist (List.take_sublist _ _)
  refine ⟨u, rv, ?_⟩
  rcases S.par y (List.mem_of_getElem? hp) with k | k
  ·exact .inl ⟨k, bindL_get ndP hp hu k⟩
  ·obtain ⟨c, e⟩ := cell_has (n := s.heap.objs.size + 1) k
   refine .inr ⟨.inl k, c, e, ?_⟩
   have q := x.cell y c e
   rw [bindC_get ndP hp hu (by show scope.names.lookup y ≠ _; rw [k]; decide)] at q
   exact q
 ·exact e0.hok.fresh (Nat.le_of_lt (x.above y c (PySem.mem_of_lookup h)))
 ·unfold start
  show _ = N.length
  rw [List.length_append, List.length_map, List.length_replicate]
  lia
theorem fn_of {CX : CXT} {P : Program} {w : World} {K : Fg} {mg : Str → Option Value} {base : Heap} {k : Nat} {f : Addr} {name qual : Str} {params : Arguments} {body : List Stmt} {scope : Scope} {dV kV doc pm cdv ct oc : Value} {an od : Option Addr}
  {osl : Array (Option Value)} {N ps : List Str} {sp : Sp} (lk : K.lookup f = some ⟨oc, od, .func (PySem.W.fnOf name qual params body scope dV kV doc pm an cdv ct), osl⟩) (hcd : PySem.W.codeIn K cdv qual = true) (S : FnScope N ps scope)
  (len : ∀ vs H Q E, sp vs H Q E → vs.length = ps.length)
  (hbody : ∀ (A : Around) (outer : List Env) (s : Shared) (H : Hp) (vs : List V) (Q : VK) (E : XK), Room k (A.deeper (envOfC qual scope s.heap.objs.size f cdv)) → sp vs H Q E →
   ∃ t, PSs (cxOf CX P w K mg base N qual scope f cdv A outer s H E) body t ∧ t { nx := fun _ H' => Q .non H', rt := Q } (start N vs) H) :
  FnOk P w K mg base CX (k + 1) f (PySem.W.fnOf name qual params body scope dV kV doc pm an cdv ct) ps sp := by
 refine ⟨len, fun A outer s H args us vs Q E hr e0 hb r hsp => ?_⟩
 have hl := len _ _ _ _ hsp
 have KX : K.In s.heap := e0.mod.kin.keeps fun b o e => (e0.bs b o e).1
 have lim : s.heap.NoLimit := e0.mod.nolimit.keeps fun b o e => (e0.bs b o e).1
 have hkind : ∀ y ∈ ps.zip us, scope.names.lookup y.1 = some .local ∨ (scope.names.lookup y.1 = some .cell ∧ ((cellsFrom (s.heap.objs.size + 1) scope.names []).lookup y.1).isSome = true) := fun ⟨n, v⟩ hy => by
  rcases S.par n (List.of_mem_zip hy).1 with q | q
  ·exact .inl q
  ·exact .inr ⟨q, PySem.W.cellsFrom_some _ _ _ (.inl q)⟩
 refine codeAny_call_function hr.depth (KX _ _ lk) rfl S.co S.gen rfl (PySem.W.codeRec_of KX hcd) (hb _ _ _ _ ?_)
 refine wpAny_newFunctionEnv_cells S.kind hkind fun env he s1 x => ?_
 subst he
 refine ⟨lim.keeps x.toInCall.keep, codeAny_func ?_⟩
 obtain ⟨t, ht, hq⟩ := hbody A outer s H vs Q E (hr.deeper _) hsp
 have I : Inv (cxOf CX P w K mg base N qual scope f cdv A outer s H E) [] (start N vs) H s1 := inv_start S hr.hd e0 hl r x
 refine wpAny_mono (ht [] s1 (start N vs) H _ I hq) (fun fl s' hs => ?_) fun e s' hs => hs
 have fin : ∀ {σ' : St} {H' : Hp} {v : V} {u : Value}, Inv (cxOf CX P w K mg base N qual scope f cdv A outer s H E) [] σ' H' s' → RelV v u → Q v H' → CE outer P w H s Q u s' :=
  fun {σ' H' v u} J rv q => ⟨v, H', J.os, J.bare, J.base, J.hok, rv, q⟩
 cases fl with
 | ret u =>
  obtain ⟨v, σ', H', J, rv, q⟩ := hs
  exact fin J rv q
 | next =>
  obtain ⟨σ', H', J, q⟩ := hs
  exact fin (v := V.non) (u := Value.none) J rfl q
 | brk =>
  obtain ⟨_, _, _, q⟩ := hs
  exact False.elim q
 | cont =>
  obtain ⟨_, _, _, q⟩ := hs
  exact False.elim q
section
variable {X : Cx} {x : Str} {p pos : Pos} {e : Expr} {es : List Expr} {t : TA} {id T : String} {r : List V → Hp → VK → Prop}
def tCB (r : List V → Hp → VK → Prop) (t : TA) : TE := fun σ H Q => t σ H fun vs H1 => r vs H1 Q
theorem pe_callB (hc : CallR X (.builtin id) r) (hg : Gl X x) (hm : X.mg x = none) (hv : bootBuiltins x = some (.builtin id)) (ha : PA X (e :: es) t) (hn : autoParam (x ≠ "__name__") L2.aDec._auto_1) (hdb : autoParam ((x == ("__debug__" : Str)) = false) L2.aDec._auto_1)
  (he : autoParam (starEach (e :: es) X.env = (false, eval e X.env) :: starEach es X.env) L2.aRfl._auto_1) (hpl : autoParam ((backTo pos (starEach es X.env)).any (·.1) = false) L2.aRfl._auto_1) : PE X (.Call (.Name x p) (e :: es) [] pos) (tCB r t) := by
 intro pins s σ H Q I h
 refine wpAny_Call_Name_kw (ld_blt I hg hm hv ?_ hn hdb)
 exact PyProof.Rows.callWith_builtin1 (thn (ha pos pins s σ H _ I h) fun us s1 ⟨vs, H1, I1, r1, q1⟩ => hc pins s1 σ H1 vs us Q I1 r1 q1) he hpl
theorem pe_callTy (hc : CallR X (.type T) r) (hg : Gl X x) (hm : X.mg x = none) (hv : bootBuiltins x = some (.type T)) (ha : PA X (e :: es) t) (hn : autoParam (x ≠ "__name__") L2.aDec._auto_1) (hdb : autoParam ((x == ("__debug__" : Str)) = false) L2.aDec._auto_1)
  (he : autoParam (starEach (e :: es) X.env = (false, eval e X.env) :: starEach es X.env) L2.aRfl._auto_1) (hpl : autoParam ((backTo pos (starEach es X.env)).any (·.1) = false) L2.aRfl._auto_1) : PE X (.Call (.Name x p) (e :: es) [] pos) (tCB r t) := by
 intro pins s σ H Q I h
 refine wpAny_Call_Name_kw (ld_blt I hg hm hv ?_ hn hdb)
 exact PyProof.Rows.callWith_type1 (thn (ha pos pins s σ H _ I h) fun us s1 ⟨vs, H1, I1, r1, q1⟩ => hc pins s1 σ H1 vs us Q I1 r1 q1) he hpl
end
end L2
namespace HT
open PySem PyProof.Rows
section
open PySem.SeqAt
open PySem.AutoSeq1 (wpAny_loadPart')
open PySem.MeetsSeq PySem.MeetsSeq2 PySem.MeetsSeq3
end
section
variable {prog : Program} {w : World} {A : Around} {E : Value → Shared → Prop} {s : Shared}
theorem cat_tup {t b : Addr} {vs ws : List Value} {Q : Value → Shared → Prop} (ht : IsTup s.heap t vs.toArray) (hb : IsTup s.heap b ws.toArray) (hv : vs ≠ [])
  (h1 : ws = [] → Q (.ref t) s) (h2 : ws ≠ [] → Q (.ref s.heap.objs.size) { s with heap := s.heap.push { cls := .type "tuple", data := .seq (vs ++ ws).toArray } })
  (hsz : vs.length + ws.length ≤ sizeLine) : wpAny (model prog w) A (binaryOp .Add (.ref t) (.ref b)) Q E s := by
 obtain ⟨⟨cls, dd, data, sl⟩, ho, hc, n, hd⟩ := id ht
 obtain ⟨⟨cls2, dd2, data2, sl2⟩, ho2, hc2, n2, hd2⟩ := id hb
 simp only at hc hd hc2 hd2
 subst hc hd hc2 hd2
 have e : vs.toArray ++ ws.toArray = (vs ++ ws).toArray := by simp
 by_cases hw : ws = []
 ·exact concat_meets ⟨_, ho, rfl⟩ ⟨_, ho2, rfl⟩ noFill_tuple_add seq_tuple_add PySem.F.slot_tuple_add PySem.F.entry_tuple_add (PySem.F.args_tuple_add_2 _ _)
   (tuple_addW1 t b vs.toArray ws.toArray n n2 dd dd2 sl sl2 (by simpa using hv) (by simp [hw])) ⟨ho, ho2, h1 hw⟩
 ·refine concat_meets ⟨_, ho, rfl⟩ ⟨_, ho2, rfl⟩ noFill_tuple_add seq_tuple_add PySem.F.slot_tuple_add PySem.F.entry_tuple_add (PySem.F.args_tuple_add_2 _ _)
   (tuple_addW2 t b vs.toArray ws.toArray n n2 dd dd2 sl sl2 (by simpa using hv) (by simpa using hw) (by rw [List.size_toArray, List.size_toArray]; exact hsz)) ⟨ho, ho2, ?_⟩
  rw [e]
  exact h2 hw
def sIx (n d : Nat) : Option Int → Nat
 | none => d
 | some v => if v < 0 then (v + (n : Int)).toNat else min v.toNat n
theorem sIx_none (n d : Nat) : sIx n d none = d := rfl
theorem sIx_nat (n d k : Nat) : sIx n d (some (k : Int)) = min k n := by
 show (if (k : Int) < 0 then ((k : Int) + (n : Int)).toNat else min (k : Int).toNat n) = min k n
 rw [if_neg (by lia), Int.toNat_natCast]
theorem sIx_le (n d : Nat) (hd : d ≤ n) (o : Option Int) : sIx n d o ≤ n := by
 cases o with
 | none => exact hd
 | some v =>
  show (if v < 0 then (v + (n : Int)).toNat else min v.toNat n) ≤ n
  by_cases hv : v < 0
  ·rw [if_pos hv]; lia
  ·rw [if_neg hv]; exact Nat.min_le_right _ _
theorem min_cast (v : Int) (n : Nat) (h : ¬ v < 0) : min v (n : Int) = ((min v.toNat n : Nat) : Int) := by
 obtain ⟨k, rfl⟩ := Int.eq_ofNat_of_zero_le (Int.not_lt.mp h)
 rw [Int.toNat_natCast]
 rcases Nat.le_total k n with h | h
 ·rw [Nat.min_eq_left h, Int.min_eq_left (Int.ofNat_le.mpr h)]
 ·rw [Nat.min_eq_right h, Int.min_eq_right (Int.ofNat_le.mpr h)]
theorem clip_eq (v : Int) (n d : Nat) : (if v < 0 then max (v + (n : Int)) 0 else min v (n : Int)) = ((sIx n d (some v) : Nat) : Int) := by
 show (if v < 0 then max (v + (n : Int)) 0 else min v (n : Int)) = (((if v < 0 then (v + (n : Int)).toNat else min v.toNat n) : Nat) : Int)
 by_cases hv : v < 0
 ·rw [if_pos hv, if_pos hv]; exact (Int.ofNat_toNat _).symm
 ·rw [if_neg hv, if_neg hv]; exact min_cast v n hv
theorem adjust_gen (lo hi : Option Int) (n : Nat) : Builtin.Slice.sliceAdjust lo hi 1 (n : Int) = (((sIx n 0 lo : Nat) : Int), ((sIx n n hi : Nat) : Int)) := by
 have h1 : ¬ ((1 : Int) < 0) := by lia
 unfold Builtin.Slice.sliceAdjust
 simp only [h1, if_false]
 refine Prod.ext ?_ ?_
 ·cases lo with
  | none => rfl
  | some v => exact clip_eq v n 0
 ·cases hi with
  | none => rfl
  | some v => exact clip_eq v n n
theorem places_gen (i j : Nat) : Builtin.Slice.slicePlaces (i : Int) (j : Int) 1 = j - i := by
 unfold Builtin.Slice.slicePlaces
 have h1 : (1 : Int) > 0 := by lia
 simp only [h1, if_true, Int.ediv_one]
 split <;> lia
theorem slicePart_ {v : Value} {o : Option Int} {Q : Option Int → Shared → Prop} (p : IsPart v o) (h : Q o s) : wpAny (model prog w) A (Builtin.Slice.slicePartIndex v) Q E s := by
 cases p with
 | none => exact slicePart_none h
 | int i t => exact slicePart_int h
theorem sliceApplied_gen {sl : Addr} {vl vu : Value} {lo hi : Option Int} {n : Nat} {Q : Int × Int × Nat → Shared → Prop} (hs : s.heap.IsSliceOf sl vl vu .none) (pl : IsPart vl lo) (pu : IsPart vu hi)
  (h : Q (((sIx n 0 lo : Nat) : Int), 1, sIx n n hi - sIx n 0 lo) s) : wpAny (model prog w) A (Builtin.Slice.sliceApplied (.ref sl) (pure (n : Int))) Q E s := by
 obtain ⟨os, hos, hcs, hds⟩ := id hs
 unfold Builtin.Slice.sliceApplied Builtin.Slice.sliceFields
 refine wpAny_bind (wpAny_bind (wpAny_field hos hds (x := vl) rfl (wpAny_bind (wpAny_field hos hds (x := vu) rfl (wpAny_bind (wpAny_field hos hds (x := .none) rfl (wpAny_pure ?_)))))))
 refine wpAny_bind (slicePart_none ?_)
 show wpAny _ _ (if ((1 : Int) == 0) = true then _ else _) _ _ s
 rw [if_neg (by decide)]
 refine wpAny_bind (slicePart_ pl (wpAny_bind (slicePart_ pu (wpAny_bind (wpAny_pure ?_)))))
 show wpAny _ _ (match Builtin.Slice.sliceAdjust lo hi 1 (n : Int) with | (lo, hi) => pure (lo, (1 : Int), Builtin.Slice.slicePlaces lo hi 1)) _ _ s
 rw [adjust_gen lo hi n]
 show wpAny _ _ (pure (((sIx n 0 lo : Nat) : Int), (1 : Int), Builtin.Slice.slicePlaces ((sIx n 0 lo : Nat) : Int) ((sIx n n hi : Nat) : Int) 1)) _ _ s
 rw [places_gen]
 exact wpAny_pure h
theorem pick_gen (xs : Array Value) (i k : Nat) : ((List.range k).filterMap fun (m : Nat) => xs[((i : Int) + (m : Int) * 1).toNat]?).toArray = ((xs.toList.drop i).take k).toArray := by
 have e : (fun (m : Nat) => xs[((i : Int) + (m : Int) * 1).toNat]?) = fun m => xs[i + m]? := by
  funext m
  have : ((i : Int) + (m : Int) * 1).toNat = i + m := by lia
  rw [this]
 rw [e]
 have := pick_run xs i k
 rw [List.filterMap_map] at this
 have e2 : ((fun x => xs[x]?) ∘ fun x => i + x) = fun m => xs[i + m]? := rfl
 rw [e2] at this
 rw [this]
theorem getItem_tuple_cut {t sl : Addr} {items : Array Value} {vl vu : Value} {lo hi : Option Int} {Q : Value → Shared → Prop} (ht : IsTup s.heap t items) (hs : s.heap.IsSliceOf sl vl vu .none) (pl : IsPart vl lo) (pu : IsPart vu hi)
  (hw : ¬ (sIx items.size 0 lo = 0 ∧ sIx items.size items.size hi = items.size))
  (h : Q (.ref s.heap.objs.size) { s with heap := s.heap.push { cls := .type "tuple", data := .seq ((items.toList.drop (sIx items.size 0 lo)).take (sIx items.size items.size hi - sIx items.size 0 lo)).toArray } })
  (hsz : items.size ≤ sizeLine) : wpAny (model prog w) A (getItem (.ref t) (.ref sl)) Q E s := by
 have htake : sizeOk (.seq ((items.toList.drop (sIx items.size 0 lo)).take (sIx items.size items.size hi - sIx items.size 0 lo)).toArray) := by
  show ((items.toList.drop (sIx items.size 0 lo)).take (sIx items.size items.size hi - sIx items.size 0 lo)).toArray.size ≤ sizeLine
  rw [List.size_toArray, List.length_take, List.length_drop, Array.length_toList]
  lia
 have hj : sIx items.size items.size hi ≤ items.size := sIx_le _ _ (Nat.le_refl _) hi
 obtain ⟨os, hos, hcs, hds⟩ := id hs
 have hTs : s.TypeIs (.ref sl) "slice" := ⟨os, hos, hcs⟩
 unfold getItem
 try with_reducible refine wpAny_holding ?_
 first | refine wpAny_bind (wpAny_pure ?_) | skip
 refine wpAny_bind (wpAny_sequenceKey ht.typeIs (by decide) ?_)
 refine wpAny_bind (wpAny_callSpecial?_slot (name := Str.ofString "__getitem__") ht.typeIs PyProof.Rows.slot_tuple_getitem
  (wpAny_call_entry PyProof.Rows.slot_tuple_getitem ht.typeIs entry_tuple_getitem ?_ (args_tuple_getitem _ _)))
 show wpAny _ _ (Builtin.Tuple.tupleItemsOf (.ref t) >>= _) _ _ s
 refine wpAny_bind (tupleItemsOf_ ht ?_)
 refine wpAny_bind (wpAny_typeOf hTs ?_)
 rw [if_pos (by decide)]
 refine wpAny_bind (sliceApplied_gen hs pl pu ?_)
 have hno : ¬ ((((sIx items.size 0 lo : Nat) : Int) == 0 && (1 : Int) == 1 && (sIx items.size items.size hi - sIx items.size 0 lo) == items.size) = true) := by
  intro q
  rw [Bool.and_eq_true, Bool.and_eq_true] at q
  have q1 : ((sIx items.size 0 lo : Nat) : Int) = 0 := eq_of_beq q.1.1
  have q2 : sIx items.size items.size hi - sIx items.size 0 lo = items.size := eq_of_beq q.2
  exact hw ⟨by lia, by lia⟩
 show wpAny _ _ (if (((sIx items.size 0 lo : Nat) : Int) == 0 && (1 : Int) == 1 && (sIx items.size items.size hi - sIx items.size 0 lo) == items.size) = true then _ else _) _ _ s
 rw [if_neg hno, pick_gen]
 first
  | exact wpAny_bind (m := Builtin.Tuple.tupleExact _) (wpAny_newObj_type (wpAny_pure ⟨_, rfl, wpAny_pure h⟩) htake)
  | exact wpAny_bind (m := Builtin.Tuple.tupleExact _) (wpAny_newObj_type (wpAny_bind (wpAny_pure (wpAny_pure ⟨_, rfl, wpAny_pure h⟩))) htake)
  | exact wpAny_bind (wpAny_bind (m := Builtin.Tuple.tupleExact _) (wpAny_newObj_type (wpAny_pure (wpAny_pure ⟨_, rfl, wpAny_pure h⟩)) htake))
  | exact wpAny_bind (wpAny_bind (m := Builtin.Tuple.tupleExact _) (wpAny_newObj_type (wpAny_pure ⟨_, rfl, wpAny_pure h⟩) htake))
end
end HT
namespace L2
open PySem PySem.Spec PyProof.Rows
abbrev TO := St → Hp → (Option Int → Hp → Prop) → Prop
def PO (X : Cx) (e : Option Expr) (t : TO) : Prop :=
 ∀ (pins : List (Addr × Obj)) (s : Shared) (σ : St) (H : Hp) (Q : Option Int → Hp → Prop), Inv X pins σ H s → t σ H Q →
  wpAny (model X.prog X.w) X.A (evalPart e X.env) (fun u s' => ∃ o H', Inv X pins σ H' s' ∧ IsPart u o ∧ Q o H') X.xe s
def tNoPart : TO := fun _ H Q => Q none H
inductive ItPart (Q : (Option Int → Hp → Prop)) (x : V) (H1 : Hp) : Prop
 | mk (i : _) (h1 : x = .int i) (h2 : Q (some i) H1)
def tPart (t : TE) : TO := fun σ H Q => t σ H fun x H1 => ItPart Q x H1
theorem intsAre_of {ns : List Int} : ∀ {us : List Value}, Vals (ns.map V.int) us → IntsAre us ns := by
 induction ns with
 | nil => intro us r; rw [List.map_nil] at r; cases r; exact .nil
 | cons n ns ih =>
  intro us r
  rw [List.map_cons] at r
  cases r with
  | cons r1 r2 =>
   obtain ⟨t, e⟩ := r1
   subst e
   exact .cons n t (ih r2)
section
variable {X : Cx} {e : Expr} {te : TE} {lo hi : Option Expr} {tl th : TO} {pos p2 : Pos}
theorem po_none : PO X none tNoPart := by
 intro pins s σ H Q I h
 rw [evalPart_none]
 exact wpAny_pure ⟨none, H, I, .none, h⟩
theorem po_some (h : PE X e te) : PO X (some e) (tPart te) := by
 intro pins s σ H Q I hw
 rw [evalPart_some]
 refine thn (h pins s σ H _ I hw) fun u s1 hqP => ?_
 obtain ⟨x, H1, I1, r1, q1⟩ := hqP
 obtain ⟨i, rfl, q⟩ := q1
 obtain ⟨t, rfl⟩ := r1
 exact ⟨some i, H1, I1, .int i t, q⟩
def SlR (X : Cx) (r : V → Option Int → Option Int → Hp → VK → Prop) : Prop :=
 ∀ (pins : List (Addr × Obj)) (s : Shared) (σ : St) (H : Hp) (x : V) (v vl vu : Value) (lo hi : Option Int) (sl : Addr) (Q : VK), Inv X pins σ H s → RelV x v → s.heap.IsSliceOf sl vl vu .none → IsPart vl lo → IsPart vu hi → r x lo hi H Q →
  ∃ T id, typeLookup (.type T) "__getitem__" = pure (some (.builtin id)) ∧ s.TypeIs v T ∧ wpAny (model X.prog X.w) X.A (getItem v (.ref sl)) (EP X pins σ Q) X.xe s
def tSl (r : V → Option Int → Option Int → Hp → VK → Prop) (te : TE) (tl th : TO) : TE := fun σ H Q => te σ H fun x H1 => tl σ H1 fun l H2 => th σ H2 fun u H3 => r x l u H3 Q
theorem pe_slice {r : V → Option Int → Option Int → Hp → VK → Prop} (hr : SlR X r) (he : PE X e te) (hl : PO X lo tl) (hu : PO X hi th) : PE X (.Subscript e (.Slice lo hi none p2) pos) (tSl r te tl th) := by
 intro pins s σ H Q I h
 refine Subscript_ (thn (he pins s σ H _ I h) fun v s1 hqP => ?_)
 obtain ⟨x, H1, I1, r1, q1⟩ := hqP
 refine wpAny_Slice (thn (hl pins s1 σ H1 _ I1 q1) fun vl s2 ⟨l, H2, I2, pl, q2⟩ => thn (hu pins s2 σ H2 _ I2 q2) fun vu s3 hqP => ?_)
 obtain ⟨u, H3, I3, pu, q3⟩ := hqP
 rw [evalPart_none]
 refine wpAny_pure ?_
 have I4 : Inv X pins σ H3 { s3 with heap := s3.heap.push { cls := .type "slice", data := .fields #[vl, vu, .none] } } := I3.kept (t' := s3.toks) fun b ob q => Heap.get?_push_of_some _ q
 obtain ⟨T, id, hT, ht, hg⟩ := hr pins { s3 with heap := s3.heap.push { cls := .type "slice", data := .fields #[vl, vu, .none] } } σ H3 x v vl vu l u s3.heap.objs.size Q I4 r1 (Heap.IsSliceOf.new ..) pl pu q3
 show wpAny (model X.prog X.w) X.A (subscriptTail e (.Slice lo hi none p2) v (.ref s3.heap.objs.size)) (EP X pins σ Q) X.xe { s3 with heap := s3.heap.push { cls := .type "slice", data := .fields #[vl, vu, .none] } }
 exact tail_any (ops := [.ref s3.heap.objs.size, v]) ht hT hg (by with_unfolding_all rfl)
def cutV (xs : List V) (lo hi : Option Int) : List V := (xs.drop (HT.sIx xs.length 0 lo)).take (HT.sIx xs.length xs.length hi - HT.sIx xs.length 0 lo)
theorem cutV_length (xs : List V) (lo hi : Option Int) : (cutV xs lo hi).length ≤ xs.length := by
 unfold cutV
 rw [List.length_take, List.length_drop]
 lia
inductive IrSlT (K : Fg) (x : V) (lo : Option Int) (hi : Option Int) (H : Hp) (Q : VK) : Prop
 | mk (a : _) (xs : _) (h1 : x = .ref a) (h2 : SqT K H a xs) (h3 : ¬ (HT.sIx xs.length 0 lo = 0 ∧ HT.sIx xs.length xs.length hi = xs.length)) (h4 : ∀ p, H p = none → Q (.ref p) (upd H p (.tup (cutV xs lo hi))))
def rSlT (K : Fg) : V → Option Int → Option Int → Hp → VK → Prop := fun x lo hi H Q => IrSlT K x lo hi H Q
theorem sl_tup : SlR X (rSlT X.K) := by
 intro pins s σ H x v vl vu lo hi sl Q I rx hs pl pu h
 obtain ⟨a, xs, rfl, hx, hw, q⟩ := h
 cases rx
 obtain ⟨its, r, ht, hz⟩ := I.tuple hx
 have hlen : its.toArray.size = xs.length := by rw [List.size_toArray]; exact r.length.symm
 refine ⟨"tuple", _, PyProof.Rows.slot_tuple_getitem.lookup, ht.typeIs, ?_⟩
 refine HT.getItem_tuple_cut ht hs pl pu (by rw [hlen]; exact hw) ?_ (by rw [hlen]; exact hz)
 rw [hlen]
 refine ⟨.ref s.heap.objs.size, _, I.laid (t' := s.toks) (o := .tup (cutV xs lo hi)) (fun b ob q => Heap.get?_push_of_some _ q) (Nat.le_refl _) ?_, rfl, q _ (I.hok.fresh (Nat.le_refl _))⟩
 exact ⟨Nat.le_trans (cutV_length xs lo hi) hz, _, (r.drop (HT.sIx xs.length 0 lo)).take (HT.sIx xs.length xs.length hi - HT.sIx xs.length 0 lo), IsTup.new _ _⟩
inductive IrCatT (K : Fg) (x : V) (y : V) (H : Hp) (Q : VK) : Prop
 | mk (a : _) (b : _) (xs : _) (ys : _) (h1 : x = .ref a) (h2 : y = .ref b) (h3 : SqT K H a xs) (h4 : SqT K H b ys) (h5 : xs ≠ []) (h6 : xs.length + ys.length ≤ sizeLine) (h7 : (ys = [] → Q (.ref a) H)) (h8 : (ys ≠ [] → ∀ p, H p = none → Q (.ref p) (upd H p (.tup (xs ++ ys)))))
def rCatT (K : Fg) : R2 := fun x y H Q => IrCatT K x y H Q
theorem Vals.nil_iff {xs : List V} {us : List Value} (r : Vals xs us) : us = [] ↔ xs = [] := by
 cases r with
 | nil => simp
 | cons _ _ => simp
theorem op_catT : OpR X (binaryOp .Add) (rCatT X.K) := by
 intro pins s σ H x y v u Q I rx ry h
 obtain ⟨a, b, xs, ys, rfl, rfl, ha, hb, hx, hz, q1, q2⟩ := h
 cases rx
 cases ry
 obtain ⟨its, r1, p1, _⟩ := I.tuple ha
 obtain ⟨its2, r2, p2, _⟩ := I.tuple hb
 refine HT.cat_tup p1 p2 (fun z => hx (r1.nil_iff.mp z)) (fun z => ⟨.ref a, H, I, rfl, q1 (r2.nil_iff.mp z)⟩) (fun z => ?_) (by rw [← r1.length, ← r2.length]; exact hz)
 refine ⟨.ref s.heap.objs.size, _, I.laid (t' := s.toks) (o := .tup (xs ++ ys)) (fun b ob q => Heap.get?_push_of_some _ q) (Nat.le_refl _) ?_, rfl, q2 (fun w => z (r2.nil_iff.mpr w)) _ (I.hok.fresh (Nat.le_refl _))⟩
 exact ⟨by rw [List.length_append]; exact hz, _, r1.append r2, IsTup.new _ _⟩
end
def ixN (n : Nat) (i : Int) : Option Nat := if 0 ≤ i then (if i < n then some i.toNat else none) else if -(n : Int) ≤ i then some (i + n).toNat else none
def atI {α : Type} (xs : List α) (i : Int) : Option α := (ixN xs.length i).bind fun j => xs[j]?
theorem ixN_seq {n : Nat} {i : Int} {j : Nat} (h : ixN n i = some j) : seqIndex? i n = some j ∧ j < n ∧ -(n : Int) ≤ i ∧ i < n := by
 unfold ixN at h
 by_cases h0 : 0 ≤ i
 ·rw [if_pos h0] at h
  by_cases h1 : i < n
  ·rw [if_pos h1] at h
   have e : i.toNat = j := Option.some.inj h
   exact ⟨by rw [seqIndex_of h0 h1, e], by lia, by lia, h1⟩
  ·rw [if_neg h1] at h; cases h
 ·rw [if_neg h0] at h
  by_cases h1 : -(n : Int) ≤ i
  ·rw [if_pos h1] at h
   have e : (i + n).toNat = j := Option.some.inj h
   exact ⟨by rw [seqIndex_neg (by lia) h1, e], by lia, h1, by lia⟩
  ·rw [if_neg h1] at h; cases h
theorem atI_get {α : Type} {xs : List α} {i : Int} {v : α} (h : atI xs i = some v) : ∃ j, seqIndex? i xs.length = some j ∧ xs[j]? = some v ∧ j < xs.length ∧ -(xs.length : Int) ≤ i ∧ i < xs.length := by
 unfold atI at h
 cases e : ixN xs.length i with
 | none => rw [e] at h; cases h
 | some j =>
  rw [e] at h
  obtain ⟨h1, h2, h3, h4⟩ := ixN_seq e
  exact ⟨j, h1, h, h2, h3, h4⟩
theorem atI_nat {α : Type} {xs : List α} {j : Nat} {v : α} (h : xs[j]? = some v) : atI xs (j : Int) = some v := by
 have hj : j < xs.length := (List.getElem?_eq_some_iff.mp h).1
 have e : ixN xs.length (j : Int) = some j := by
  unfold ixN
  rw [if_pos (by lia), if_pos (by lia)]; simp
 unfold atI; rw [e]; exact h
def PlainIx (b : Expr) : Prop := ∀ o i, subscripted b false o i = operate [o, i] (getItem o i)
def IxR (X : Cx) (r : R2) : Prop :=
 ∀ (value slice : Expr) (pins : List (Addr × Obj)) (s : Shared) (σ : St) (H : Hp) (x y : V) (v u : Value) (Q : VK), Inv X pins σ H s → RelV x v → RelV y u → r x y H Q →
  subscripted slice false v u = operate [v, u] (getItem v u) → wpAny (model X.prog X.w) X.A (subscriptTail value slice v u) (EP X pins σ Q) X.xe s
def MtR (X : Cx) (id : String) (r : V → List V → Hp → VK → Prop) : Prop :=
 ∀ (pins : List (Addr × Obj)) (s : Shared) (σ : St) (H : Hp) (x : V) (xs : List V) (v : Value) (us : List Value) (Q : VK), Inv X pins σ H s → RelV x v → Vals xs us → r x xs H Q →
  wpAny (model X.prog X.w) X.A (call (.builtin id) (v :: us)) (EP X pins σ Q) X.xe s
section
variable {X : Cx} {a b : Expr} {ta tb : TE} {pos : Pos}
theorem pe_ix {r : R2} (hr : IxR X r) (ha : PE X a ta) (hb : PE X b tb) (hs : PlainIx b) : PE X (.Subscript a b pos) (tOp r ta tb) := by
 intro pins s σ H Q I h
 exact Subscript_ (binT ha hb I h fun v u s2 x y H2 I2 rx ry q => hr a b pins s2 σ H2 x y v u Q I2 rx ry q (hs _ _))
inductive IrIxL (K : Fg) (x : V) (y : V) (H : Hp) (Q : VK) : Prop
 | mk (p : _) (xs : _) (i : _) (v : _) (h1 : x = .ref p) (h2 : y = .int i) (h3 : SqL K H p xs) (h4 : atI xs i = some v) (h5 : Q v H)
def rIxL (K : Fg) : R2 := fun x y H Q => IrIxL K x y H Q
inductive IrIxT (K : Fg) (x : V) (y : V) (H : Hp) (Q : VK) : Prop
 | mk (p : _) (xs : _) (i : _) (v : _) (h1 : x = .ref p) (h2 : y = .int i) (h3 : SqT K H p xs) (h4 : atI xs i = some v) (h5 : Q v H)
def rIxT (K : Fg) : R2 := fun x y H Q => IrIxT K x y H Q
inductive IrIxS (x : V) (y : V) (H : Hp) (Q : VK) : Prop
 | mk (z : _) (i : _) (c : _) (h1 : x = .str z) (h2 : y = .int i) (h3 : z.length ≤ sizeLine) (h4 : atI z.cps.toList i = some c) (h5 : Q (.str ⟨#[c]⟩) H)
def rIxS  : R2 := fun x y H Q => IrIxS x y H Q
theorem ix_list : IxR X (rIxL X.K) := by
 intro value slice pins s σ H x y v u Q I rx ry h hs
 obtain ⟨p, xs, i, z, rfl, rfl, hq, he, q⟩ := h
 cases rx
 obtain ⟨t, rfl⟩ := ry
 obtain ⟨its, r, pl, hz⟩ := I.list hq
 obtain ⟨j, h1, h2, h3, h4, h5⟩ := atI_get he
 obtain ⟨w, ew, rw'⟩ := r.get h2
 have hl := r.length
 have hn := line63
 have fin : EP X pins σ Q w s := ⟨z, H, I, rw', q⟩
 by_cases h0 : 0 ≤ i
 ·have hj : i.toNat = j := by
   rw [seqIndex_of h0 h5] at h1
   exact Option.some.inj h1
  exact item_listR pl.isList h0 (by lia) (by rw [hj]; simpa using ew) fin hs
 ·have hj : (i + (its.toArray.size : Int)).toNat = j := by
   rw [seqIndex_neg (by lia) h4] at h1
   rw [List.size_toArray, ← hl]
   exact Option.some.inj h1
  exact subscriptTail_builtinR (x := w) pl.isList.typeIs slot_list_getitem.lookup
   (wpAny_getItem_list_neg (Q := fun r s' => r = w ∧ EP X pins σ Q r s') pl.isList (by lia) (by rw [List.size_toArray] <;> lia) (by lia) (by rw [hj]; simpa using ew) ⟨rfl, fin⟩) hs
theorem ix_tup : IxR X (rIxT X.K) := by
 intro value slice pins s σ H x y v u Q I rx ry h hs
 obtain ⟨p, xs, i, z, rfl, rfl, hq, he, q⟩ := h
 cases rx
 obtain ⟨t, rfl⟩ := ry
 obtain ⟨its, r, pl, hz⟩ := I.tuple hq
 obtain ⟨j, h1, h2, h3, h4, h5⟩ := atI_get he
 obtain ⟨w, ew, rw'⟩ := r.get h2
 have hl := r.length
 have hn := line63
 have fin : EP X pins σ Q w s := ⟨z, H, I, rw', q⟩
 exact subscriptTail_builtinR (x := w) pl.typeIs slot_tuple_getitem.lookup
  (getItem_tuple (j := j) (Q := fun r s' => r = w ∧ EP X pins σ Q r s') pl (by lia) (by lia) (by rw [List.size_toArray, ← hl]; exact h1) (by simpa using ew) ⟨rfl, fin⟩) hs
theorem ix_str : IxR X rIxS := by
 intro value slice pins s σ H x y v u Q I rx ry h hs
 obtain ⟨z, i, c, rfl, rfl, hz, he, q⟩ := h
 obtain ⟨t, rfl⟩ := rx
 obtain ⟨t', rfl⟩ := ry
 obtain ⟨j, h1, h2, h3, h4, h5⟩ := atI_get he
 have hl : z.cps.toList.length = z.length := by simp [Str.length]
 rw [hl] at h1 h4 h5
 have hn := line63
 exact tail_any (typeIs_str s z t) slot_str_getitem.lookup (getItem_str (c := c) (by
  have e1 : decide (i < -(2 ^ 63 : Int)) = false := decide_eq_false (by lia)
  have e2 : decide (i ≥ 2 ^ 63) = false := decide_eq_false (by lia)
  rw [e1, e2, Bool.or_false]) (by rw [h1]; simpa using h2) ⟨.str ⟨#[c]⟩, H, I.tok _, ⟨_, rfl⟩, q⟩) hs
theorem mapSeq_set (its : List Value) (n j : Nat) (u : Value) : Obj.mapSeq (·.setIfInBounds j u) { cls := .type "list", data := .seq its.toArray n } = { cls := .type "list", data := .seq (its.set j u).toArray n } := by
 simp [Obj.mapSeq]
theorem Inv.lst {pins : List (Addr × Obj)} {σ : St} {H : Hp} {s : Shared} {p : Addr} {xs : List V} (I : Inv X pins σ H s) (h : H p = some (.lst xs)) :
  ∃ (its : List Value) (n : Nat), Vals xs its ∧ s.heap.get? p = some { cls := .type "list", data := .seq its.toArray n } ∧ xs.length ≤ sizeLine := by
 obtain ⟨z, its, n, r, e⟩ := I.hok p _ h
 exact ⟨its, n, r, e, z⟩
theorem Inv.lstUpd {pins : List (Addr × Obj)} {σ : St} {H : Hp} {s : Shared} {p : Addr} {xs ys : List V} {its its' : List Value} {n n' : Nat} {f : Obj → Obj} (I : Inv X pins σ H s) (h : H p = some (.lst xs))
  (ho : s.heap.get? p = some { cls := .type "list", data := .seq its.toArray n }) (hf : f { cls := .type "list", data := .seq its.toArray n } = { cls := .type "list", data := .seq its'.toArray n' }) (r : Vals ys its') (hz : ys.length ≤ sizeLine) (t : Nat) :
  Inv X pins σ (upd H p (.lst ys)) { s with heap := s.heap.update p f, toks := t } := by
 have e : (s.heap.update p f).get? p = some { cls := .type "list", data := .seq its'.toArray n' } := by
  rw [Heap.get?_update_self f ho (by rw [hf] <;> rfl), hf]
 refine I.write (x := p) (e := p) (by rw [h]; trivial) (.inl rfl) (fun b u hb q => (Heap.get?_update_other _ _ (Ne.symm hb)).trans q) ⟨_, e⟩ ?_
 exact ⟨hz, its', n', r, e⟩
inductive IrSetL (o : V) (i : V) (v : V) (H : Hp) (Q : (Hp → Prop)) : Prop
 | mk (p : _) (xs : _) (k : _) (j : _) (h1 : o = .ref p) (h2 : i = .int k) (h3 : H p = some (.lst xs)) (h4 : ixN xs.length k = some j) (h5 : Q (upd H p (.lst (xs.set j v))))
def rSetL  : V → V → V → Hp → (Hp → Prop) → Prop := fun o i v H Q => IrSetL o i v H Q
theorem set_list : PSet X rSetL := by
 intro pins s σ H o i v ov iv u Q I ro ri rv h
 obtain ⟨p, xs, k, j, rfl, rfl, hp, hj, q⟩ := h
 cases ro
 obtain ⟨t, rfl⟩ := ri
 obtain ⟨its, n, r, ho, hz⟩ := I.lst hp
 obtain ⟨h1, h2, h3, h4⟩ := ixN_seq hj
 have hl := r.length
 have hn := line63
 have I' : Inv X pins σ (upd H p (.lst (xs.set j v))) { s with heap := s.heap.update p (Obj.mapSeq (·.setIfInBounds j u)) } :=
  I.lstUpd hp ho (mapSeq_set its n j u) (r.set rv j) (by rw [List.length_set]; exact hz) s.toks
 by_cases h0 : 0 ≤ k
 ·have hk : k.toNat = j := by
   rw [seqIndex_of h0 h4] at h1
   exact Option.some.inj h1
  exact PySem.W.ki_setAt ho h0 (by lia) (by rw [List.size_toArray, ← hl]; exact h4) (by rw [hk]; exact ⟨_, I', q⟩)
 ·have hk : (k + (its.toArray.size : Int)).toNat = j := by
   rw [seqIndex_neg (by lia) h3] at h1
   rw [List.size_toArray, ← hl]
   exact Option.some.inj h1
  exact PySem.W.ki_setBack ho (by lia) (by rw [List.size_toArray, ← hl]; exact h3) (by lia) (by rw [hk]; exact ⟨_, I', q⟩)
theorem slice_bound (i : Int) (n d : Nat) : max 0 (min (if i < 0 then i + (n : Int) else i) (n : Int)) = ((HT.sIx n d (some i) : Nat) : Int) := by
 rw [← HT.clip_eq]
 by_cases h : i < 0
 ·rw [if_pos h, if_pos h, Int.min_eq_left (by have := Int.add_le_add_right (Int.le_of_lt h) (n : Int); rwa [Int.zero_add] at this), Int.max_comm]
 ·rw [if_neg h, if_neg h, HT.min_cast i n h, Int.max_eq_right (Int.natCast_nonneg _)]
theorem slice_bounds (lo hi : Option Int) (n : Nat) : (sliceBounds lo hi none n).1 = ((HT.sIx n 0 lo : Nat) : Int) ∧ (sliceBounds lo hi none n).2.1 = ((HT.sIx n n hi : Nat) : Int) ∧ (sliceBounds lo hi none n).2.2 = 1 := by
 refine ⟨?_, ?_, rfl⟩
 ·cases lo with
  | none => rfl
  | some i => exact slice_bound i n 0
 ·cases hi with
  | none => rfl
  | some i => exact slice_bound i n n
theorem slicePick_cut (its : List Value) (lo hi : Option Int) : slicePick its.toArray lo hi none = ((its.drop (HT.sIx its.length 0 lo)).take (HT.sIx its.length its.length hi - HT.sIx its.length 0 lo)).toArray := by
 obtain ⟨h1, h2, h3⟩ := slice_bounds lo hi its.toArray.size
 unfold slicePick
 rw [h1, h2, h3]
 simp only [sliceRange_one, pick_run, List.size_toArray] <;> rfl
inductive IrSlL (K : Fg) (x : V) (lo : Option Int) (hi : Option Int) (H : Hp) (Q : VK) : Prop
 | mk (a : _) (xs : _) (h1 : x = .ref a) (h2 : SqL K H a xs) (h3 : ∀ p, H p = none → Q (.ref p) (upd H p (.lst (cutV xs lo hi))))
def rSlL (K : Fg) : V → Option Int → Option Int → Hp → VK → Prop := fun x lo hi H Q => IrSlL K x lo hi H Q
theorem sl_list : SlR X (rSlL X.K) := by
 intro pins s σ H x v vl vu lo hi sl Q I rx hs pl pu h
 obtain ⟨a, xs, rfl, hx, q⟩ := h
 cases rx
 obtain ⟨its, r, ht, hz⟩ := I.list hx
 have hlen := r.length
 refine ⟨"list", _, slot_list_getitem.lookup, ht.isList.typeIs, ?_⟩
 refine wpAny_getItem_list_slice ht.isList hs pl pu .none (by simp) ?_ (by rw [List.size_toArray] <;> lia)
 rw [slicePick_cut, ← hlen]
 refine ⟨.ref s.heap.objs.size, _, I.laid (t' := s.toks) (o := .lst (cutV xs lo hi)) (fun b ob q => Heap.get?_push_of_some _ q) (Nat.le_refl _) ?_, rfl, q _ (I.hok.fresh (Nat.le_refl _))⟩
 exact ⟨Nat.le_trans (cutV_length xs lo hi) hz, _, 0, (r.drop (HT.sIx xs.length 0 lo)).take (HT.sIx xs.length xs.length hi - HT.sIx xs.length 0 lo), Heap.get?_push_size _ rfl⟩
def flatV : V → Bool
 | .non => true
 | .bl _ => true
 | .int _ => true
 | .str _ => true
 | _ => false
def eqV : V → V → Bool
 | .non, .non => true
 | .bl a, .bl b => a == b
 | .bl a, .int b => (if a then 1 else 0) == b
 | .int a, .bl b => a == (if b then 1 else 0)
 | .int a, .int b => a == b
 | .str a, .str b => a == b
 | _, _ => false
theorem eqAt_V {A : Around} {s : Shared} {y x : V} {u v : Value} (ry : RelV y u) (rx : RelV x v) (fy : flatV y = true) (fx : flatV x = true) : SeqAt.EqAt A s u v (eqV y x) := by
 cases y with
 | non =>
  cases ry
  cases x with
  | non => cases rx; exact SeqAt.EqAt.same _
  | bl b => cases rx; exact SeqAt.EqAt.none_bool b
  | int b => obtain ⟨t, rfl⟩ := rx; exact SeqAt.EqAt.none_int b t
  | str b => obtain ⟨t, rfl⟩ := rx; exact SeqAt.EqAt.none_str b t
  | _ => exact absurd (show false = true from fx) Bool.false_ne_true
 | bl a =>
  cases ry
  cases x with
  | non => cases rx; exact SeqAt.EqAt.bool_none a
  | bl b => cases rx; exact SeqAt.EqAt.bool_bool a b
  | int b => obtain ⟨t, rfl⟩ := rx; exact SeqAt.EqAt.bool_int a b t
  | str b => obtain ⟨t, rfl⟩ := rx; exact SeqAt.EqAt.bool_str a b t
  | _ => exact absurd (show false = true from fx) Bool.false_ne_true
 | int a =>
  obtain ⟨t', rfl⟩ := ry
  cases x with
  | non => cases rx; exact SeqAt.EqAt.int_none a t'
  | bl b => cases rx; exact SeqAt.EqAt.int_bool a t' b
  | int b => obtain ⟨t, rfl⟩ := rx; exact SeqAt.EqAt.int_int a t' b t
  | str b => obtain ⟨t, rfl⟩ := rx; exact SeqAt.EqAt.int_str a t' b t
  | _ => exact absurd (show false = true from fx) Bool.false_ne_true
 | str a =>
  obtain ⟨t', rfl⟩ := ry
  cases x with
  | non => cases rx; exact SeqAt.EqAt.str_none a t'
  | bl b => cases rx; exact SeqAt.EqAt.str_bool a t' b
  | int b => obtain ⟨t, rfl⟩ := rx; exact SeqAt.EqAt.str_int a t' b t
  | str b => obtain ⟨t, rfl⟩ := rx; exact SeqAt.EqAt.str_str a t' b t
  | _ => exact absurd (show false = true from fx) Bool.false_ne_true
 | _ => exact absurd (show false = true from fy) Bool.false_ne_true
def eqU (x : V) (u : Value) : Bool := match u with
 | .none => eqV .non x
 | .bool b => eqV (.bl b) x
 | .int i _ => eqV (.int i) x
 | .str z _ => eqV (.str z) x
 | _ => false
theorem eqU_of {x y : V} {u : Value} (r : RelV y u) (f : flatV y = true) : eqU x u = eqV y x := by
 cases y with
 | non => cases r; rfl
 | bl b => cases r; rfl
 | int i => obtain ⟨t, rfl⟩ := r; rfl
 | str z => obtain ⟨t, rfl⟩ := r; rfl
 | _ => exact absurd (show false = true from f) Bool.false_ne_true
theorem any_eqU {x : V} : ∀ {xs : List V} {us : List Value}, Vals xs us → xs.all flatV = true → us.any (eqU x) = xs.any fun y => eqV y x
 | _, _, .nil, _ => rfl
 | y :: xs, u :: us, .cons r t, f => by
  rw [List.all_cons, Bool.and_eq_true] at f
  rw [List.any_cons, List.any_cons, eqU_of r f.1, any_eqU t f.2]
theorem mem_eqAt {A : Around} {s : Shared} {x : V} {v : Value} (rx : RelV x v) (fx : flatV x = true) : ∀ {xs : List V} {us : List Value}, Vals xs us → xs.all flatV = true → ∀ u ∈ us, SeqAt.EqAt A s u v (eqU x u)
 | _, _, .nil, _ => fun u hu => by cases hu
 | y :: xs, u :: us, .cons r t, f => fun u' hu => by
  rw [List.all_cons, Bool.and_eq_true] at f
  rcases List.mem_cons.mp hu with rfl | hu
  ·rw [eqU_of r f.1]; exact eqAt_V r rx f.1 fx
  ·exact mem_eqAt rx fx t f.2 u' hu
def inV (x : V) (xs : List V) : Bool := xs.any fun y => eqV y x
inductive IrIn (K : Fg) (neg : Bool) (x : V) (y : V) (H : Hp) (Q : VK) : Prop
 | mk (p : _) (xs : _) (h1 : y = .ref p) (h2 : (SqL K H p xs ∨ SqT K H p xs)) (h3 : flatV x = true) (h4 : xs.all flatV = true) (h5 : Q (.bl (if neg then !inV x xs else inV x xs)) H)
def rIn (K : Fg) (neg : Bool) : R2 := fun x y H Q => IrIn K neg x y H Q
theorem op_in_seq : OpR X (compareOp .In) (rIn X.K false) := by
 intro pins s σ H x y v u Q I rx ry h
 obtain ⟨p, xs, rfl, hq, fx, fs, q⟩ := h
 cases ry
 rcases hq with hq | hq
 ·obtain ⟨its, r, pl, hz⟩ := I.list hq
  refine SeqAt.in_listAt (eqU x) pl.isList (fun w hw => mem_eqAt rx fx r fs w (by simpa using hw)) ⟨.bl _, H, I, rfl, ?_⟩
  rw [show its.toArray.any (eqU x) = its.any (eqU x) by simp, any_eqU r fs]
  exact q
 ·obtain ⟨its, r, pl, hz⟩ := I.tuple hq
  refine SeqAt.in_tupleAt (eqU x) pl (fun w hw => mem_eqAt rx fx r fs w (by simpa using hw)) ⟨.bl _, H, I, rfl, ?_⟩
  rw [show its.toArray.any (eqU x) = its.any (eqU x) by simp, any_eqU r fs]
  exact q
theorem op_notIn_seq : OpR X (compareOp .NotIn) (rIn X.K true) := by
 intro pins s σ H x y v u Q I rx ry h
 obtain ⟨p, xs, rfl, hq, fx, fs, q⟩ := h
 cases ry
 rcases hq with hq | hq
 ·obtain ⟨its, r, pl, hz⟩ := I.list hq
  refine SeqAt.notIn_listAt (eqU x) pl.isList (fun w hw => mem_eqAt rx fx r fs w (by simpa using hw)) ⟨.bl _, H, I, rfl, ?_⟩
  rw [show its.toArray.any (eqU x) = its.any (eqU x) by simp, any_eqU r fs]
  exact q
 ·obtain ⟨its, r, pl, hz⟩ := I.tuple hq
  refine SeqAt.notIn_tupleAt (eqU x) pl (fun w hw => mem_eqAt rx fx r fs w (by simpa using hw)) ⟨.bl _, H, I, rfl, ?_⟩
  rw [show its.toArray.any (eqU x) = its.any (eqU x) by simp, any_eqU r fs]
  exact q
inductive Ccall_len_seq (KX : Fg) (xs : List V) (H : Hp) (Q : VK) : Prop
 | mk (p : _) (ys : _) (h1 : xs = [.ref p]) (h2 : (SqL KX H p ys ∨ SqT KX H p ys)) (h3 : Q (.int ys.length) H)
theorem call_len_seq : CallR X (.builtin "len") (fun xs H Q => Ccall_len_seq X.K xs H Q) := by
 intro pins s σ H xs us Q I r h
 obtain ⟨p, ys, rfl, hq, q⟩ := h
 obtain ⟨u, rfl, rx⟩ := vals1 r
 cases rx
 have hn := line63
 rcases hq with hq | hq
 ·obtain ⟨its, r', pl, hz⟩ := I.list hq
  have hlen := r'.length
  exact Calls.call_len_list pl.isList (by simp only [List.size_toArray] <;> lia) ⟨.int ys.length, H, I.tok _, ⟨s.toks + 1, by rw [List.size_toArray, hlen]⟩, q⟩
 ·obtain ⟨its, r', pl, hz⟩ := I.tuple hq
  have hlen := r'.length
  exact len_tuple pl (by simp only [List.size_toArray] <;> lia) ⟨.int ys.length, H, I.tok _, ⟨s.toks + 1, by rw [List.size_toArray, hlen]⟩, q⟩
inductive Ccall_list_of (KX : Fg) (xs : List V) (H : Hp) (Q : VK) : Prop
 | mk (p : _) (ys : _) (h1 : xs = [.ref p]) (h2 : (SqL KX H p ys ∨ SqT KX H p ys)) (h3 : ∀ l, H l = none → Q (.ref l) (upd H l (.lst ys)))
theorem call_list_of : CallR X (.type "list") (fun xs H Q => Ccall_list_of X.K xs H Q) := by
 intro pins s σ H xs us Q I r h
 obtain ⟨p, ys, rfl, hq, q⟩ := h
 obtain ⟨u, rfl, rx⟩ := vals1 r
 cases rx
 have fin : ∀ (its : List Value), Vals ys its → ys.length ≤ sizeLine → ∀ (h' : Heap) (c' : Nat), (∀ b o', s.heap.get? b = some o' → h'.get? b = some o') →
   h'.get? s.heap.objs.size = some { cls := .type "list", dict := none, data := .seq its.toArray c', slots := #[] } → EP X pins σ Q (.ref s.heap.objs.size) { s with heap := h' } := fun its r' hz h' c' kp e =>
  ⟨.ref s.heap.objs.size, _, I.laid (t' := s.toks) kp (Nat.le_refl _) (show ObjOk X.prog X.w _ h' _ (.lst ys) from ⟨hz, its, c', r', e⟩), rfl, q _ (I.hok.fresh (Nat.le_refl _))⟩
 rcases hq with hq | hq
 ·obtain ⟨its, r', pl, hz⟩ := I.list hq
  have hlen := r'.length
  obtain ⟨o, ho, hc, n, hd⟩ := pl.isList
  exact call_list_seq p (.inl rfl) ho hc hd (fun h' c' kp e => fin its r' hz h' c' kp e) (by simp only [List.size_toArray] <;> lia)
 ·obtain ⟨its, r', pl, hz⟩ := I.tuple hq
  have hlen := r'.length
  obtain ⟨o, ho, hc, n, hd⟩ := pl
  exact call_list_seq p (.inr rfl) ho hc hd (fun h' c' kp e => fin its r' hz h' c' kp e) (by simp only [List.size_toArray] <;> lia)
inductive Ccall_tuple_of (KX : Fg) (xs : List V) (H : Hp) (Q : VK) : Prop
 | mk (p : _) (ys : _) (h1 : xs = [.ref p]) (h2 : ((SqL KX H p ys ∧ ∀ l, H l = none → Q (.ref l) (upd H l (.tup ys))) ∨ (SqT KX H p ys ∧ Q (.ref p) H)))
theorem call_tuple_of : CallR X (.type "tuple") (fun xs H Q => Ccall_tuple_of X.K xs H Q) := by
 intro pins s σ H xs us Q I r h
 obtain ⟨p, ys, rfl, h⟩ := h
 obtain ⟨u, rfl, rx⟩ := vals1 r
 cases rx
 rcases h with ⟨hq, q⟩ | ⟨hq, q⟩
 ·obtain ⟨its, r', pl, hz⟩ := I.list hq
  have hlen := r'.length
  refine call_tuple_list pl.isList (fun h' kp => ?_) (by simp only [List.size_toArray] <;> lia)
  have I1 : Inv X pins σ H { s with heap := h' } := I.kept (t' := s.toks) kp
  have I2 : Inv X pins σ (upd H h'.objs.size (.tup ys)) { s with heap := h'.push { cls := .type "tuple", data := .seq its.toArray } } :=
   I1.laid (t' := s.toks) (fun b o e => Heap.get?_push_of_some _ e) (Nat.le_refl _) (show ObjOk X.prog X.w _ _ _ (.tup ys) from ⟨hz, its, r', IsTup.new _ _⟩)
  exact ⟨.ref h'.objs.size, _, I2, rfl, q _ (I1.hok.fresh (Nat.le_refl _))⟩
 ·obtain ⟨its, r', pl, hz⟩ := I.tuple hq
  exact call_tuple_same pl ⟨.ref p, H, I, rfl, q⟩
def tyV (K : Fg) (T : String) (x : V) (H : Hp) : Prop := match x with
 | .str _ => T = "str"
 | .int _ => T = "int"
 | .ref p => (T = "list" ∧ ∃ xs, SqL K H p xs) ∨ (T = "tuple" ∧ ∃ o, K.lookup p = some o ∧ o.cls = .type "tuple" ∧ o.dict = none) ∨
   (T = "dict" ∧ ((∃ kvs, H p = some (.dK kvs)) ∨ ∃ kvs, H p = some (.dT kvs))) ∨ (T = "set" ∧ ∃ S n, H p = some (.set S n))
 | _ => False
theorem tyV_is {pins : List (Addr × Obj)} {σ : St} {H : Hp} {s : Shared} {T : String} {x : V} {v : Value} (I : Inv X pins σ H s) (r : RelV x v) (ty : tyV X.K T x H) :
  s.TypeIs v T ∧ ∀ a, v = .ref a → ∃ ob, s.heap.get? a = some ob ∧ ob.dict = none := by
 cases x with
 | str z =>
  obtain ⟨t, rfl⟩ := r
  cases (show T = "str" from ty)
  exact ⟨typeIs_str s z t, fun _ e => nomatch e⟩
 | int i =>
  obtain ⟨t, rfl⟩ := r
  cases (show T = "int" from ty)
  exact ⟨typeIs_int s i t, fun _ e => nomatch e⟩
 | ref p =>
  cases r
  rcases ty with ⟨rfl, xs, hq⟩ | ⟨rfl, o, hk, hc, hd⟩ | ⟨rfl, hk⟩ | ⟨rfl, S, n, hk⟩
  ·obtain ⟨its, _, pl, _⟩ := I.list hq
   refine ⟨pl.isList.typeIs, fun a e => ?_⟩
   cases e
   obtain ⟨o, n, e, c, hd, _⟩ := pl
   exact ⟨o, e, hd⟩
  ·refine ⟨⟨o, I.kIn p o hk, hc⟩, fun a e => ?_⟩
   cases e
   exact ⟨o, I.kIn _ o hk, hd⟩
  ·have z : ∃ o, s.heap.get? p = some o ∧ o.ExactDict := by
    rcases hk with ⟨kvs, hk⟩ | ⟨kvs, hk⟩
    ·obtain ⟨_, _, _, _, o, _, _, e, ex, _⟩ := I.hok p _ hk
     exact ⟨o, e, ex⟩
    ·obtain ⟨_, _, _, _, o, _, _, e, ex, _⟩ := I.hok p _ hk
     exact ⟨o, e, ex⟩
   obtain ⟨o, e, ex⟩ := z
   refine ⟨⟨o, e, ex.1⟩, fun a e2 => ?_⟩
   cases e2
   exact ⟨o, e, ex.2.1⟩
  ·obtain ⟨o, _, _, _, e, ex, _⟩ := I.hok p _ hk
   refine ⟨⟨o, e, ex.1⟩, fun a e2 => ?_⟩
   cases e2
   exact ⟨o, e, ex.2.1⟩
 | _ => exact False.elim ty
def tBM0 (K : Fg) (T : String) (r : V → List V → Hp → VK → Prop) (to : TE) : TE := fun σ H Q => to σ H fun x H1 => tyV K T x H1 ∧ r x [] H1 Q
def tBM (K : Fg) (T : String) (r : V → List V → Hp → VK → Prop) (to : TE) (t : TA) : TE := fun σ H Q => to σ H fun x H1 => tyV K T x H1 ∧ t σ H1 fun xs H2 => r x xs H2 Q
variable {o e : Expr} {es : List Expr} {to : TE} {t : TA} {name : Str} {apos cpos : Pos} {T id : String} {r : V → List V → Hp → VK → Prop}
theorem pe_bm0 (pa : PlainAttrs T) (slot : Slot T name id) (hty : typeOf (.builtin id) = pure (.type "method_descriptor")) (hm : MtR X id r) (ho : PE X o to)
  (hbase : autoParam (attributeBase o name X.env (eval o X.env) = eval o X.env) L2.aRfl._auto_1) (hline : autoParam ((apos.endLine == cpos.line) = true) L2.aRfl._auto_1) : PE X (.Call (.Attribute o name apos) [] [] cpos) (tBM0 X.K T r to) := by
 intro pins s σ H Q I h
 refine wpAny_Call_method0_late hbase hline (thn (ho pins s σ H _ I h) fun v s1 hqP => ?_)
 obtain ⟨x, H1, I1, r1, ty, q1⟩ := hqP
 obtain ⟨h1, h2⟩ := tyV_is I1 r1 ty
 exact ⟨T, id, pa, slot, hty, h1, h2, Calls.callWith_builtin rfl (PySem.evalArgs_none (hm pins s1 σ H1 x [] v [] Q I1 r1 .nil q1))⟩
theorem pe_bm (pa : PlainAttrs T) (slot : Slot T name id) (hty : typeOf (.builtin id) = pure (.type "method_descriptor")) (hm : MtR X id r) (ho : PE X o to) (ha : PA X (e :: es) t)
  (hbase : autoParam (attributeBase o name X.env (eval o X.env) = eval o X.env) L2.aRfl._auto_1)
  (hfew : ((backTo cpos (starEach (e :: es) X.env)).all (fun x => !x.1) && (backToKw cpos (keywordEach [] X.env)).all (fun x => x.1.isSome)
   && decide ((e :: es).length + ([] : List Keyword).length + (if ([] : List Keyword).isEmpty then 0 else 1) < 30)) = true := by rfl)
  (hline : autoParam ((apos.endLine == cpos.line) = true) L2.aRfl._auto_1) (hs : autoParam (starEach (e :: es) X.env = (false, eval e X.env) :: starEach es X.env) L2.aRfl._auto_1) (hplain : autoParam ((backTo cpos (starEach es X.env)).any (·.1) = false) L2.aRfl._auto_1) :
  PE X (.Call (.Attribute o name apos) (e :: es) [] cpos) (tBM X.K T r to t) := by
 intro pins s σ H Q I h
 refine wpAny_Call_method_late hbase hfew hline rfl (thn (ho pins s σ H _ I h) fun v s1 hqP => ?_)
 obtain ⟨x, H1, I1, r1, ty, q1⟩ := hqP
 obtain ⟨h1, h2⟩ := tyV_is I1 r1 ty
 refine ⟨T, id, pa, slot, hty, h1, h2, ?_⟩
 have hA := ha cpos pins s1 σ H1 _ I1 q1
 rw [hs] at hA ⊢
 refine Calls.callWith_builtin (by show (false || (backTo cpos (starEach es X.env)).any (·.1)) = false; rw [hplain] <;> rfl) (Calls.evalArgs_plain ?_)
 exact thn hA fun us s2 ⟨vs, H2, I2, r2, q2⟩ => hm pins s2 σ H2 x vs v us Q I2 r1 r2 q2
/- xs.append(e), list.index on a module's tuple .. are MtR facts of 06m -/
end
def MtM (X : Cx) (id : String) (r : V → List V → Hp → VK → Prop) : Prop :=
 ∀ (pins : List (Addr × Obj)) (s : Shared) (σ : St) (H : Hp) (x : V) (xs : List V) (v : Value) (us : List Value) (Q : VK), Inv X pins σ H s → RelV x v → Vals xs us → r x xs H Q →
  wpAny (model X.prog X.w) X.A (call (.builtin id) (v :: us)) (EP X pins σ Q) X.xe s
theorem Vals.one {x : V} {us : List Value} (h : Vals [x] us) : ∃ u, us = [u] ∧ RelV x u := by
 cases h with
 | cons r t => cases t; exact ⟨_, rfl, r⟩
theorem Vals.two {x y : V} {us : List Value} (h : Vals [x, y] us) : ∃ u v, us = [u, v] ∧ RelV x u ∧ RelV y v := by
 cases h with
 | cons r t =>
  cases t with
  | cons q t => cases t; exact ⟨_, _, rfl, r, q⟩
theorem Vals.zero : ∀ {us : List Value}, Vals [] us → us = []
 | _, .nil => rfl
theorem Vals.reverse {xs : List V} {us : List Value} (h : Vals xs us) : Vals xs.reverse us.reverse := by
 induction h with
 | nil => exact .nil
 | cons r t ih => rw [List.reverse_cons, List.reverse_cons]; exact Vals.append ih (.cons r .nil)
section
variable {X : Cx} {pins : List (Addr × Obj)} {σ : St} {H : Hp} {s : Shared} {l b : Addr} {xs ys zs : List V}
theorem Inv.lset {its its' : List Value} {n : Nat} {f : Array Value → Array Value} {t' : Nat} (I : Inv X pins σ H s) (hH : H l = some (.lst xs))
  (e : s.heap.get? l = some { cls := .type "list", data := .seq its.toArray n }) (hf : f its.toArray = its'.toArray) (hv : Vals ys its') (hz : ys.length ≤ sizeLine) :
  Inv X pins σ (upd H l (.lst ys)) { s with heap := s.heap.update l (Obj.mapSeq f), toks := t' } := by
 have q := PySem.IsL.update e f
 rw [hf] at q
 refine I.write (x := l) (e := l) (by rw [hH]; exact trivial) (.inl rfl) (fun b' u hb hu => (Heap.get?_update_other s.heap (Obj.mapSeq f) (Ne.symm hb)).trans hu) ⟨_, q⟩ ?_
 exact ⟨hz, its', _, hv, q⟩
theorem Inv.lnew {its : List Value} {t' : Nat} (I : Inv X pins σ H s) (hv : Vals ys its) (hz : ys.length ≤ sizeLine) :
  Inv X pins σ (upd H s.heap.objs.size (.lst ys)) { s with heap := s.heap.push { cls := .type "list", data := .seq its.toArray }, toks := t' } :=
 I.laid (fun _ _ q => Heap.get?_push_of_some _ q) (Nat.le_refl _) ⟨hz, its, 0, hv, Heap.get?_push_size _ rfl⟩
theorem Inv.fresh (I : Inv X pins σ H s) : H s.heap.objs.size = none := I.hok.fresh (Nat.le_refl _)
theorem Inv.lstM (I : Inv X pins σ H s) (hH : H l = some (.lst xs)) : xs.length ≤ sizeLine ∧ ∃ (its : List Value) (n : Nat), Vals xs its ∧ xs.length = its.length ∧ s.heap.get? l = some { cls := .type "list", data := .seq its.toArray n } := by
 obtain ⟨z, its, n, r, e⟩ := I.hok l _ hH
 exact ⟨z, its, n, r, r.length, e⟩
end
section
variable {X : Cx}
inductive IrAppend (x : V) (vs : List V) (H : Hp) (Q : VK) : Prop
 | mk (l : _) (xs : _) (y : _) (h1 : x = .ref l) (h2 : vs = [y]) (h3 : H l = some (.lst xs)) (h4 : xs.length < sizeLine) (h5 : Q .non (upd H l (.lst (xs ++ [y]))))
def rAppend  : V → List V → Hp → VK → Prop := fun x vs H Q => IrAppend x vs H Q
theorem mt_append : MtM X "list.append" rAppend := by
 intro pins s σ H x vs v us Q I rx rv h
 obtain ⟨l, xs, y, rfl, rfl, hH, hz, q⟩ := h
 cases rx
 obtain ⟨u, rfl, ru⟩ := rv.one
 obtain ⟨z, its, n, r, hl, e⟩ := I.lstM hH
 refine call_meets F.slot_list_append ⟨_, e, rfl⟩ F.entry_list_append (F.args_list_append_2 _ _) (PySem.list_append l its.toArray n u (by rw [List.size_toArray]; lia)) ⟨e, ?_⟩
 refine ⟨.non, _, I.lset (its' := its ++ [u]) hH e (by simp) (r.append (.cons ru .nil)) ?_, rfl, q⟩
 rw [List.length_append, List.length_singleton]
 lia
inductive IrReverse (x : V) (vs : List V) (H : Hp) (Q : VK) : Prop
 | mk (l : _) (xs : _) (h1 : x = .ref l) (h2 : vs = []) (h3 : H l = some (.lst xs)) (h4 : Q .non (upd H l (.lst xs.reverse)))
def rReverse  : V → List V → Hp → VK → Prop := fun x vs H Q => IrReverse x vs H Q
theorem mt_reverse : MtM X "list.reverse" rReverse := by
 intro pins s σ H x vs v us Q I rx rv h
 obtain ⟨l, xs, rfl, rfl, hH, q⟩ := h
 cases rx
 have hus := rv.zero
 subst hus
 obtain ⟨z, its, n, r, hl, e⟩ := I.lstM hH
 refine call_meets F.slot_list_reverse ⟨_, e, rfl⟩ F.entry_list_reverse (F.args_list_reverse_1 _) (AutoSeq1.list_reverse_list_0 l its.toArray n (by rw [List.size_toArray]; lia)) ⟨e, ?_⟩
 refine ⟨.non, _, I.lset (its' := its.reverse) hH e (by simp) r.reverse ?_, rfl, q⟩
 rw [List.length_reverse]
 lia
inductive IrCat (x : V) (y : V) (H : Hp) (Q : VK) : Prop
 | mk (l : _) (b : _) (xs : _) (zs : _) (h1 : x = .ref l) (h2 : y = .ref b) (h3 : H l = some (.lst xs)) (h4 : H b = some (.lst zs)) (h5 : xs.length + zs.length ≤ sizeLine) (h6 : ∀ p, H p = none → Q (.ref p) (upd H p (.lst (xs ++ zs))))
def rCat  : R2 := fun x y H Q => IrCat x y H Q
theorem op_cat : OpR X (binaryOp .Add) rCat := by
 intro pins s σ H x y v u Q I rx ry h
 obtain ⟨l, b, xs, zs, rfl, rfl, hH, hB, hz, q⟩ := h
 cases rx
 cases ry
 obtain ⟨z, its, n, r, hl, e⟩ := I.lstM hH
 obtain ⟨z2, its2, n2, r2, hl2, e2⟩ := I.lstM hB
 refine PySem.P.add_list e e2 ?_ (by rw [List.size_toArray, List.size_toArray]; lia)
 have ea : its.toArray ++ its2.toArray = (its ++ its2).toArray := by simp
 rw [ea]
 exact ⟨.ref _, _, I.lnew (t' := s.toks) (r.append r2) (by rw [List.length_append]; lia), rfl, q _ I.fresh⟩
end
section
variable {prog : Program} {w : World} {A : Around} {E : Value → Shared → Prop} {s : Shared}
end
section
variable {X : Cx}
end
end L2
namespace Att
open PySem PySem.W PySem.Calls PyProof.Rows
theorem ints_of_wellAll {P : Params} {h : Heap} : ∀ (ns : List Int) (vs : List Value), WellAll P h vs (ns.map WData.int) → IntsAre vs ns := by
 intro ns
 induction ns with
 | nil =>
  intro vs w
  rw [List.map_nil] at w
  cases w
  exact .nil
 | cons n ns ih =>
  intro vs w
  rw [List.map_cons] at w
  cases w with
  | cons a b =>
   cases a
   exact .cons _ _ (ih _ b)
theorem script_of {l : OpenLaw} {n : Nat} (hn : l.most = some n) {P : Params} {h : Heap} {args : List WData} {vals : List Value}
  (hpre : l.row.toRowW.claim.pre args = true) (hwl : WellAll P h vals args) :
  ∃ a vs ns, vals = [Value.ref a] ∧ args = [WData.list (ns.map WData.int)] ∧ h.get? a = some { cls := .type "list", data := .seq vs.toArray } ∧ IntsAre vs ns ∧ ns.length ≤ n := by
 have hsh : WShape.hasAll [] args [.list .int] = true := (pre_splitW hpre).1
 have hc : l.pre.holds [] { args := args } = true := (pre_splitW hpre).2
 obtain ⟨d, r, rfl, h1, h2⟩ := hasAllW_cons hsh
 obtain rfl := hasAllW_nil h2
 obtain ⟨xs, rfl, h3⟩ := hasW_list h1
 obtain ⟨ns, rfl⟩ := items_int h3
 have hlen : ns.length ≤ n := by
  unfold OpenLaw.pre at hc
  have h4 : (WTm.not (.lt (.lit (.int (n : Int))) (.len (.arg 0)))).holds [] { args := [.list (ns.map .int)] } = true := by
   have h4 := (holds_andW hc).1
   rw [hn] at h4
   exact h4
  have h5 := condW_of h4 (w_not (w_lt w_lit (w_len_list (w_arg rfl))))
  rw [List.length_map] at h5
  refine Nat.le_of_not_lt fun q => ?_
  have q' : (n : Int) < ((ns.length : Nat) : Int) := by lia
  first
   | (rw [decide_eq_true q'] at h5; exact absurd h5 (by decide))
   | (simp at h5; lia)
 cases hwl with
 | cons w1 w2 =>
  cases w2
  cases w1 with
  | list ho hall => exact ⟨_, _, ns, rfl, rfl, ho, ints_of_wellAll ns _ hall, hlen⟩
theorem post_true (l : OpenLaw) (args : List WData) : l.row.toRowW.claim.post args (.bool true) args = true :=
 postW_of (r := l.row.toRowW) (X := (true == true))
  (show WShape.has [] (.bool true) .bool = true by first | rfl | decide | simp [WShape.has, WShape.arms, WShape.armsAll])
  (show (WTm.eq .res (.lit (.bool true))).value [] { args := args, res := some (.bool true), after := args } = some (.bool (true == true)) from w_eq_bool (w_res rfl) w_lit) rfl
theorem attach_call {l : OpenLaw} {n : Nat} {q : Program} {loose : List Str} {XP : (Str → Option Value) → Heap → Prop} {YP : World → Heap → Prop} {d : DefRec}
  (hn : l.most = some n) (hdf : d.params.defaults = [])
  (call : ∀ (w : World) (s₀ s₁ : Shared) (mg mb : Str → Option Value) (fa : Addr) (o : Obj) (pm cd doc : Value) (a : Addr) (vs : List Value) (ns : List Int),
   Ground q loose [] XP w s₀ mg mb s₁.heap → YP w s₁.heap →
   s₁.heap.get? fa = some o → o.data = .func (docDef d.name d.params d.body d.scope pm cd doc) → s₁.heap.CodeRec cd d.name → mg d.name = some (.ref fa) →
   s₁.heap.get? a = some { cls := .type "list", data := .seq vs.toArray } → IntsAre vs ns → ns.length ≤ n → s₁.gens = #[] →
   codeAny (model l.prog w) callerA (.call (.ref fa) ⟨[.ref a], []⟩) (fun r s' => r = .ok (.ret (.bool true)) ∧ OldK s₁.heap s'.heap ∧ s'.os = s₁.os ∧ AllBare s'.gens) s₁) :
  WalkO q loose XP YP l.row.toRowW d [] (fun f vs => PySem.call f vs) := by
 intro w s₀ s₁ mg mb G Y fa o pm cd doc dV kV ho hd hcd hD hmg hg args vals as hpre hlay hrd hwl hlo
 obtain rfl : dV = .none := Dflts.none hD hdf
 obtain rfl : kV = .none := Dflts.noKw hD
 obtain ⟨a, vs, ns, rfl, rfl, hobj, hints, hlen⟩ := script_of hn hpre hwl
 refine enter_call (codeAny_mono (call w s₀ s₁ mg mb fa o pm cd doc a vs ns G Y ho (fd_plain hd) hcd hmg hobj hints hlen hg) fun r s' hq => ?_)
 obtain ⟨rfl, h2, h3, h4⟩ := hq
 exact ⟨.inl ⟨.bool true, .bool true, [], rfl, fun _ => rfl, .bool true, post_true l _, fun _ => ⟨List.Pairwise.nil, fun _ hm => (nomatch hm)⟩⟩, h2, h3, h4⟩
section
variable {prog : Program} {w : World} {A : Around} {E : Value → Shared → Prop} {s : Shared} {K : Frag}
end
end Att
namespace L2
open PySem PySem.Spec PyProof.Rows
theorem vals_ints : ∀ {vs : List Value} {ns : List Int}, IntsAre vs ns → Vals (ns.map V.int) vs
 | _, _, .nil => .nil
 | _, _, .cons n t h => .cons ⟨t, rfl⟩ (vals_ints h)
def Only (H : Hp) : Prop := ∀ b, H b = none ∨ ∃ o xs, H b = some (.frz o (.lst xs))
theorem law_call {P : Program} {w : World} {K : Fg} {mg mb : Str → Option Value} {CX : CXT} {k : Nat} {fa a : Addr} {fd : FuncData} {x : Str} {sp : Sp} {s₁ : Shared} {vs : List Value} {ns : List Int}
  (KX : K.In s₁.heap) (hns : s₁.heap.Ns mainGlobals mg) (hb : s₁.heap.Ns builtinsNs mb) (hbb : ∀ x : Str, x ≠ "__name__" → mb x = bootBuiltins x) (hlim : s₁.heap.NoLimit) (hg : s₁.gens = #[])
  (ha : s₁.heap.get? a = some { cls := .type "list", data := .seq vs.toArray }) (hi : IntsAre vs ns) (hl : ns.length ≤ sizeLine) (hr : Room k callerA)
  (F : ∀ base : Heap, K.In base → base.Ns mainGlobals mg → FnOk P w K mg base CX k fa fd [x] sp) (hbind : ∀ (s : Shared) (u : Value), BindsTo s fd ⟨[u], []⟩ [(x, u)])
  (hsp : ∀ H : Hp, Only H → SqL K H a (ns.map V.int) → sp [.ref a] H (fun v _ => v = .bl true) fun _ _ _ => False)
  (hCX : ∀ H e s', CX [] H s₁ (fun _ _ _ => False) e s' → False) :
  codeAny (model P w) callerA (.call (.ref fa) ⟨[.ref a], []⟩) (fun r s' => r = .ok (.ret (.bool true)) ∧ OldK s₁.heap s'.heap ∧ s'.os = s₁.os ∧ AllBare s'.gens) s₁ := by
 have rv := vals_ints hi
 have lenV := hi.length
 -- from an abstract heap in which nothing but the script may be tracked
 have core : ∀ H : Hp, Only H → SqL K H a (ns.map V.int) → HOk P w H s₁.heap → (∀ b, H b ≠ none → b = a) → (H a ≠ none → K.lookup a = none) →
   codeAny (model P w) callerA (.call (.ref fa) ⟨[.ref a], []⟩) (fun r s' => r = .ok (.ret (.bool true)) ∧ OldK s₁.heap s'.heap ∧ s'.os = s₁.os ∧ AllBare s'.gens) s₁ := by
  intro H hO hS hok hA hK
  have base_of : ∀ {b : Addr} {o : Obj}, s₁.heap.get? b = some o → H b = none → (hidT s₁.heap H).get? b = some o := fun e n => hidT_get e n
  have noA : ∀ {b : Addr} {o : Obj} {es : Array DictEntry} {ep : Nat}, s₁.heap.get? b = some o → o.data = .dict es ep → H b = none := fun {b o es ep} e d => by
   cases q : H b with
   | none => rfl
   | some u =>
    have e' : b = a := hA b (by rw [q]; simp)
    subst e'
    rw [ha] at e; cases e
    have d' : Data.seq vs.toArray _ = Data.dict es ep := d
    cases d'
  have nsK : ∀ {b : Addr} {m : Str → Option Value}, s₁.heap.Ns b m → (hidT s₁.heap H).Ns b m := fun {b m} ⟨o, es, ep, e, d, r⟩ => ⟨o, es, ep, base_of e (noA e d), d, r⟩
  have hKb : K.In (hidT s₁.heap H) := fun b o e => base_of (KX b o e) (by
   cases q : H b with
   | none => rfl
   | some u =>
    have e' : b = a := hA b (by rw [q]; simp)
    subst e'
    rw [hK (by rw [q]; simp)] at e; cases e)
  have hM : Mod K mg (hidT s₁.heap H) := ⟨hKb, nsK hns, ⟨mb, nsK hb, hbb⟩, let ⟨mc, h1, h2⟩ := hlim; ⟨mc, nsK h1, h2⟩⟩
  have e0 : Env0 P w K mg (hidT s₁.heap H) callerA [] s₁ H := ⟨rfl, hM, fun b o e => of_hidT e, Nat.le_of_eq (hidT_size _ _), trivial, fun b hb => absurd (show b ∈ ([] : List Addr) from hb) (by simp), hok, .of_eq hg⟩
  refine codeAny_mono ((F _ hKb (nsK hns)).run callerA [] s₁ H ⟨[.ref a], []⟩ [.ref a] [.ref a] _ _ hr e0 (hbind s₁ (.ref a)) (.cons rfl .nil) (hsp H hO hS)) fun r s' h => ?_
  cases r with
  | error e => exact (hCX H e s' h).elim
  | ok fl =>
   cases fl with
   | next => exact False.elim h
   | brk => exact False.elim h
   | cont => exact False.elim h
   | ret u =>
    obtain ⟨v, H', os, bare, un, hok', r', q⟩ := h
    have q' : v = .bl true := q
    subst q'
    obtain rfl : u = Value.bool true := r'
    refine ⟨rfl, OldK.of_keep fun b o e => ?_, os, bare⟩
    cases q : H b with
    | none => exact un.keep b o e q (by intro z; exact absurd (show b ∈ ([] : List Addr) from z) (by simp)) (by simp)
    | some u =>
     rcases hO b with z | ⟨ob, xs, z⟩
     ·rw [q] at z; cases z
     ·have z2 := un.frzs b ob _ z
      obtain ⟨e1, _⟩ := hok b _ z
      obtain ⟨e2, _⟩ := hok' b _ z2
      rw [e] at e1; cases e1
      exact e2
 cases hk : K.lookup a with
 | some o =>
  -- the script is one of the module's own objects
  have e := KX a o hk
  rw [ha] at e
  cases e
  refine core (fun _ => none) (fun _ => .inl rfl) (.inr ⟨_, vs.toArray, _, hk, rfl, rfl, rfl, by rw [List.size_toArray, lenV]; exact hl, by simpa using rv⟩) (fun b u z => by have z' : (none : Option HO) = some u := z; cases z') (fun b z => absurd rfl z) fun z => absurd rfl z
 | none =>
  refine core (fun b => if b = a then some (.frz { cls := .type "list", data := .seq vs.toArray } (.lst (ns.map V.int))) else none) (fun b => ?_) (.inl (.inr ⟨{ cls := .type "list", data := .seq vs.toArray }, if_pos rfl⟩)) (fun b u z => ?_) (fun b z => ?_) fun _ => hk
  ·by_cases hb : b = a
   ·exact .inr ⟨_, _, if_pos hb⟩
   ·exact .inl (if_neg hb)
  ·by_cases hb : b = a
   ·have z' := (if_pos hb).symm.trans z
    cases z'
    subst hb
    exact ⟨ha, by rw [List.length_map]; exact hl, vs, _, rv, ha⟩
   ·have z' := (if_neg hb).symm.trans z
    cases z'
  ·by_cases hb : b = a
   ·exact hb
   ·exact absurd (if_neg hb) z
abbrev KOf {K : Fg} {h : Heap} (_ : K.In h) : Fg := K
theorem walk_of {l : PySem.W.OpenLaw} {n k : Nat} {q : Program} {loose : List Str} {XP : (Str → Option Value) → Heap → Prop} {YP : World → Heap → Prop} {d : DefRec} {K : Params → Fg} {CX : World → CXT} {sp : World → Sp} {x : Str}
  (hn : l.most = some n) (hn2 : n ≤ sizeLine) (hdf : d.params.defaults = []) (hr : Room k callerA)
  (hY : ∀ (w : World) (h : Heap), YP w h → (K w.params).In h)
  (F : ∀ (w : World) (mg : Str → Option Value) (fa : Addr) (h : Heap), (K w.params).In h → h.Ns mainGlobals mg → mg d.name = some (.ref fa) →
   ∃ fd : FuncData, (∀ (s : Shared) (u : Value), BindsTo s fd ⟨[u], []⟩ [(x, u)]) ∧
    ∀ base : Heap, (K w.params).In base → base.Ns mainGlobals mg → FnOk l.prog w (K w.params) mg base (CX w) k fa fd [x] (sp w))
  (hsp : ∀ (w : World) (H : Hp) (a : Addr) (ns : List Int), ns.length ≤ n → Only H → SqL (K w.params) H a (ns.map V.int) → sp w [.ref a] H (fun v _ => v = .bl true) fun _ _ _ => False)
  (hCX : ∀ (w : World) (H : Hp) (s : Shared) (e : Value) (s' : Shared), CX w [] H s (fun _ _ _ => False) e s' → False) :
  PySem.W.WalkO q loose XP YP l.row.toRowW d [] (fun f vs => PySem.call f vs) := by
 refine Att.attach_call hn hdf fun w s₀ s₁ mg mb fa o pm cd doc a vs ns G Y ho hd hcd hmg hobj hints hlen hg => ?_
 have KX := hY w _ Y
 obtain ⟨fd, hb, hF⟩ := F w mg fa _ KX G.T.g hmg
 exact law_call KX G.T.g G.T.b G.T.builtins G.T.nolimit hg hobj hints (Nat.le_trans hlen hn2) hr hF hb (fun H hO hS => hsp w H a ns hlen hO hS) fun H e s' => hCX w H s₁ e s'
end L2
/- THE LAST THEOREM (shape; LID, My.* are yours):
   My.Adr: a structure of the addresses that your layer names (classes, functions); My.Txt K t: a structure (Prop) of the equations over K;
   My.txt_mk : {K} {implicit addresses ..} (e1 : nsIn K mainGlobals "law" = some (some (.ref f))) (e2 : K.lookup f = some ⟨oc, od, .func (fnOf "law" "law" params body scope dV kV doc pm an cdv ct), sl⟩) (e3 : codeIn K cdv "law" = true) .. : ∃ t, My.Txt K t
set_option maxRecDepth 100000 in
set_option maxHeartbeats 0 in
theorem PySem.Challenge.cw_LID_holds : PySem.Challenge.rw_LID.Holds := by
 w_on; o_law; k_head; (case hw => w_witness2)
 k_fill
 refine L2.walk_of (l := PySem.Challenge.rw_LID) (n := 63) (k := 40) (x := "script") (CX := fun w => ..) (sp := fun _ => My.sp_law) rfl (by decide) rfl ⟨rfl, by decide, by decide⟩ (fun w h Y => PySem.W.kIn_of Y) ?F ?S ?C
 case F =>
  intro w mg fa h KX G hmg
  have T : ∃ t, My.Txt (L2.KOf KX) t := by
   dsimp only [L2.KOf]                          -- K must stand as «<heap const> w.params» for k_is
   refine' My.txt_mk ?e1 ?e2 ?e3 ..
   (case e1 => PySem.W.k_is)                    -- in the order: a name -> its address -> its object -> its parts
   (case e2 => PySem.W.k_is)
   ..
  obtain ⟨t, T⟩ := T
  have e0 := hmg.symm.trans (PySem.W.mg_of KX G T.law)
  cases e0                                       -- fa is the law's own address
  exact ⟨_, fun s u => .of_eq rfl, fun base kb nb => My.law_fn T kb nb⟩     -- if «.of_eq rfl» comes too early: refine' ⟨_, ?b, fun base kb nb => My.law_fn T kb nb⟩; exact fun s u => .of_eq rfl
 case S => exact fun w H a ns hl hO hS => ..
 case C => exact ..
(the tactic k_is has no namespace: write k_is) -/
namespace L2
open PySem PySem.Spec PyProof.Rows
def inClass (s : Stmt) (j : Nat) : Stmt := match s with
 | .ClassDef _ _ _ body _ _ _ _ _ _ _ => body.getD j (.Pass ⟨0, 0, 0, 0⟩)
 | _ => .Pass ⟨0, 0, 0, 0⟩
def defArgs (s : Stmt) : Arguments := match s with
 | .FunctionDef _ a _ _ _ _ _ _ _ _ => a
 | _ => { posonlyargs := [], args := [], vararg := none, kwonlyargs := [], kw_defaults := [], kwarg := none, defaults := [] }
def defBody (s : Stmt) : List Stmt := match s with
 | .FunctionDef _ _ b _ _ _ _ _ _ _ => b
 | _ => []
def defScope (s : Stmt) : Scope := match s with
 | .FunctionDef _ _ _ _ _ _ sc _ _ _ => sc
 | _ => { kind := .function, names := [], isGenerator := false, isCoroutine := false }
abbrev CX0 : CXT := fun _ _ _ _ _ _ => False
abbrev E0 : XK := fun _ _ _ => False
theorem pass0 {X : Cx} : Passes CX0 X E0 := fun _ _ _ _ _ _ _ h => h.elim
structure Fun (K : Fg) (x qual : Str) (st : Stmt) (f : Addr) (fd : FuncData) : Prop where
 ex : ∃ (oc : Value) (od : Option Addr) (kV doc pm : Value) (an : Option Addr) (cdv ct : Value) (osl : Array (Option Value)),
  fd = PySem.W.fnOf x qual (defArgs st) (defBody st) (defScope st) .none kV doc pm an cdv ct ∧ K.lookup f = some ⟨oc, od, .func fd, osl⟩ ∧ PySem.W.codeIn K cdv qual = true
 kp : PySem.W.keepIn K (.ref f) = true
section
variable {P : Program} {w : World} {K : Fg} {mg : Str → Option Value} {base : Heap}
theorem Fun.ok {x qual : Str} {st : Stmt} {f : Addr} {fd : FuncData} {N ps : List Str} {k : Nat} {sp : Sp} (F : Fun K x qual st f fd) (S : FnScope N ps (defScope st)) (len : ∀ vs H Q E, sp vs H Q E → vs.length = ps.length)
  (hbody : ∀ (cdv : Value) (A : Around) (outer : List Env) (s : Shared) (H : Hp) (vs : List V) (Q : VK) (E : XK), Room k (A.deeper (envOfC qual (defScope st) s.heap.objs.size f cdv)) → sp vs H Q E →
   ∃ t, PSs (cxOf CX0 P w K mg base N qual (defScope st) f cdv A outer s H E).nox (defBody st) t ∧ t { nx := fun _ H' => Q .non H', rt := Q } (start N vs) H) : FnOk P w K mg base CX0 (k + 1) f fd ps sp := by
 obtain ⟨oc, od, kV, doc, pm, an, cdv, ct, osl, rfl, lk, hcd⟩ := F.ex
 refine fn_of lk hcd S len fun A outer s H vs Q E hr hsp => ?_
 obtain ⟨t, h, q⟩ := hbody cdv A outer s H vs Q E hr hsp
 exact ⟨t, h.nox, q⟩
theorem Fun.binds {x qual : Str} {st : Stmt} {f : Addr} {fd : FuncData} {ps : List Str} (F : Fun K x qual st f fd)
  (h : ∀ (kV doc pm : Value) (an : Option Addr) (cdv ct : Value) (us : List Value), us.length = ps.length → bindArgs (PySem.W.fnOf x qual (defArgs st) (defBody st) (defScope st) .none kV doc pm an cdv ct) ⟨us, []⟩ = pure (ps.zip us)) : Binds K fd ps [] := by
 obtain ⟨oc, od, kV, doc, pm, an, cdv, ct, osl, rfl, lk, hcd⟩ := F.ex
 exact .all (h kV doc pm an cdv ct)
theorem fun_mk {x qual : Str} {st : Stmt} {f : Addr} {oc : Value} {od an : Option Addr} {osl : Array (Option Value)} {kV doc pm cdv ct : Value} (l : K.lookup f = some ⟨oc, od, .func (PySem.W.fnOf x qual (defArgs st) (defBody st) (defScope st) .none kV doc pm an cdv ct), osl⟩)
  (c : PySem.W.codeIn K cdv qual = true) (k : PySem.W.keepIn K (.ref f) = true) : Fun K x qual st f (PySem.W.fnOf x qual (defArgs st) (defBody st) (defScope st) .none kV doc pm an cdv ct) := ⟨⟨oc, od, kV, doc, pm, an, cdv, ct, osl, rfl, l, c⟩, k⟩
end
theorem hu_of {A : Around} {k : Nat} (hr : Room k A) : A.units + 1 < cLine := Nat.lt_of_le_of_lt (Nat.add_le_add_left (by decide : 1 ≤ 64) _) hr.units
section
variable {X : Cx}
theorem pv (i : Nat) {x : Str} {pos : Pos} (hN : autoParam (X.N[i]? = some x) L2.aRfl._auto_1) (hv : Vis X.env.scope x := by first | exact Or.inl rfl | exact Or.inr (Or.inl rfl) | exact Or.inr (Or.inr rfl)) (hd : autoParam ((x == ("__debug__" : Str)) = false) L2.aDec._auto_1)
  (hcd : autoParam ((x == ("__classdict__" : Str)) = false) L2.aDec._auto_1) : PE X (.Name x pos) (tVar i) := pe_var hN hv hd hcd
end
theorem iteF {A B : Prop} (h : B) : if false = true then A else B := by
 rw [if_neg Bool.false_ne_true]
 exact h
theorem iteT {A B : Prop} (h : A) : if true = true then A else B := by
 rw [if_pos rfl]
 exact h
theorem ite2 {c A B : Prop} [Decidable c] (h1 : c → A) (h2 : ¬ c → B) : if c then A else B := by
 by_cases h : c
 ·rw [if_pos h]
  exact h1 h
 ·rw [if_neg h]
  exact h2 h
def Same (H H' : Hp) : Prop := ∀ b o, H b = some o → H' b = some o
theorem Same.refl (H : Hp) : Same H H := fun _ _ h => h
theorem Same.trans {H H1 H2 : Hp} (a : Same H H1) (b : Same H1 H2) : Same H H2 := fun c o h => b c o (a c o h)
theorem Same.seq {K : Fg} {H H' : Hp} {a : Addr} {xs : List V} (e : Same H H') (h : SqL K H a xs) : SqL K H' a xs := by
 rcases h with (h | ⟨o, h⟩) | h
 ·exact .inl (.inl (e _ _ h))
 ·exact .inl (.inr ⟨o, e _ _ h⟩)
 ·exact .inr h
theorem compLoop_any {prog : Program} {w : World} {A : Around} {R : Result → Shared → Prop} {s : Shared} {elt target iter : Expr} {ifs : List Expr} {scope : Scope} {pos : Pos} {it acc : Value} {env : Env} (I : Nat → Shared → Prop)
  (turn : ∀ n s, I n s → wpAny (model prog w) A (pyNext it) (fun r s1 => match r with
   | none => R (.ok .next) s1
   | some v => wpAny (model prog w) A (letOwnedTupleGo target it v) (fun _ s1' => wpAny (model prog w) A (assign target env v) (fun _ s2 =>
     wpAny (model prog w) A (forIn ifs true fun c r => if r = true then do let ok ← isTrue c env (eval c env); pure (ForInStep.yield ok) else pure (ForInStep.yield r)) (fun ok s3 =>
      if ok = true then wpAny (model prog w) A (eval elt env) (fun x s4 =>
       wpAny (model prog w) A (call (.builtin "list.append") [acc, x]) (fun _ s5 => ∃ m, m < n ∧ I m s5) (fun _ _ => False) s4) (fun _ _ => False) s3
      else ∃ m, m < n ∧ I m s3) (fun _ _ => False) s2) (fun _ _ => False) s1') (fun _ _ => False) s1) (fun _ _ => False) s)
  (n : Nat) (h : I n s) :
  codeAny (model prog w) A (.compLoop (.ListComp elt [⟨target, iter, ifs, 0⟩] scope pos) 0 it acc env) R s := by
 refine codeAny_loop rfl I (fun n s hI => ?_) n h
 show wpAny _ A ((compTurn (.ListComp elt [⟨target, iter, ifs, 0⟩] scope pos) 0 it acc env).onRaise (fun x => do noteFrame x env; theTreesLotGoes x)) _ _ s
 refine wpAny_noted ?_
 rw [compTurn_list]
 refine wpAny_bind (wpAny_standAt (wpAny_bind (wpAny_mono (turn n s hI) (fun r s1 h1 => ?_) fun _ _ h' => h'.elim)))
 cases r with
 | none => exact wpAny_pure h1
 | some v =>
  refine wpAny_bind (wpAny_mono h1 (fun _ s1' h1' => ?_) fun _ _ h' => h'.elim)
  refine wpAny_bind (wpAny_mono h1' (fun _ s2 h2 => wpAny_bind (wpAny_mono h2 (fun ok s3 h3 => ?_) fun _ _ h' => h'.elim)) fun _ _ h' => h'.elim)
  cases ok with
  | false => exact wpAny_pure ⟨rfl, h3⟩
  | true =>
   exact wpAny_bind (wpAny_bind (wpAny_mono h3 (fun x s4 h4 => wpAny_bind (wpAny_mono h4 (fun _ s5 h5 => wpAny_pure (wpAny_pure ⟨rfl, h5⟩)) fun _ _ h' => h'.elim)) fun _ _ h' => h'.elim))
def freeOk (sc : Scope) : List (Str × NameKind) → Bool
 | [] => true
 | (n, k) :: r => (k != .free || sc.names.lookup n == some .cell || sc.names.lookup n == some .free) && freeOk sc r
def cellsIn (env : Env) : List (Str × NameKind) → List (Str × Addr) → List (Str × Addr)
 | [], cs => cs
 | (n, k) :: r, cs => cellsIn env r (if k = .free then (n, (env.cells.lookup n).getD 0) :: cs else cs)
theorem cellsIn_sub {env : Env} : ∀ (l : List (Str × NameKind)) (cs : List (Str × Addr)), (∀ n, (n, NameKind.free) ∈ l → ∃ c, env.cells.lookup n = some c) → (∀ x c, cs.lookup x = some c → env.cells.lookup x = some c) →
  ∀ x c, (cellsIn env l cs).lookup x = some c → env.cells.lookup x = some c
 | [], cs, _, h => h
 | (n, k) :: r, cs, hl, h => by
  refine cellsIn_sub r _ (fun m hm => hl m (List.mem_cons_of_mem _ hm)) fun x c e => ?_
  by_cases hk : k = .free
  ·rw [if_pos hk] at e
   subst hk
   obtain ⟨c', hc⟩ := hl n List.mem_cons_self
   rw [List.lookup_cons] at e
   cases hx : x == n with
   | true =>
    rw [hx] at e
    have : x = n := by simpa using hx
    subst this
    rw [hc] at e
    simp at e
    rw [hc, e]
   | false => rw [hx] at e; exact h x c e
  ·rw [if_neg hk] at e
   exact h x c e
theorem cellsIn_has {env : Env} : ∀ (l : List (Str × NameKind)) (cs : List (Str × Addr)) (x : Str), ((cs.lookup x).isSome = true ∨ (x, NameKind.free) ∈ l) → ((cellsIn env l cs).lookup x).isSome = true
 | [], cs, x, h => by
  rcases h with h | h
  ·exact h
  ·exact nomatch h
 | (n, k) :: r, cs, x, h => by
  refine cellsIn_has r _ x ?_
  rcases h with h | h
  ·left
   split
   ·rw [List.lookup_cons]
    split
    ·rfl
    ·exact h
   ·exact h
  ·rcases List.mem_cons.mp h with e | e
   ·cases e
    left
    rw [if_pos rfl, List.lookup_cons]
    simp
   ·exact .inr e
theorem closureFor_cells {scope : Scope} {env : Env} (h : ∀ n, (n, NameKind.free) ∈ scope.names → ∃ c, env.cells.lookup n = some c) : closureFor scope env = pure (cellsIn env scope.names []) := by
 unfold closureFor
 suffices ∀ (l : List (Str × NameKind)) (cs : List (Str × Addr)), (∀ n, (n, NameKind.free) ∈ l → ∃ c, env.cells.lookup n = some c) → (forIn l cs fun x r =>
   if (x.2 == NameKind.free) = true then do let a ← cellOf env x.1; pure (ForInStep.yield ((x.1, a) :: r)) else pure (ForInStep.yield r) : Sem _) = pure (cellsIn env l cs) by
  have := this scope.names [] h
  simp only at this ⊢
  rw [this]
  rfl
 intro l
 induction l with
 | nil => intro cs _; rfl
 | cons p r ih =>
  intro cs hl
  obtain ⟨n, k⟩ := p
  rw [List.forIn_cons]
  by_cases hk : k = .free
  ·subst hk
   obtain ⟨c, hc⟩ := hl n List.mem_cons_self
   have e : cellOf env n = pure c := by unfold cellOf; rw [hc]
   have hb : (NameKind.free == NameKind.free) = true := rfl
   simp only [hb, if_true, e, cellsIn, hc, Option.getD_some]
   exact ih _ fun m hm => hl m (List.mem_cons_of_mem _ hm)
  ·have hb : (k == NameKind.free) = false := by simpa using hk
   simp only [hb, Bool.false_eq_true, if_false, cellsIn, if_neg hk]
   exact ih _ fun m hm => hl m (List.mem_cons_of_mem _ hm)
theorem freeOk_mem {sc : Scope} : ∀ {l : List (Str × NameKind)}, freeOk sc l = true → ∀ n, (n, NameKind.free) ∈ l → sc.names.lookup n = some .cell ∨ sc.names.lookup n = some .free
 | [], _, n, h => nomatch h
 | (m, k) :: r, h, n, hm => by
  simp only [freeOk, Bool.and_eq_true] at h
  rcases List.mem_cons.mp hm with e | e
  ·cases e
   have h1 := h.1
   have hb : (NameKind.free != NameKind.free) = false := rfl
   rw [hb] at h1
   simp only [Bool.false_or, Bool.or_eq_true, beq_iff_eq] at h1
   exact h1
  ·exact freeOk_mem h.2 n e
theorem relabel_lookup {env : Env} : ∀ {names : List (Str × NameKind)} {x : Str} {k : NameKind}, (names.map fun (n, k) => if (k == NameKind.free && env.scope.kind == .function && env.kindOf n == some .cell) then (n, NameKind.cell) else (n, k)).lookup x = some k →
  ∃ k0, names.lookup x = some k0 ∧ (k = k0 ∨ (k = .cell ∧ k0 = .free))
 | [], _, _, h => by simp at h
 | (n, k0) :: r, x, k, h => by
  rw [List.map_cons] at h
  by_cases hc : (k0 == NameKind.free && env.scope.kind == .function && env.kindOf n == some .cell) = true
  ·simp only [hc, if_true, List.lookup_cons] at h
   rw [List.lookup_cons]
   cases hx : x == n with
   | true =>
    rw [hx] at h
    refine ⟨k0, rfl, .inr ⟨(Option.some.inj h).symm, ?_⟩⟩
    simp only [Bool.and_eq_true, beq_iff_eq] at hc
    exact hc.1.1
   | false => rw [hx] at h; exact relabel_lookup h
  ·simp only [hc, Bool.false_eq_true, if_false, List.lookup_cons] at h
   rw [List.lookup_cons]
   cases hx : x == n with
   | true => rw [hx] at h; exact ⟨k0, rfl, .inl (Option.some.inj h).symm⟩
   | false => rw [hx] at h; exact relabel_lookup h
theorem lookup_mem {α : Type} : ∀ {l : List (Str × α)} {x : Str} {k : α}, l.lookup x = some k → (x, k) ∈ l
 | [], _, _, h => by simp at h
 | (n, k0) :: r, x, k, h => by
  rw [List.lookup_cons] at h
  cases hx : x == n with
  | true =>
   rw [hx] at h
   have e1 : x = n := by simpa using hx
   have e2 : k0 = k := Option.some.inj h
   subst e1 e2
   exact List.mem_cons_self
  | false => rw [hx] at h; exact List.mem_cons_of_mem _ (lookup_mem h)
def capSt (cp : List (Option Nat)) (σ : St) : St := cp.map fun (o : Option Nat) => match o with
 | none => none
 | some j => match σ[(j : Nat)]? with
  | some v => v
  | none => none
def capOk (X : Cx) (scope : Scope) : List Str → List (Option Nat) → Bool
 | [], [] => true
 | x :: N, o :: cp => (match o with | none => true | some j => X.N[j]? == some x && scope.names.lookup x == some .free) && capOk X scope N cp
 | _, _ => false
theorem capOk_len {X : Cx} {scope : Scope} : ∀ {N : List Str} {cp : List (Option Nat)}, capOk X scope N cp = true → cp.length = N.length
 | [], [], _ => rfl
 | _ :: N, _ :: cp, h => by
  simp only [capOk, Bool.and_eq_true] at h
  simp [capOk_len h.2]
 | [], _ :: _, h => by simp [capOk] at h
 | _ :: _, [], h => by simp [capOk] at h
theorem capOk_get {X : Cx} {scope : Scope} : ∀ {N : List Str} {cp : List (Option Nat)} {i : Nat} {x : Str} {v : V} {σ : St}, capOk X scope N cp = true → N[i]? = some x → (capSt cp σ)[i]? = some (some v) →
  ∃ j : Nat, X.N[j]? = some x ∧ σ[j]? = some (some v) ∧ scope.names.lookup x = some .free
 | [], [], i, x, v, σ, _, h, _ => by simp at h
 | y :: N, o :: cp, 0, x, v, σ, h, e, e2 => by
  simp only [capOk, Bool.and_eq_true] at h
  have e' : y = x := by simpa using e
  subst e'
  cases o with
  | none => simp [capSt] at e2
  | some j =>
   have h1 := h.1
   simp only [Bool.and_eq_true, beq_iff_eq] at h1
   refine ⟨j, h1.1, ?_, h1.2⟩
   simp only [capSt, List.map_cons, List.getElem?_cons_zero, Option.some.injEq] at e2
   cases q : σ[j]? with
   | none => rw [q] at e2; cases e2
   | some z => rw [q] at e2; exact congrArg some e2
 | y :: N, o :: cp, i + 1, x, v, σ, h, e, e2 => by
  simp only [capOk, Bool.and_eq_true] at h
  exact capOk_get (i := i) h.2 (by simpa using e) (by simpa [capSt] using e2)
 | [], _ :: _, _, _, _, _, h, _, _ => by simp [capOk] at h
 | _ :: _, [], _, _, _, _, h, _, _ => by simp [capOk] at h
def cxBlock (X : Cx) (N : List Str) (scope : Scope) (fp : List Addr) (H : Hp) (s : Shared) : Cx :=
 { X with N := N, s₀ := s, H₀ := H, env := compEnvC scope (cellsIn X.env scope.names []) s.heap.objs.size X.env, outer := X.stack, stack := X.stack, ex := fp, fn := fun _ => false, pn := [], xe := fun _ _ => False }
section
variable {X : Cx}
theorem noCell_mem {l : List (Str × NameKind)} (h : (l.all fun p => p.2 != .cell) = true) : ∀ y ∈ l, y.2 ≠ .cell := fun y hy => by
 have := List.all_eq_true.mp h y hy
 simpa using this
theorem cxBlock_ok {pins : List (Addr × Obj)} {σ : St} {H : Hp} {s : Shared} {N : List Str} {scope : Scope} {fp : List Addr} (I : Inv X pins σ H s) (hf : ∀ b ∈ fp, FpOk X pins H b) (hlt : ∀ b ∈ fp, b < s.heap.objs.size) (hk : scope.kind = .function)
  (hcell : (scope.names.all fun p => p.2 != .cell) = true) (hfree : freeOk X.env.scope scope.names = true) : (cxBlock X N scope fp H s).Ok := by
 have has : ∀ n, (n, NameKind.free) ∈ scope.names → ∃ c, X.env.cells.lookup n = some c := fun n hn => I.ok.has n (freeOk_mem hfree n hn)
 have sub : ∀ x c, (cellsIn X.env scope.names []).lookup x = some c → X.env.cells.lookup x = some c := cellsIn_sub _ _ has fun x c e => by simp at e
 have fs : ∀ b ∈ fp, b ∉ frs X.stack := fun b hb z => by
  obtain ⟨_, f1, f2, _⟩ := hf b hb
  rcases List.mem_cons.mp (I.stkSub b z) with e | e
  ·exact f1 e
  ·exact f2 e
 refine ⟨I.ok.mod, hk, I.ok.glob, I.ok.blt, Nat.le_refl _, fun x y c h1 h2 => I.ok.inj x y c (sub x c h1) (sub y c h2), fun x hx => ?_, (fun x c h => nomatch h), I.ok.hd, I.ok.frames, .inl rfl, fun b hb => ⟨Nat.ne_of_lt (hlt b hb), fun x c e => (hf b hb).2.2.2.2.1 x c (sub x c e)⟩,
  I.bs, Nat.le_trans I.ok.bsz I.sz, fun b o e hb => ?_, fs, I.stack, I.stkFree⟩
 ·have hx' : (scope.names.map fun (n, k) => if (k == NameKind.free && X.env.scope.kind == .function && X.env.kindOf n == some .cell) then (n, NameKind.cell) else (n, k)).lookup x = some .cell ∨
    (scope.names.map fun (n, k) => if (k == NameKind.free && X.env.scope.kind == .function && X.env.kindOf n == some .cell) then (n, NameKind.cell) else (n, k)).lookup x = some .free := hx
  have fr : (x, NameKind.free) ∈ scope.names := by
   rcases hx' with e | e
   ·obtain ⟨k0, e0, z | z⟩ := relabel_lookup e
    ·subst z
     exact absurd rfl (noCell_mem hcell _ (lookup_mem e0))
    ·obtain ⟨_, z⟩ := z
     subst z
     exact lookup_mem e0
   ·obtain ⟨k0, e0, z | z⟩ := relabel_lookup e
    ·subst z
     exact lookup_mem e0
    ·exact nomatch z.1
  exact Option.isSome_iff_exists.mp (cellsIn_has _ _ x (.inr fr))
 ·obtain ⟨_, _, _, f3, _⟩ := hf b hb
  rcases f3 with z | z
  ·exact I.ok.noex b o e z
  ·exact absurd (Nat.lt_of_lt_of_le (Heap.lt_size (I.ok.bs b o e).1) z) (Nat.lt_irrefl _)
theorem block_inv {pins : List (Addr × Obj)} {σ : St} {H : Hp} {s : Shared} {N : List Str} {scope : Scope} {fp : List Addr} {cp : List (Option Nat)} {h' : Heap} {m : Str → Option Value} {t' : Nat} (I : Inv X pins σ H s) (hf : ∀ b ∈ fp, FpOk X pins H b) (hlt : ∀ b ∈ fp, b < s.heap.objs.size) (hk : scope.kind = .function)
  (hcell : (scope.names.all fun p => p.2 != .cell) = true) (hfree : freeOk X.env.scope scope.names = true) (hcap : capOk X scope N cp = true)
  (hns : h'.Ns s.heap.objs.size m) (hx : ∀ b o, s.heap.get? b = some o → h'.get? b = some o) : Inv (cxBlock X N scope fp H s) [] (capSt cp σ) H { s with heap := h', toks := t' } := by
 have has : ∀ n, (n, NameKind.free) ∈ scope.names → ∃ c, X.env.cells.lookup n = some c := fun n hn => I.ok.has n (freeOk_mem hfree n hn)
 have sub : ∀ x c, (cellsIn X.env scope.names []).lookup x = some c → X.env.cells.lookup x = some c := cellsIn_sub _ _ has fun x c e => by simp at e
 refine ⟨cxBlock_ok I hf hlt hk hcell hfree, rfl, I.bare, ⟨fun b o e n _ _ => hx b o e, fun b o e n _ _ => ⟨o.slots, hx b o e⟩, fun b o e n _ => n, fun b o e _ => ⟨o, hx b o e⟩, fun b xs e => e, fun b o xs e => e, fun b ps e => ⟨#[], by rw [Array.append_empty]; exact e⟩⟩, ⟨m, hns, fun i x v e1 e2 e3 => ?_⟩, fun x c e => ?_, I.hok.fresh (Nat.le_refl _), fun x c e => I.freeC x c (sub x c e), (fun p hp => nomatch hp), I.hok.kept hx, ?_⟩
 ·obtain ⟨j, h1, h2, h3⟩ := capOk_get hcap e1 e2
  obtain ⟨m', _, hl⟩ := I.loc
  have hkx := freeOk_mem hfree x (lookup_mem h3)
  obtain ⟨u, r, l⟩ := hl j x v h1 h2 (.inr hkx)
  rcases l with ⟨l, _⟩ | ⟨_, c, hc, hcell'⟩
  ·rcases hkx with z | z
   ·exact nomatch (Option.some.inj (l.symm.trans z))
   ·exact nomatch (Option.some.inj (l.symm.trans z))
  ·obtain ⟨c', hc'⟩ := Option.isSome_iff_exists.mp (cellsIn_has (env := X.env) scope.names [] x (.inr (lookup_mem h3)))
   have ec := sub x c' hc'
   rw [hc] at ec
   cases ec
   refine ⟨u, r, .inr ⟨?_, c, hc', ?_⟩⟩
   ·rcases e3 with z | z | z
    ·obtain ⟨k0, e0, y | y⟩ := relabel_lookup (show (scope.names.map fun (n, k) => if (k == NameKind.free && X.env.scope.kind == .function && X.env.kindOf n == some .cell) then (n, NameKind.cell) else (n, k)).lookup x = some .local from z)
     ·rw [h3] at e0; cases e0; cases y
     ·exact nomatch y.1
    ·exact .inl z
    ·exact .inr z
   ·obtain ⟨o, ho, hd⟩ := hcell'
    exact ⟨o, hx c o ho, hd⟩
 ·obtain ⟨v, o, ho, hd⟩ := I.cell x c (sub x c e)
  exact ⟨v, o, hx c o ho, hd⟩
 ·show (capSt cp σ).length = N.length
  unfold capSt
  rw [List.length_map]
  exact capOk_len hcap
theorem block_after {pins : List (Addr × Obj)} {σ σ' : St} {H H' : Hp} {s s' : Shared} {N : List Str} {scope : Scope} {fp : List Addr} {pins' : List (Addr × Obj)} (I : Inv X pins σ H s) (hf : ∀ b ∈ fp, FpOk X pins H b)
  (J : Inv (cxBlock X N scope fp H s) pins' σ' H' s') : Inv X pins σ H' s' :=
 I.call' (ch := fp) J.os J.base J.hok J.bare fun b hb => ⟨(hf b hb).2.2.2.1, (hf b hb).2.1, (hf b hb).2.2.2.2.1, (hf b hb).2.2.2.2.2⟩
def PF (X : Cx) (ifs : List Expr) (t : TT) : Prop :=
 ∀ (pins : List (Addr × Obj)) (s : Shared) (σ : St) (H : Hp) (Q : Bool → Hp → Prop), Inv X pins σ H s → t σ H Q →
  wpAny (model X.prog X.w) X.A (forIn ifs true fun c r => if r = true then do let ok ← isTrue c X.env (eval c X.env); pure (ForInStep.yield ok) else pure (ForInStep.yield r)) (TP X pins σ Q) X.xe s
def tYes : TT := fun _ H Q => Q true H
theorem pf_nil : PF X [] tYes := fun _ _ _ H _ I h => wpAny_tests_nil ⟨H, I, h⟩
theorem pf_one {c : Expr} {t : TT} (hc : PT X c t) : PF X [c] t := fun pins s σ H Q I h => wpAny_tests_one (hc pins s σ H Q I h)
def LcW (J : It) (D : Addr) (τ0 : St) (H : Hp) (g : TG) (tt : TT) (te : TE) (Q : Addr → Hp → Prop) : Prop := ∃ W : Nat → Nat → St → List V → Hp → Prop, (∃ m, W 0 m τ0 [] (upd H D (.lst []))) ∧ ∀ i m τ ys H, W i m τ ys H →
 H D = some (.lst ys) ∧ ((J.stop i H ∧ Q D H) ∨ (J.go i H ∧ ys.length < sizeLine ∧ ∃ (N1 : St → V → Hp → Prop) (N2 : St → Hp → Prop), (∀ τ v H, N1 τ v H → ∃ m', m' < m ∧ W (i + 1) m' τ (ys ++ [v]) (upd H D (.lst (ys ++ [v])))) ∧ (∀ τ H, N2 τ H → ∃ m', m' < m ∧ W (i + 1) m' τ ys H) ∧
  ∀ x H', J.yld i H x H' → g x τ H' fun σ2 H2 => tt σ2 H2 fun ok H3 => if ok = true then te σ2 H3 fun v H4 => H4 D = some (.lst ys) ∧ N1 σ2 v H4 else N2 σ2 H3))
def tLC (cp : List (Option Nat)) (wi : TI) (g : TG) (tt : TT) (te : TE) (σ : St) (H : Hp) (Q : Addr → Hp → Prop) : Prop := wi σ H fun J H1 => ∀ D, H1 D = none → LcW J D (capSt cp σ) H1 g tt te Q
theorem lc_block {elt iter target : Expr} {ifs : List Expr} {scope : Scope} {pos : Pos} {N : List Str} {cp : List (Option Nat)} {g : TG} {tt : TT} {te : TE} {pins : List (Addr × Obj)} {σ : St} {H : Hp} {s : Shared} {E : Value → Shared → Prop} {Q : Addr → Hp → Prop}
  {it : Addr} {fp : List Addr} {tn : Nat → Heap → Prop} {J : It} {RR : Value → Addr → Result → Shared → Prop} (hc : X.calm = true) (hk : scope.kind = .function) (hcell : (scope.names.all fun p => p.2 != .cell) = true) (hfree : freeOk X.env.scope scope.names = true) (hcap : capOk X scope N cp = true)
  (hg : ∀ fp H s, PG (cxBlock X N scope fp H s) target g) (ht : ∀ fp H s, PF (cxBlock X N scope fp H s) ifs tt) (he : ∀ fp H s, PE (cxBlock X N scope fp H s) elt te)
  (I : Inv X pins σ H s) (T : Turn X.prog X.w X.K target J fp it tn) (st : tn 0 s.heap) (hf : ∀ b ∈ fp, FpOk X pins H b)
  (h : ∀ D, H D = none → LcW J D (capSt cp σ) H g tt te Q)
  (hRR : ∀ D C s' H' m, Inv X pins σ H' s' → FpOk X pins H' C → s'.heap.Ns C m → Q D H' → RR (.ref D) C (.ok .next) s') :
  wpAny (model X.prog X.w) X.A (newList []) (fun acc s3 => wpAny (model X.prog X.w) X.A (newFunctionEnv scope X.env.globals (cellsIn X.env scope.names []) [] X.env.qual none .none (some X.env)) (fun cenv s4 =>
   codeAny (model X.prog X.w) X.A (.compStart (.ListComp elt [⟨target, iter, ifs, 0⟩] scope pos) 0 (.ref it) acc { cenv with scope := relabel scope X.env }) (RR acc cenv.locals) s4) E s3) E s := by
 have hlt : ∀ b ∈ fp, b < s.heap.objs.size := fun b hb => by
  obtain ⟨o, e, _⟩ := T.obj _ _ st b hb
  exact Heap.lt_size e
 refine wpAny_newObj_type (wpAny_newFunctionEnv (noCell_mem hcell) (by intro y hy; simp at hy) (fun h1 hns1 hsb1 => ?_) hk)
 dsimp only at hns1 hsb1 ⊢
 have hD : H s.heap.objs.size = none := I.hok.fresh (Nat.le_refl _)
 have I3 : Inv X pins σ (upd H s.heap.objs.size (.lst [])) { s with heap := s.heap.push { cls := .type "list", dict := none, data := .seq ([] : List Value).toArray } } :=
  I.laid (t' := s.toks) (fun b u e => Heap.get?_push_of_some _ e) (Nat.le_refl _) ⟨Nat.zero_le _, [], 0, .nil, Heap.get?_push_size _ rfl⟩
 have hf3 : ∀ b ∈ fp, FpOk X pins (upd H s.heap.objs.size (.lst [])) b := fun b hb => ⟨by rw [upd_ne (Nat.ne_of_lt (hlt b hb))]; exact (hf b hb).1, (hf b hb).2⟩
 have hlt3 : ∀ b ∈ fp, b < (s.heap.push { cls := .type "list", dict := none, data := .seq ([] : List Value).toArray }).objs.size := fun b hb => by rw [Heap.size_push]; exact Nat.lt_succ_of_lt (hlt b hb)
 generalize hH2 : s.heap.push { cls := .type "list", dict := none, data := .seq ([] : List Value).toArray } = H2 at hns1 hsb1 I3 hlt3 ⊢
 generalize hs3 : ({ s with heap := H2 } : Shared) = s3 at I3
 have hs3h : s3.heap = H2 := by rw [← hs3]
 have ext1 : ∀ b o, s3.heap.get? b = some o → h1.get? b = some o := fun b o e => by
  rw [hs3h] at e
  exact hsb1.extBut b o (Nat.ne_of_lt (Heap.lt_size e)) (Heap.get?_push_of_some _ e)
 have J0 : Inv (cxBlock X N scope fp (upd H s.heap.objs.size (.lst [])) s3) [] (capSt cp σ) (upd H s.heap.objs.size (.lst [])) { s3 with heap := h1, toks := s.toks + ([] : List (Str × Value)).length } :=
  block_inv I3 hf3 (by rw [hs3h]; exact hlt3) hk hcell hfree hcap (by rw [hs3h]; exact hns1) ext1
 have st1 : tn 0 h1 := T.keep _ _ _ st fun b hb o e => ext1 b o (by rw [hs3h, ← hH2]; exact Heap.get?_push_of_some _ e)
 obtain ⟨W, ⟨m0, w0⟩, turn⟩ := h s.heap.objs.size hD
 have stat : ∀ {H' : Hp}, (∀ b ∈ fp, H' b = none) → ∀ b ∈ fp, FpOk (cxBlock X N scope fp (upd H s.heap.objs.size (.lst [])) s3) [] H' b := fun {H'} hn b hb =>
  ⟨hn b hb, (J0.ok.exf b hb).1, J0.ok.exfs b hb, .inl hb, (J0.ok.exf b hb).2, fun p hp => nomatch hp⟩
 have loop : codeAny (model X.prog X.w) X.A (.compLoop (.ListComp elt [⟨target, iter, ifs, 0⟩] scope pos) 0 (.ref it) (.ref s.heap.objs.size) (compEnvC scope (cellsIn X.env scope.names []) H2.objs.size X.env))
   (RR (.ref s.heap.objs.size) H2.objs.size) { s3 with heap := h1, toks := s.toks + ([] : List (Str × Value)).length } := by
  have eEnv : compEnvC scope (cellsIn X.env scope.names []) H2.objs.size X.env = (cxBlock X N scope fp (upd H s.heap.objs.size (.lst [])) s3).env := by
   rw [← hs3h]; rfl
  rw [eEnv]
  refine compLoop_any (fun n s' => ∃ i τ ys H', Inv (cxBlock X N scope fp (upd H s.heap.objs.size (.lst [])) s3) [] τ H' s' ∧ tn i s'.heap ∧ (∀ b ∈ fp, H' b = none) ∧ W i n τ ys H') ?_ m0 ⟨0, capSt cp σ, [], _, J0, st1, fun b hb => (hf3 b hb).1, w0⟩
  rintro n s4 ⟨i, τ, ys, H4, I4, st4, fr4, w4⟩
  obtain ⟨hD4, hh⟩ := turn i n τ ys H4 w4
  rcases hh with ⟨stop, qn⟩ | ⟨go, hlen, N1, N2, hN1, hN2, step⟩
  ·refine thn (T.done (cxBlock X N scope fp (upd H s.heap.objs.size (.lst [])) s3) rfl rfl rfl hc i [] s4 τ H4 _ I4 (stat fr4) st4 stop) fun r s5 hqP => ?_
   obtain ⟨hr, I5⟩ := hqP
   subst hr
   obtain ⟨m, hm, _⟩ := I5.loc
   have e5 : H2.objs.size = (cxBlock X N scope fp (upd H s.heap.objs.size (.lst [])) s3).env.locals := by rw [← eEnv]; rfl
   refine hRR _ _ s5 H4 m (block_after I3 hf3 I5) ?_ (by rw [e5]; exact hm) qn
   exact I3.fpOk (by rw [hs3h]; exact Nat.le_refl _) (by rw [e5]; exact I5.free)
  ·refine thn (T.item (cxBlock X N scope fp (upd H s.heap.objs.size (.lst [])) s3) rfl rfl rfl hc i [] s4 τ H4 _ I4 (stat fr4) st4 go) fun r s5 hqP => ?_
   obtain ⟨u, hr, h5⟩ := hqP
   subst hr
   refine thn h5 fun _ s6 hqP => ?_
   obtain ⟨x, H6, I6, r6, y6, st6, fr6⟩ := hqP
   have I6' := I6.pinned (stat fr6) (T.obj _ _ st6)
   refine thn (hg fp _ _ _ s6 τ H6 x u _ I6' r6 (step x H6 y6)) fun _ s7 hqP => ?_
   obtain ⟨σ7, H7, I7, q7⟩ := hqP
   refine thn (ht fp _ _ _ s7 σ7 H7 _ I7 q7) fun ok s8 hqP => ?_
   obtain ⟨H8, I8, q8⟩ := hqP
   have back : ∀ {σ' : St} {H' : Hp} {s' : Shared}, Inv (cxBlock X N scope fp (upd H s.heap.objs.size (.lst [])) s3) ([] ++ pinsAt fp s6.heap) σ' H' s' → Inv (cxBlock X N scope fp (upd H s.heap.objs.size (.lst [])) s3) [] σ' H' s' ∧ tn (i + 1) s'.heap ∧ ∀ b ∈ fp, H' b = none := fun {σ' H' s'} I' => by
    refine ⟨I'.unpinned, T.keep _ _ _ st6 fun b hb o e => (I'.pin (b, o) (List.mem_append_right _ (List.mem_append_right _ (mem_pinsAt hb e)))).1, fun b hb => ?_⟩
    obtain ⟨o, e, d⟩ := T.obj _ _ st6 b hb
    exact (I'.pin (b, o) (List.mem_append_right _ (List.mem_append_right _ (mem_pinsAt hb e)))).2.1
   cases ok with
   | false =>
    rw [if_neg Bool.false_ne_true] at q8 ⊢
    obtain ⟨m', hm, w8⟩ := hN2 _ _ q8
    obtain ⟨b1, b2, b3⟩ := back I8
    exact ⟨m', hm, i + 1, σ7, ys, H8, b1, b2, b3, w8⟩
   | true =>
    rw [if_pos rfl] at q8 ⊢
    refine thn (he fp _ _ _ s8 σ7 H8 _ I8 q8) fun y s9 hqP => ?_
    obtain ⟨v, H9, I9, r9, hD9, n9⟩ := hqP
    obtain ⟨m', hm, w9⟩ := hN1 _ _ _ n9
    refine thn (mt_append _ s9 σ7 H9 (.ref s.heap.objs.size) [v] (.ref s.heap.objs.size) [y] (fun _ H' => H' = upd H9 s.heap.objs.size (.lst (ys ++ [v]))) I9 rfl (.cons r9 .nil) ⟨_, ys, v, rfl, rfl, hD9, hlen, rfl⟩) fun _ s10 hqP => ?_
    obtain ⟨_, H10, I10, _, e10⟩ := hqP
    subst e10
    obtain ⟨b1, b2, b3⟩ := back I10
    exact ⟨m', hm, i + 1, σ7, _, _, b1, b2, b3, w9⟩
 have e3 : ({ s with heap := h1, toks := s.toks + ([] : List (Str × Value)).length } : Shared) = { s3 with heap := h1, toks := s.toks + ([] : List (Str × Value)).length } := by rw [← hs3]
 rw [e3]
 exact codeAny_compStart_list loop (T.self _ 0 _ _ _ st1 loop)
theorem pe_lc {elt iter target : Expr} {ifs : List Expr} {scope : Scope} {pos : Pos} (N : List Str) (cp : List (Option Nat)) {wi : TI} {g : TG} {tt : TT} {te : TE} (hc : X.calm = true) (hi : PI X target iter wi)
  (hg : ∀ fp H s, PG (cxBlock X N scope fp H s) target g) (ht : ∀ fp H s, PF (cxBlock X N scope fp H s) ifs tt) (he : ∀ fp H s, PE (cxBlock X N scope fp H s) elt te)
  (hk : autoParam (scope.kind = .function) L2.aRfl._auto_1) (hcell : autoParam ((scope.names.all fun p => p.2 != .cell) = true) L2.aRfl._auto_1) (hfree : autoParam (freeOk X.env.scope scope.names = true) L2.aRfl._auto_1) (hcap : autoParam (capOk X scope N cp = true) L2.aRfl._auto_1)
  (hnames : autoParam ((scope.names.all fun p => p.2 != .local || scope.names.lookup p.1 == some .local) = true) L2.aRfl._auto_1) (hs : autoParam (∀ x, foldedSetIterable iter X.env x = pure x) L2.aIrf._auto_1) :
  PE X (.ListComp elt [⟨target, iter, ifs, 0⟩] scope pos) (fun σ H Q => tLC cp wi g tt te σ H fun D H' => Q (.ref D) H') := by
 intro pins s σ H Q I h
 rw [eval_ListComp]
 have has : ∀ n, (n, NameKind.free) ∈ scope.names → ∃ c, X.env.cells.lookup n = some c := fun n hn => I.ok.has n (freeOk_mem hfree n hn)
 refine wpAny_comprehension_free (use := none) rfl hs (closureFor_cells has) hk (fun x hx hl => ?_) (thn (hi pins s σ H _ I h) fun xv s1 h1 => thn h1 fun itv s2 h2 => ?_)
 ·have := List.all_eq_true.mp hnames x hx
  simp only [Bool.or_eq_true, bne_iff_ne, beq_iff_eq] at this
  exact this.resolve_left fun z => z hl
 ·obtain ⟨it, fp, tn, J, H2, e, I2, T, st2, f2, hW⟩ := h2
  subst e
  refine lc_block (N := N) (cp := cp) hc hk hcell hfree hcap hg ht he I2 T st2 f2 hW fun D C s' H' m I' fC hm q => ⟨m, hm, fun h' hsb => ?_⟩
  exact ⟨.ref D, H', I'.turned (t' := s'.toks) (fun b o hb e => hsb.extBut b o hb e) fC.1 fC.2.1 fC.2.2.2.1 fC.2.2.2.2.1 fC.2.2.2.2.2, rfl, q⟩
theorem ps_setC {i : Nat} {x : Str} {px : Pos} {elt iter target : Expr} {ifs : List Expr} {scope : Scope} {pos spos : Pos} (N : List Str) (cp : List (Option Nat)) {wi : TI} {g : TG} {tt : TT} {te : TE} (hc : X.calm = true) (hN : X.N.Nodup) (hi' : X.N[i]? = some x) (hx : Loc X.env.scope x) (hi : PI X target iter wi)
  (hg : ∀ fp H s, PG (cxBlock X N scope fp H s) target g) (ht : ∀ fp H s, PF (cxBlock X N scope fp H s) ifs tt) (he : ∀ fp H s, PE (cxBlock X N scope fp H s) elt te)
  (hsw : autoParam (swapsWith (.ListComp elt [⟨target, iter, ifs, 0⟩] scope pos) (some (.Name x px)) spos.line X.env = pure true) L2.aRfl._auto_1)
  (hk : autoParam (scope.kind = .function) L2.aRfl._auto_1) (hcell : autoParam ((scope.names.all fun p => p.2 != .cell) = true) L2.aRfl._auto_1) (hfree : autoParam (freeOk X.env.scope scope.names = true) L2.aRfl._auto_1) (hcap : autoParam (capOk X scope N cp = true) L2.aRfl._auto_1)
  (hnames : autoParam ((scope.names.all fun p => p.2 != .local || scope.names.lookup p.1 == some .local) = true) L2.aRfl._auto_1) (hs : autoParam (∀ x, foldedSetIterable iter X.env x = pure x) L2.aIrf._auto_1)
  (hf : autoParam (X.fn x = true ∨ X.env.scope.names.lookup x = some .local) L2.aFst._auto_1) :
  PS X (.Assign [.Name x px] (.ListComp elt [⟨target, iter, ifs, 0⟩] scope pos) spos) (fun D σ H => tLC cp wi g tt te σ H fun a H' => D.nx (σ.set i (some (.ref a))) H') := by
 intro pins s σ H D I h
 have has : ∀ n, (n, NameKind.free) ∈ scope.names → ∃ c, X.env.cells.lookup n = some c := fun n hn => I.ok.has n (freeOk_mem hfree n hn)
 rw [exec_Assign_Name_used _ _ _ _ hsw]
 refine wpAny_bind (wpAny_standAt (wpAny_bind ?_))
 show wpAny _ _ (do let _ ← comprehension (.ListComp elt [⟨target, iter, ifs, 0⟩] scope pos) scope X.env _ (newList []) false (eval iter X.env) (some (assign (.Name x px) X.env))) _ _ s
 refine wpAny_bind (wpAny_mono (wpAny_comprehension_free (use := some (assign (.Name x px) X.env)) (Q := fun _ s' => SP X pins D .next s') rfl hs (closureFor_cells has) hk (fun x hx hl => ?_)
  (thn (hi pins s σ H _ I h) fun xv s1 h1 => thn h1 fun itv s2 h2 => ?_)) (fun _ s' hq => wpAny_pure (wpAny_pure hq)) fun _ _ e => e)
 ·have := List.all_eq_true.mp hnames x hx
  simp only [Bool.or_eq_true, bne_iff_ne, beq_iff_eq] at this
  exact this.resolve_left fun z => z hl
 ·obtain ⟨it, fp, tn, J, H2, e, I2, T, st2, f2, hW⟩ := h2
  subst e
  refine lc_block (N := N) (cp := cp) hc hk hcell hfree hcap hg ht he I2 T st2 f2 hW fun D' C s' H' m I' fC hm q => ?_
  show wpAny _ _ (assign (.Name x px) X.env (.ref D')) _ _ _
  refine wpAny_assign_Name (store_ok2 I' hN hi' hx (v := .ref D') rfl (fun s'' I'' hsb => ?_) hf)
  obtain ⟨a, hsb, ha⟩ := hsb
  have hCa : C ≠ a := by
   rcases ha with e | e
   ·rw [e]; exact fC.2.1
   ·exact fun z => fC.2.2.2.2.1 x a e z.symm
  refine ⟨m, hm.sameBut hsb hCa, fun h' hsb' => ?_⟩
  exact ⟨_, H', I''.turned (t' := s''.toks) (fun b o hb e => hsb'.extBut b o hb e) fC.1 fC.2.1 fC.2.2.2.1 fC.2.2.2.2.1 fC.2.2.2.2.2, q⟩
end
structure Drw (P : Program) (w : World) (it l : Addr) (st : Nat → Heap → Prop) (src : List Value → Heap → Prop) : Prop where
 obj : ∀ i h, st i h → ∃ o, h.get? it = some o ∧ ∀ v, o.data ≠ .cell v
 keep : ∀ i h h', st i h → (∀ o, h.get? it = some o → h'.get? it = some o) → st i h'
 srck : ∀ xs h h', src xs h → (∀ o, h.get? l = some o → h'.get? l = some o) → src xs h'
 item : ∀ (A : Around) (E : Value → Shared → Prop) (s : Shared) (i : Nat) (xs : List Value) (x : Value) (Q : Value → Shared → Prop), st i s.heap → src xs s.heap → xs[i]? = some x →
  (∀ h', st (i + 1) h' → Heap.SameBut it s.heap h' → Q x { s with heap := h' }) → wpAny (model P w) A (Builtin.SmallTypes.nextOf (.ref it)) Q E s
 done : ∀ (A : Around) (E : Value → Shared → Prop) (s : Shared) (i : Nat) (xs : List Value) (Q : Value → Shared → Prop), A.handled = none → st i s.heap → src xs s.heap → xs[i]? = none →
  (∀ h' e, Heap.ExtBut it s.heap h' → (∃ o, h'.get? e = some o ∧ o.cls = .type "StopIteration") → E (.ref e) { s with heap := h' }) → wpAny (model P w) A (Builtin.SmallTypes.nextOf (.ref it)) Q E s
theorem drw_list {P : Program} {w : World} (it l : Addr) : Drw P w it l (fun i h => h.IsListIter it l i) (fun xs h => h.IsList l xs.toArray) where
 obj := fun i h st => by
  obtain ⟨o, e, c, d⟩ := st
  exact ⟨o, e, fun v z => by rw [d] at z; cases z⟩
 keep := fun i h h' st k => st.at k
 srck := fun xs h h' sr k => sr.at k
 item := fun A E s i xs x Q st sr hx hQ => wpAny_nextOf_list_item st sr (by simpa using hx) hQ
 done := fun A E s i xs Q hh st sr hx hE => wpAny_nextOf_list_end hh st sr (by simpa using hx) hE
section
variable {P : Program} {w : World} {A : Around} {E : Value → Shared → Prop} {s : Shared}
theorem nextOf_tup_item {it t : Addr} {i : Nat} {xs : Array Value} {x : Value} {Q : Value → Shared → Prop} (hI : s.heap.IsTupleIter it t i) (hT : s.heap.IsTuple t xs) (hx : xs[i]? = some x)
  (hQ : ∀ h', h'.IsTupleIter it t (i + 1) → Heap.SameBut it s.heap h' → Q x { s with heap := h' }) : wpAny (model P w) A (Builtin.SmallTypes.nextOf (.ref it)) Q E s := by
 obtain ⟨oI, gI, cI, dI⟩ := id hI
 obtain ⟨oT, gT, _, nT, dT⟩ := hT
 unfold Builtin.SmallTypes.nextOf
 refine wpAny_bind (wpAny_callSpecial?_slot (name := Str.ofString "__next__") hI.typeIs F.slot_tuple_iterator_next (wpAny_call_entry F.slot_tuple_iterator_next hI.typeIs F.entry_tuple_iterator_next ?_ (F.args_tuple_iterator_next_1 _)))
 show wpAny _ _ (field (.ref it) 0 >>= _) _ _ s
 refine wpAny_bind (wpAny_field gI dI (x := .ref t) rfl ?_)
 show wpAny _ _ (if (Value.ref t == Value.none) = true then _ else _) _ _ s
 rw [if_neg (show ¬ ((Value.ref t == Value.none) = true) from Bool.false_ne_true)]
 show wpAny _ _ (field (.ref it) 1 >>= _) _ _ s
 refine wpAny_bind (wpAny_field gI dI (x := .int i 0) rfl ?_)
 show wpAny _ _ (seqItems? (.ref t) >>= _) _ _ s
 refine wpAny_bind (wpAny_seqItems gT dT ?_)
 simp only [Int.toNat_natCast, hx]
 refine wpAny_bind (wpAny_setField gI dI (by simp) (wpAny_pure ⟨x, rfl, wpAny_pure (hQ _ ?_ (Heap.SameBut.update ..))⟩))
 refine ⟨_, Heap.get?_update_self _ gI (Obj.isFreed_of_fields (Obj.data_mapFields dI _)), (Obj.cls_mapFields ..).trans cI, ?_⟩
 rw [Obj.data_mapFields dI]; simp [rawInt]
theorem nextOf_tup_end {it t : Addr} {i : Nat} {xs : Array Value} {Q : Value → Shared → Prop} (hh : A.handled = none) (hI : s.heap.IsTupleIter it t i) (hT : s.heap.IsTuple t xs) (hx : xs[i]? = none)
  (hE : ∀ h' e, Heap.ExtBut it s.heap h' → (∃ o, h'.get? e = some o ∧ o.cls = .type "StopIteration") → E (.ref e) { s with heap := h' }) : wpAny (model P w) A (Builtin.SmallTypes.nextOf (.ref it)) Q E s := by
 obtain ⟨oI, gI, cI, dI⟩ := id hI
 obtain ⟨oT, gT, _, nT, dT⟩ := hT
 unfold Builtin.SmallTypes.nextOf
 refine wpAny_bind (wpAny_callSpecial?_slot (name := Str.ofString "__next__") hI.typeIs F.slot_tuple_iterator_next (wpAny_call_entry F.slot_tuple_iterator_next hI.typeIs F.entry_tuple_iterator_next ?_ (F.args_tuple_iterator_next_1 _)))
 show wpAny _ _ (field (.ref it) 0 >>= _) _ _ s
 refine wpAny_bind (wpAny_field gI dI (x := .ref t) rfl ?_)
 show wpAny _ _ (if (Value.ref t == Value.none) = true then _ else _) _ _ s
 rw [if_neg (show ¬ ((Value.ref t == Value.none) = true) from Bool.false_ne_true)]
 show wpAny _ _ (field (.ref it) 1 >>= _) _ _ s
 refine wpAny_bind (wpAny_field gI dI (x := .int i 0) rfl ?_)
 show wpAny _ _ (seqItems? (.ref t) >>= _) _ _ s
 refine wpAny_bind (wpAny_seqItems gT dT ?_)
 simp only [Int.toNat_natCast, hx]
 refine wpAny_bind (wpAny_rule (wpAny_bind (wpAny_setField gI dI (by simp) ?_)))
 show wpAny _ _ (newExc (.type "StopIteration") [] >>= _) _ _ _
 refine wpAny_bind ?_
 simp only [newExc, newTuple]
 refine wpAny_bind (wpAny_newObj_type ?_ (by size_fits))
 refine wpAny_bind (m := firstArgMember _ _) (wpAny_of_eq (a := Value.none) (by first | rfl | (simp only [firstArgMember]; rfl)) ?_)
 refine wpAny_newObj_type ?_ (by size_fits)
 simp only [raiseNew]
 refine wpAny_bind (wpAny_handled ?_)
 first | rw [show A.in1.handled = none from hh] | rw [hh]
 exact wpAny_bind (wpAny_pure (wpAny_throw (hE _ _ (((Heap.SameBut.update ..).extBut.push _).push _) ⟨_, Heap.get?_push_size _ rfl, rfl⟩)))
end
theorem drw_tup {P : Program} {w : World} (it l : Addr) : Drw P w it l (fun i h => h.IsTupleIter it l i) (fun xs h => h.IsTuple l xs.toArray) where
 obj := fun i h st => by
  obtain ⟨o, e, c, d⟩ := st
  exact ⟨o, e, fun v z => by rw [d] at z; cases z⟩
 keep := fun i h h' st k => st.at k
 srck := fun xs h h' sr k => sr.at k
 item := fun A E s i xs x Q st sr hx hQ => nextOf_tup_item st sr (by simpa using hx) hQ
 done := fun A E s i xs Q hh st sr hx hE => nextOf_tup_end hh st sr (by simpa using hx) hE
section
variable {P : Program} {w : World} {A : Around} {E : Value → Shared → Prop} {s : Shared} {z u o i1 i2 l1 l2 : Addr} {st1 st2 : Nat → Heap → Prop} {src1 src2 : List Value → Heap → Prop} {k1 k2 : Nat} {xs ys : List Value} {a b : Value}
end
def itObj (n : String) (l : Addr) : Obj := { cls := .type n, data := .fields #[.ref l, .int 0 0] }
structure Itr0 (n : String) (l : Addr) (pr : Heap → Prop) : Prop where
 go : ∀ (P : Program) (w : World) (A : Around) (E : Value → Shared → Prop) (s : Shared) (Q : Value → Shared → Prop), pr s.heap → Q (.ref s.heap.objs.size) { s with heap := s.heap.push (itObj n l) } → wpAny (model P w) A (pyIter (.ref l)) Q E s
 push : ∀ h o, pr h → pr (h.push o)
theorem itr0_list (l : Addr) (xs : Array Value) : Itr0 "list_iterator" l (fun h => h.IsList l xs) := ⟨fun _ _ _ _ _ _ hl h => wpAny_pyIter_list hl h, fun _ _ hl => hl.push _⟩
theorem itr0_tup (l : Addr) (xs : Array Value) : Itr0 "tuple_iterator" l (fun h => h.IsTuple l xs) := ⟨fun _ _ _ _ _ _ hl h => wpAny_pyIter_tuple hl h, fun _ _ hl => hl.push _⟩
def Sq (K : Fg) (m : Bool) (H : Hp) (a : Addr) (xs : List V) : Prop := if m = true then SqL K H a xs else SqT K H a xs
def itN (m : Bool) : String := if m = true then "list_iterator" else "tuple_iterator"
def itSt (m : Bool) (it l : Addr) (i : Nat) (h : Heap) : Prop := if m = true then h.IsListIter it l i else h.IsTupleIter it l i
def itSrc (m : Bool) (l : Addr) (xs : List Value) (h : Heap) : Prop := if m = true then h.IsList l xs.toArray else h.IsTuple l xs.toArray
theorem drw_of {P : Program} {w : World} (m : Bool) (it l : Addr) : Drw P w it l (itSt m it l) (itSrc m l) := by
 cases m
 ·exact drw_tup it l
 ·exact drw_list it l
theorem itr0_of (m : Bool) (l : Addr) (xs : List Value) : Itr0 (itN m) l (itSrc m l xs) := by
 cases m
 ·exact itr0_tup l xs.toArray
 ·exact itr0_list l xs.toArray
theorem itSt_new (m : Bool) {h : Heap} {it l : Addr} (e : h.get? it = some (itObj (itN m) l)) : itSt m it l 0 h := by
 cases m
 ·exact ⟨_, e, rfl, rfl⟩
 ·exact ⟨_, e, rfl, rfl⟩
section
variable {X : Cx} {pins : List (Addr × Obj)} {σ : St} {H : Hp} {s : Shared}
theorem Inv.sq {m : Bool} {a : Addr} {xs : List V} (I : Inv X pins σ H s) (h : Sq X.K m H a xs) : ∃ its : List Value, Vals xs its ∧ itSrc m a its s.heap ∧ xs.length ≤ sizeLine := by
 cases m
 ·obtain ⟨its, rv, p, hz⟩ := I.tuple h
  exact ⟨its, rv, p, by first | exact hz | lia⟩
 ·obtain ⟨its, rv, p, hz⟩ := I.list h
  exact ⟨its, rv, p.isList, by first | exact hz | lia⟩
theorem Inv.sq_inj {m : Bool} {a : Addr} {xs ys : List V} (I : Inv X pins σ H s) (h : Sq X.K m H a xs) (h' : Sq X.K m H a ys) : xs = ys := by
 cases m
 ·exact I.tuple_inj h h'
 ·exact I.list_inj h h'
theorem Inv.tupNew {xs : List V} {its : List Value} {h' : Heap} {ch : List Addr} {T : Addr} (I : Inv X pins σ H s) (hT : s.heap.objs.size ≤ T) (r : Vals xs its) (hz : xs.length ≤ sizeLine) (e : h'.get? T = some { cls := .type "tuple", data := .seq its.toArray })
  (hf : ∀ b ∈ ch, FpOk X pins H b) (k : ∀ b o, b ∉ ch → s.heap.get? b = some o → h'.get? b = some o) (th : ∀ b ∈ ch, ∃ o, h'.get? b = some o) : Inv X pins σ (upd H T (.tup xs)) { s with heap := h' } := by
 have hn : H T = none := I.hok.fresh hT
 have tr : ∀ b o, H b = some o → b ∉ ch := fun b o e z => by rw [(hf b z).1] at e; cases e
 refine I.step (g' := s.gens) (t' := s.toks) (d' := s.drawn) (ch := ch) (fun b hb => ⟨(hf b hb).2.2.2.1, (hf b hb).2.1, (hf b hb).2.2.2.2.1, (hf b hb).2.2.2.2.2⟩) (fun b o _ _ hc q _ => k b o hc q) (fun b o _ _ hc q _ => ⟨o.slots, k b o hc q⟩) (fun b o _ q n => ?_) (fun b o hc q => ⟨o, k b o hc q⟩)
  (fun b xs q => ?_) (fun b o u q => ?_) (fun b ps q => ⟨#[], ?_⟩) (fun m hm => ?_) (fun b ob q => ?_) I.bare
 ·rw [upd_ne (Nat.ne_of_lt (Nat.lt_of_lt_of_le (Heap.lt_size q) hT))]; exact n
 ·rw [upd_ne (ne_of_none q hn)]; exact q
 ·rw [upd_ne (ne_of_none q hn)]; exact q
 ·rw [upd_ne (ne_of_none q hn), Array.append_empty]; exact q
 ·obtain ⟨o, es, ep, q, d, r⟩ := hm
  exact ⟨o, es, ep, k _ o (fun z => (hf _ z).2.1 rfl) q, d, r⟩
 ·by_cases hb : b = T
  ·subst hb
   rw [upd_same] at q; cases q
   exact ⟨hz, its, r, _, e, rfl, _, rfl⟩
  ·rw [upd_ne hb] at q
   refine (I.hok b ob q).stay (fun c v hc r => k c v ?_ r) (fun c r => by rw [upd_ne (ne_of_none r hn)]; exact r) fun c xs r => by rw [upd_ne (ne_of_none r hn)]; exact r
   rcases hc with rfl | hc
   ·exact tr _ _ q
   ·exact tr _ _ hc
end
section
variable {X : Cx}
theorem itSrc_lt {m : Bool} {a : Addr} {xs : List Value} {h : Heap} (e : itSrc m a xs h) : a < h.objs.size := by
 cases m
 ·obtain ⟨o, e, _⟩ := e; exact Heap.lt_size e
 ·obtain ⟨o, e, _⟩ := e; exact Heap.lt_size e
end
section
variable {X : Cx}
def isiV (K : Fg) (H : Hp) : V → String → Bool → Prop
 | .int _, T, b => (T = "int" ∧ b = true) ∨ (T = "bool" ∧ b = false) ∨ (T = "tuple" ∧ b = false)
 | .bl _, T, b => (T = "int" ∧ b = true) ∨ (T = "bool" ∧ b = true) ∨ (T = "tuple" ∧ b = false)
 | .ref a, T, b => (∃ xs, SqT K H a xs) ∧ ((T = "tuple" ∧ b = true) ∨ (T = "int" ∧ b = false) ∨ (T = "bool" ∧ b = false))
 | _, _, _ => False
inductive Ccall_isi (KX : Fg) (xs : List V) (H : Hp) (Q : VK) : Prop
 | mk (x : _) (T : _) (b : _) (h1 : xs = [x, .ty T]) (h2 : isiV KX H x T b) (h3 : Q (.bl b) H)
theorem call_isi : CallR X (.builtin "isinstance") (fun xs H Q => Ccall_isi X.K xs H Q) := by
 intro pins s σ H xs us Q I rv h
 obtain ⟨x, T, b, rfl, hi, q⟩ := h
 obtain ⟨u, v, rfl, ru, rT⟩ := rv.two
 cases rT
 have fin : ∀ (tk : Nat), EP X pins σ Q (.bool b) { s with toks := tk } := fun tk => ⟨.bl b, H, I.tok tk, rfl, q⟩
 cases x with
 | int n =>
  obtain ⟨t, rfl⟩ := ru
  rcases hi with ⟨rfl, rfl⟩ | ⟨rfl, rfl⟩ | ⟨rfl, rfl⟩
  ·exact IsiPair.int_int (fin s.toks)
  ·exact IsiPair.int_bool (fin _)
  ·exact IsiPair.int_tuple (fin _)
 | bl n =>
  cases ru
  rcases hi with ⟨rfl, rfl⟩ | ⟨rfl, rfl⟩ | ⟨rfl, rfl⟩
  ·exact IsiPair.bool_int (fin s.toks)
  ·exact IsiPair.bool_bool (fin s.toks)
  ·exact IsiPair.bool_tuple (fin _)
 | ref a =>
  cases ru
  obtain ⟨⟨xs, hq⟩, hi⟩ := hi
  obtain ⟨its, r, ⟨o, e, c, _⟩, _⟩ := I.tuple hq
  rcases hi with ⟨rfl, rfl⟩ | ⟨rfl, rfl⟩ | ⟨rfl, rfl⟩
  ·exact IsiPair.tuple_tuple e c (fin s.toks)
  ·exact IsiPair.tuple_int e c (fin _)
  ·exact IsiPair.tuple_bool e c (fin _)
 | non => exact hi.elim
 | str _ => exact hi.elim
 | byt _ => exact hi.elim
 | flt _ => exact hi.elim
 | ty _ => exact hi.elim
def CDivB (i j : Int) : Prop := 0 < j ∧ j.natAbs.log2 < 9000
theorem op_fdivB : OpR X (binaryOp .FloorDiv) (rI CDivB fun i j => .int (i / j)) := opI fun i j _ _ _ _ _ hc q => by
 refine floordiv_int (Int.ne_of_gt hc.1) ?_ (.inl (PyProof.noPylong_of_log2 hc.2))
 rw [Int.fdiv_eq_ediv_of_nonneg _ (Int.le_of_lt hc.1)]
 exact q
inductive Ccall_sumI (KX : Fg) (xs : List V) (H : Hp) (Q : VK) : Prop
 | mk (a : Addr) (ns : List Int) (h1 : xs = [.ref a]) (h2 : SqL KX H a (ns.map V.int)) (h3 : Q (.int ns.sum) H)
theorem call_sumI (hc : X.calm = true) : CallR X (.builtin "sum") (fun xs H Q => Ccall_sumI X.K xs H Q) := by
 intro pins s σ H xs us Q I rv h
 obtain ⟨a, ns, rfl, hq, q⟩ := h
 obtain ⟨u, rfl, ru⟩ := rv.one
 cases ru
 obtain ⟨its, r, p, hz⟩ := I.list hq
 have hi : IntsAre its.toArray.toList ns := intsAre_of r
 have hall : AllInts its.toArray := hi.allInts
 obtain ⟨xs, hx⟩ := hall.items
 have hl' : s.heap.IsList a (intItems xs) := hx ▸ p.isList
 refine sum_intListG (I.ok.hd hc) hl' fun h' tk t' hk => ?_
 have e1 : ns = xs.toList.map (·.1) := by
  rw [← nums_intItems, ← hx]
  exact (show numsOf its.toArray.toList = ns from hi.numsOf).symm
 have e2 : preSum (numAt xs) xs.size = ns.sum := by
  rw [preSum_eq, List.take_of_length_le (by simp), e1]
 rw [e2]
 exact ⟨.int ns.sum, H, I.kept hk, ⟨_, rfl⟩, q⟩
theorem boolsAt {bs : List Bool} {its : List Value} (r : Vals (bs.map V.bl) its) {i : Nat} {v : Value} (h : its[i]? = some v) : ∃ b, bs[i]? = some b ∧ v = .bool b := by
 have hl := r.length
 obtain ⟨hi, _⟩ := List.getElem?_eq_some_iff.mp h
 rw [List.length_map] at hl
 have hb : bs[i]? = some bs[i] := gE (by lia)
 obtain ⟨u, h1, h2⟩ := r.get (i := i) (x := .bl bs[i]) (by rw [List.getElem?_map, hb]; rfl)
 rw [h] at h1; cases h1
 exact ⟨_, hb, h2⟩
theorem rangeAny (bs : List Bool) : ((List.range bs.length).any fun i => (bs[i]?).getD false) = bs.any id := by
 rw [Bool.eq_iff_iff]
 simp only [List.any_eq_true, List.mem_range, id]
 constructor
 ·rintro ⟨i, hi, h⟩
  rw [gE hi] at h
  exact ⟨_, List.getElem_mem hi, h⟩
 ·rintro ⟨b, hb, h⟩
  obtain ⟨i, hi, e⟩ := List.getElem_of_mem hb
  exact ⟨i, hi, by rw [gE hi]; simpa [e] using h⟩
theorem keptNew {h h' : Heap} {o : Obj} (hk : ∀ b x, b ∉ [h.objs.size] → (h.push o).get? b = some x → h'.get? b = some x) : ∀ b x, h.get? b = some x → h'.get? b = some x := fun b x e =>
 hk b x (fun hm => by rw [List.mem_singleton.mp hm] at e; exact Nat.lt_irrefl _ (Heap.lt_size e)) (Heap.get?_push_of_some _ e)
inductive Ccall_anyB (KX : Fg) (xs : List V) (H : Hp) (Q : VK) : Prop
 | mk (a : Addr) (bs : List Bool) (h1 : xs = [.ref a]) (h2 : SqL KX H a (bs.map V.bl)) (h3 : Q (.bl (bs.any id)) H)
theorem call_anyB (hc : X.calm = true) : CallR X (.builtin "any") (fun xs H Q => Ccall_anyB X.K xs H Q) := by
 intro pins s σ H xs us Q I rv h
 obtain ⟨a, bs, rfl, hq, q⟩ := h
 obtain ⟨u, rfl, ru⟩ := rv.one
 cases ru
 obtain ⟨its, r, p, hz⟩ := I.list hq
 have hlt : a < s.heap.objs.size := by obtain ⟨_, e, _⟩ := p.isList; exact Heap.lt_size e
 have hl := r.length
 rw [List.length_map] at hl
 refine call_any_walk (wpAny_pyIter_list p.isList ?_)
 refine ⟨s.heap.objs.size, [s.heap.objs.size, a], [s.heap.objs.size], its.toArray.size, _, _, fun i => (bs[i]?).getD false, rfl, Walks.list (A := X.A.in1) (I.ok.hd hc) _ a (Nat.ne_of_lt hlt) its.toArray, ⟨⟨_, Heap.get?_push_size _ rfl, rfl, rfl⟩, p.isList.push _⟩, fun i v s' Q' E' hP hQ => ?_, fun h' tk hk => ?_⟩
 ·obtain ⟨b, e, rfl⟩ := boolsAt r (by simpa using hP)
  simp only [e, Option.getD_some] at hQ
  exact wpAny_truthy_bool hQ
 ·rw [List.size_toArray, ← hl, rangeAny]
  exact ⟨.bl (bs.any id), H, I.kept (keptNew hk), rfl, q⟩
end
section
variable {X : Cx} {pins : List (Addr × Obj)} {σ : St} {H : Hp} {s : Shared}
theorem ext_all {α : Type} {xs ys : List α} (hl : xs.length = ys.length) (h : ∀ (i : Nat) x y, xs[i]? = some x → ys[i]? = some y → x = y) : xs = ys := by
 refine List.ext_getElem? fun i => ?_
 by_cases hi : i < xs.length
 ·rw [gE hi, gE (by lia : i < ys.length)]
  exact congrArg some (h i _ _ (gE hi) (gE (by lia)))
 ·rw [List.getElem?_eq_none (by lia), List.getElem?_eq_none (by lia)]
theorem allRange {n : Nat} {e : Nat → Bool} : (List.range n).all e = true ↔ ∀ i, i < n → e i = true := by simp [List.all_eq_true]
open PySem.SeqAt Classical in
end
def Fn (K : Fg) (mg : Str → Option Value) (x : Str) (st : Stmt) : Prop := ∃ f fd, Fun K x x st f fd ∧ mg x = some (.ref f)
theorem fn_mk {K : Fg} {h : Heap} {mg : Str → Option Value} {x : Str} {st : Stmt} {f : Addr} {oc : Value} {od an : Option Addr} {osl : Array (Option Value)} {kV doc pm cdv ct : Value} (X : K.In h) (G : h.Ns mainGlobals mg)
  (a : PySem.W.nsIn K mainGlobals x = some (some (.ref f))) (l : K.lookup f = some ⟨oc, od, .func (PySem.W.fnOf x x (defArgs st) (defBody st) (defScope st) .none kV doc pm an cdv ct), osl⟩) (c : PySem.W.codeIn K cdv x = true) (k : PySem.W.keepIn K (.ref f) = true) : Fn K mg x st :=
 ⟨f, _, fun_mk l c k, PySem.W.mg_of X G a⟩
structure Cal (P : Program) (w : World) (K : Fg) (mg : Str → Option Value) (base : Heap) (k : Nat) (x : Str) (ps : List Str) (sp : Sp) : Prop where
 ex : ∃ f fd, FnOk P w K mg base CX0 k f fd ps sp ∧ mg x = some (.ref f) ∧ PySem.W.keepIn K (.ref f) = true ∧ Binds K fd ps []
theorem cal_of {P : Program} {w : World} {K : Fg} {mg : Str → Option Value} {base : Heap} {k : Nat} {x : Str} {st : Stmt} {N ps : List Str} {sp : Sp} (F : Fn K mg x st) (S : FnScope N ps (defScope st))
  (hb : ∀ (kV doc pm : Value) (an : Option Addr) (cdv ct : Value) (us : List Value), us.length = ps.length → bindArgs (PySem.W.fnOf x x (defArgs st) (defBody st) (defScope st) .none kV doc pm an cdv ct) ⟨us, []⟩ = pure (ps.zip us)) (len : ∀ vs H Q E, sp vs H Q E → vs.length = ps.length)
  (hbody : ∀ (f : Addr) (cdv : Value) (A : Around) (outer : List Env) (s : Shared) (H : Hp) (vs : List V) (Q : VK) (E : XK), Room k (A.deeper (envOfC x (defScope st) s.heap.objs.size f cdv)) → sp vs H Q E →
   ∃ t, PSs (cxOf CX0 P w K mg base N x (defScope st) f cdv A outer s H E).nox (defBody st) t ∧ t { nx := fun _ H' => Q .non H', rt := Q } (start N vs) H) : Cal P w K mg base (k + 1) x ps sp := by
 obtain ⟨f, fd, F, m⟩ := F
 exact ⟨f, fd, F.ok S len (hbody f), m, F.kp, F.binds hb⟩
section
variable {X : Cx}
theorem pe_fn {k : Nat} {x : Str} {ps : List Str} {sp : Sp} {e : Expr} {es : List Expr} {t : TA} {p pos : Pos} (C : Cal X.prog X.w X.K X.mg X.base k x ps sp) (hr : Room k X.A) (ha : PA X (e :: es) t) (hg : autoParam (Gl X x) L2.aRfl._auto_1)
  (hdb : autoParam ((x == ("__debug__" : Str)) = false) L2.aDec._auto_1) (he : autoParam (starEach (e :: es) X.env = (false, eval e X.env) :: starEach es X.env) L2.aRfl._auto_1) (hpl : autoParam ((backTo pos (starEach es X.env)).any (·.1) = false) L2.aRfl._auto_1) :
  PE X (.Call (.Name x p) (e :: es) [] pos) (tCall sp [] E0 t) := by
 obtain ⟨f, fd, F, m, kp, b⟩ := C.ex
 exact pe_call F hr hg m kp b .nil pass0 ha hdb he hpl
theorem pe_ty {x : Str} {T : String} {pos : Pos} (hm : X.mg x = none) (hv : bootBuiltins x = some (.type T)) (hg : autoParam (Gl X x) L2.aRfl._auto_1) (hn : autoParam (x ≠ "__name__") L2.aDec._auto_1) (hd : autoParam ((x == ("__debug__" : Str)) = false) L2.aDec._auto_1) : PE X (.Name x pos) (tC (.ty T)) :=
 pe_bltn hg hm hv (v := .ty T) rfl hn hd
end
def gPair (K : Fg) (i j : Nat) : TG := gTup K 2 (gCons (gName i) (gCons (gName j) gNil))
theorem pg_pair {X : Cx} {K : Fg} {i j : Nat} {x y : Str} {px py pos : Pos} {k : Nat} (hK : X.K = K) (hc : X.calm = true) (hN : X.N.Nodup) (hi : X.N[i]? = some x) (hj : X.N[j]? = some y) (hx : X.env.scope.names.lookup x = some .local) (hy : X.env.scope.names.lookup y = some .local) :
  PG X (.Tuple [.Name x px, .Name y py] k pos) (gPair K i j) := by
 subst hK
 exact pg_tup hc (pgs_cons (pg_name hN hi (.inl hx) (.inr hx)) (pgs_cons (pg_name hN hj (.inl hy) (.inr hy)) pgs_nil))
theorem bt_len : bootBuiltins "len" = some (.builtin "len") := by decide +kernel
theorem bt_sum : bootBuiltins "sum" = some (.builtin "sum") := by decide +kernel
theorem bt_any : bootBuiltins "any" = some (.builtin "any") := by decide +kernel
theorem bt_isinstance : bootBuiltins "isinstance" = some (.builtin "isinstance") := by decide +kernel
theorem bt_min : bootBuiltins "min" = some (.builtin "min") := by decide +kernel
theorem bt_max : bootBuiltins "max" = some (.builtin "max") := by decide +kernel
theorem bt_sorted : bootBuiltins "sorted" = some (.builtin "sorted") := by decide +kernel
theorem bt_int : bootBuiltins "int" = some (.type "int") := by decide +kernel
theorem bt_bool : bootBuiltins "bool" = some (.type "bool") := by decide +kernel
theorem bt_tuple : bootBuiltins "tuple" = some (.type "tuple") := by decide +kernel
theorem bt_list : bootBuiltins "list" = some (.type "list") := by decide +kernel
theorem bt_dict : bootBuiltins "dict" = some (.type "dict") := by decide +kernel
theorem bt_enumerate : bootBuiltins "enumerate" = some (.type "enumerate") := by decide +kernel
theorem bt_reversed : bootBuiltins "reversed" = some (.type "reversed") := by decide +kernel
theorem same_new' {H : Hp} {p : Addr} (h : H p = none) (o : HO) : Same H (upd H p o) := fun b u q => by rw [upd_ne (ne_of_none q h)]; exact q
theorem Same.tup {K : Fg} {H H' : Hp} {a : Addr} {xs : List V} (e : Same H H') (h : SqT K H a xs) : SqT K H' a xs := by
 rcases h with (h | ⟨o, h⟩) | h
 ·exact .inl (.inl (e _ _ h))
 ·exact .inl (.inr ⟨o, e _ _ h⟩)
 ·exact .inr h
theorem sqT_new {K : Fg} {H : Hp} {a : Addr} {xs : List V} (h : H a = some (.tup xs)) : SqT K H a xs := .inl (.inl h)
theorem sqL_new {K : Fg} {H : Hp} {a : Addr} {xs : List V} (h : H a = some (.lst xs)) : SqL K H a xs := .inl (.inl h)
theorem lc_any {J : It} {n : Nat} {τ0 : St} {g : TG} {tt : TT} {te : TE} {H : Hp} {Q : Addr → Hp → Prop} {D : Addr} (Pv : Nat → St → List V → Hp → Prop)
  (h0 : Pv 0 τ0 [] (upd H D (.lst []))) (hD : ∀ i τ ys H, i ≤ n → Pv i τ ys H → H D = some (.lst ys) ∧ ys.length < sizeLine) (go : ∀ i τ ys H, i < n → Pv i τ ys H → J.go i H) (stop : ∀ τ ys H, Pv n τ ys H → J.stop n H)
  (hs : ∀ i τ ys H x H', i < n → Pv i τ ys H → J.yld i H x H' → g x τ H' fun σ2 H2 => tt σ2 H2 fun ok H3 => if ok = true then te σ2 H3 fun v H4 => H4 D = some (.lst ys) ∧ Pv (i + 1) σ2 (ys ++ [v]) (upd H4 D (.lst (ys ++ [v]))) else Pv (i + 1) σ2 ys H3)
  (hd : ∀ τ ys H, Pv n τ ys H → Q D H) :
  LcW J D τ0 H g tt te Q := by
 refine ⟨fun i m τ ys H => m = n - i ∧ i ≤ n ∧ Pv i τ ys H, ⟨n, by simp, Nat.zero_le _, h0⟩, ?_⟩
 rintro i m τ ys H ⟨rfl, hi, p⟩
 obtain ⟨z1, z2⟩ := hD i τ ys H hi p
 refine ⟨z1, ?_⟩
 by_cases hlt : i < n
 ·refine .inr ⟨go i τ ys H hlt p, z2, fun τ v H => Pv (i + 1) τ (ys ++ [v]) (upd H D (.lst (ys ++ [v]))), fun τ H => Pv (i + 1) τ ys H, fun τ v H q => ⟨n - (i + 1), by lia, rfl, hlt, q⟩, fun τ H q => ⟨n - (i + 1), by lia, rfl, hlt, q⟩, fun x H' y => hs i τ ys H x H' hlt p y⟩
 ·have e : i = n := by lia
  subst e
  exact .inl ⟨stop τ ys H p, hd τ ys H p⟩
section
variable {X : Cx}
theorem pe_range {e : Expr} {ta : TA} {p pos : Pos} (hm : X.mg "range" = none) (ha : PA X [e] ta) (hg : autoParam (Gl X "range") L2.aRfl._auto_1) (hs : autoParam (starEach [e] X.env = [(false, eval e X.env)]) L2.aRfl._auto_1) :
  PE X (.Call (.Name "range" p) [e] [] pos) (fun σ H Q => ta σ H fun vs H1 => ∃ n : Int, vs = [.int n] ∧ ∀ r, H1 r = none → Q (.ref r) (upd H1 r (.rng 0 n))) := by
 intro pins s σ H Q I h
 refine Call_ (ld_blt I hg hm boot_range (PyProof.Rows.callWith_type1 (thn (ha pos pins s σ H _ I h) fun us s1 hqP => ?_) hs rfl))
 obtain ⟨vs, H1, I1, r1, q1⟩ := hqP
 obtain ⟨n, e, q⟩ := q1
 subst e
 obtain ⟨u, rfl, t, rfl⟩ := r1.one
 refine call_range_1 ⟨.ref s1.heap.objs.size, upd H1 s1.heap.objs.size (.rng 0 n), I1.laid (fun b u e => Heap.get?_push_of_some _ e) (Nat.le_refl _) ⟨_, _, _, Heap.get?_push_size _ rfl⟩, rfl, q _ (I1.hok.fresh (Nat.le_refl _))⟩
theorem ix_listK {K : Fg} (hK : X.K = K) : IxR X (rIxL K) := by subst hK; exact ix_list
theorem ix_tupK {K : Fg} (hK : X.K = K) : IxR X (rIxT K) := by subst hK; exact ix_tup
theorem call_len_seqK {K : Fg} (hK : X.K = K) : CallR X (.builtin "len") (fun xs H Q => Ccall_len_seq K xs H Q) := by subst hK; exact call_len_seq
theorem call_list_ofK {K : Fg} (hK : X.K = K) : CallR X (.type "list") (fun xs H Q => Ccall_list_of K xs H Q) := by subst hK; exact call_list_of
theorem call_tuple_ofK {K : Fg} (hK : X.K = K) : CallR X (.type "tuple") (fun xs H Q => Ccall_tuple_of K xs H Q) := by subst hK; exact call_tuple_of
theorem op_notIn_seqK {K : Fg} (hK : X.K = K) : OpR X (compareOp .NotIn) (rIn K true) := by subst hK; exact op_notIn_seq
end
end L2
namespace Nb
open PySem L2
structure Mg (mg : Str → Option Value) : Prop where
 len : mg "len" = none
 min : mg "min" = none
 max : mg "max" = none
 sum : mg "sum" = none
 all : mg "all" = none
 any : mg "any" = none
 abs : mg "abs" = none
 isinstance : mg "isinstance" = none
 sorted : mg "sorted" = none
 range_ : mg "range" = none
 zip_ : mg "zip" = none
 tuple_ : mg "tuple" = none
 list_ : mg "list" = none
 int_ : mg "int" = none
 bool_ : mg "bool" = none
 dict_ : mg "dict" = none
 enumerate_ : mg "enumerate" = none
 reversed_ : mg "reversed" = none
 ValueError_ : mg "ValueError" = none
 set_ : mg "set" = none
 str_ : mg "str" = none
theorem atNs {ns : List Int} {k : Int} (h0 : 0 ≤ k) (h : k < (((ns.map V.int).length : Nat) : Int)) : ∃ v : Int, atI (ns.map V.int) k = some (.int v) := by
 have hk : k.toNat < ns.length := by rw [List.length_map] at h; lia
 have ek : k = ((k.toNat : Nat) : Int) := by lia
 have q : atI (ns.map V.int) ((k.toNat : Nat) : Int) = some (.int ns[k.toNat]) := atI_nat (by rw [List.getElem?_map, gE hk] <;> rfl)
 rw [← ek] at q
 exact ⟨_, q⟩
inductive IspWhole (vs : List V) (H : Hp) (Q : VK) : Prop
 | mk (z : Int) (h1 : vs = [.int z]) (h2 : Q (.bl true) H)
def spWhole  : Sp := fun vs H Q _ => IspWhole vs H Q
inductive IspBlock (K : Fg) (vs : List V) (H : Hp) (Q : VK) : Prop
 | mk (a : Addr) (ns : List Int) (k : Int) (h1 : vs = [.ref a, .int k]) (h2 : SqL K H a (ns.map V.int)) (h3 : 0 ≤ k) (h4 : ∀ z : Int, Q (.int z) H)
def spBlock (K : Fg) : Sp := fun vs H Q _ => IspBlock K vs H Q
inductive IspMixed (K : Fg) (vs : List V) (H : Hp) (Q : VK) : Prop
 | mk (a : Addr) (ns : List Int) (k : Int) (h1 : vs = [.ref a, .int k]) (h2 : SqL K H a (ns.map V.int)) (h3 : 0 ≤ k) (h4 : k ≤ 1000000) (h5 : ∀ z : Int, 0 ≤ z → z < 2147483629 → Q (.int z) H)
def spMixed (K : Fg) : Sp := fun vs H Q _ => IspMixed K vs H Q
theorem mulA (c k : Int) (h0 : 0 ≤ k) (h1 : k ≤ 1000000) (y : Int) : CMul (c % (10 : Int) ^ (18 : Int).toNat + 48271 * (k + 1)) y := by
 have e : (10 : Int) ^ (18 : Int).toNat = 1000000000000000000 := by decide +kernel
 rw [e]
 have a1 := Int.emod_nonneg c (show (1000000000000000000 : Int) ≠ 0 by decide)
 have a2 := Int.emod_lt_of_pos c (show (0 : Int) < 1000000000000000000 by decide)
 exact .inl ⟨by lia, by lia⟩
theorem mulB (x k : Int) (h0 : 0 ≤ k) (h1 : k ≤ 1000000) (y : Int) : CMul (x % 2147483629 + 69621 * k) y := .inl ⟨by lia, by lia⟩
theorem mulC (c y : Int) (h1 : -(2 ^ 64) < c) (h2 : c < 2 ^ 64) : CMul c y := .inl ⟨h1, h2⟩
theorem SqT_upd {K : Fg} {H : Hp} {D a : Addr} {ys zs xs : List V} (hD : H D = some (.lst ys)) (h : SqT K H a xs) : SqT K (upd H D (.lst zs)) a xs := by
 rcases h with (h | ⟨o, h⟩) | h
 ·exact .inl (.inl (by rw [upd_ne (ne_of h hD (by intro z; cases z))]; exact h))
 ·exact .inl (.inr ⟨o, by rw [upd_ne (ne_of h hD (by intro z; cases z))]; exact h⟩)
 ·exact .inr h
theorem at0 {x y : V} : atI [x, y] 0 = some x := by rfl
theorem at1 {x y : V} : atI [x, y] 1 = some y := by rfl
theorem takeS {α : Type} {l : List α} {i : Nat} {x : α} (h : l[i]? = some x) : l.take (i + 1) = l.take i ++ [x] := by rw [List.take_succ, h]; rfl
theorem atNat {α : Type} {xs : List α} {k : Nat} {x : α} (h : xs[k]? = some x) : atI xs (k : Int) = some x := atI_nat h
inductive IspLaw (K : Fg) (vs : List V) (H : Hp) (Q : VK) : Prop
 | mk (a : Addr) (ns : List Int) (h1 : vs = [.ref a]) (h2 : SqL K H a (ns.map V.int)) (h3 : ns.length ≤ 63) (h4 : ∀ H', Q (.bl true) H')
def spLaw (K : Fg) : Sp := fun vs H Q _ => IspLaw K vs H Q
end Nb
namespace L2
open PySem PySem.Spec PyProof.Rows
section
variable (P : Program) (w : World)
end
section
variable {P : Program} {w : World} {H H' : Hp} {h h' : Heap} {a : Addr} {o : HO}
end
section
variable {P : Program} {w : World} {H : Hp} {h h' : Heap} {x e : Addr} {o' : HO}
end
section
variable {fs fs' ex ex' : List Addr} {H H1 H2 : Hp} {h h1 h2 h' : Heap} {a x e : Addr} {o : HO}
end
section
variable {X : Cx} {pins : List (Addr × Obj)} {σ : List (Option V)} {H H' : Hp} {s : Shared} {h' : Heap}
end
section
variable {X : Cx}
variable {a b : Expr} {ta tb : TE} {pos : Pos}
variable {tA tB' : TT} {rest : List Expr}
end
section
variable {X : Cx} {pins : List (Addr × Obj)} {σ : St} {H : Hp} {s : Shared} {a : Addr} {xs ys : List V}
end
section
variable {X : Cx} {pins : List (Addr × Obj)} {σ : St} {H : Hp} {s : Shared} {E : Value → Shared → Prop}
end
section
variable {X : Cx} {st : Stmt} {rest : List Stmt} {t u : TS} {e : Expr} {te : TE} {pos : Pos}
end
section
variable {X : Cx} {pos : Pos}
end
section
variable {X : Cx} {pos : Pos}
end
section
variable {X : Cx} {tg : Expr}
end
section
variable {X : Cx} {a b c : Expr} {ta tb tc : TE} {pos : Pos}
end
section
variable {X : Cx} {a b c : Expr} {ta tb tc : TE} {pos : Pos}
end
section
variable {prog : Program} {w : World} {A : Around} {E : Value → Shared → Prop} {s : Shared} {K : Fg} {x dx C f : Addr} {mA : Str → Option Value} {name : Str} {v : Value}
end
section
variable {P : Program} {w : World} {H H' : Hp} {h h' : Heap} {a C dx : Addr} {fs fs' : List (Str × V)}
end
section
variable {X : Cx} {pins : List (Addr × Obj)} {σ : St} {H : Hp} {s : Shared} {a C dx : Addr} {fs : List (Str × V)} {f : Str} {v : V} {A : Around} {E : Value → Shared → Prop}
end
section
variable {X : Cx} {o e value : Expr} {f : Str} {pos pos' tpos : Pos} {ta tv : TE}
end
section
variable {X : Cx} {pins : List (Addr × Obj)} {σ : St} {H : Hp} {s : Shared} {A : Around} {E : Value → Shared → Prop} {Q : Value → Shared → Prop} {c : Value} {b : Bool}
end
section
variable {X : Cx} {e : Expr} {es : List Expr} {te : TE} {t : TA} {pos : Pos}
end
section
variable {X : Cx} {pins : List (Addr × Obj)} {σ : St} {H : Hp} {s s' : Shared}
end
section
variable {X : Cx} {CX : CXT} {k : Nat} {f C : Addr} {fd : FuncData} {ps : List Str} {sp : Sp} {dvs : List V} {ds : List Value} {E : XK} {x m : Str} {p pos apos : Pos} {e o : Expr} {es : List Expr} {ta : TE} {t : TA}
end
section
variable {X : Cx} {CX : CXT} {k : Nat} {f C : Addr} {fd : FuncData} {ps ks : List Str} {sp : Sp} {E : XK} {x m : Str} {p pos apos kpos : Pos} {e o : Expr} {es : List Expr} {kws : List Keyword} {te ta : TE} {t tk : TA} {nm : Option Str}
variable {g : List Value → List Value → List Value} {gV : List V → List V → List V}
end
section
variable {X : Cx} {x : Str} {p pos : Pos} {e : Expr} {es : List Expr} {t : TA} {id T : String} {r : List V → Hp → VK → Prop}
end
section
variable {κ : Type} [DecidableEq κ]
def valV (kvs : List (κ × V)) (k : κ) : Option V := (kvs.find? fun kv => decide (kv.1 = k)).map (·.2)
def putK (kvs : List (κ × V)) (k : κ) (v : V) : List (κ × V) :=
 if (kvs.any fun kv => decide (kv.1 = k)) = true then kvs.map (fun kv => if kv.1 = k then (kv.1, v) else kv) else kvs ++ [(k, v)]
theorem valV_pos {p : κ × V} {r : List (κ × V)} {k : κ} (e : p.1 = k) : valV (p :: r) k = some p.2 := by simp [valV, List.find?_cons, e]
theorem valV_neg {p : κ × V} {r : List (κ × V)} {k : κ} (e : ¬ p.1 = k) : valV (p :: r) k = valV r k := by simp [valV, List.find?_cons, e]
theorem valV_any (k : κ) : ∀ kvs : List (κ × V), (kvs.any fun kv => decide (kv.1 = k)) = (valV kvs k).isSome
 | [] => rfl
 | p :: r => by
  rw [List.any_cons]
  by_cases e : p.1 = k
  ·simp only [valV_pos e, decide_eq_true e, Bool.true_or, Option.isSome_some]
  ·rw [valV_neg e, decide_eq_false e, Bool.false_or]; exact valV_any k r
theorem valV_map (k j : κ) (y : V) : ∀ kvs : List (κ × V), valV (kvs.map fun kv => if kv.1 = k then (kv.1, y) else kv) j = (valV kvs j).map fun x => if j = k then y else x
 | [] => rfl
 | p :: r => by
  have ih := valV_map k j y r
  rw [List.map_cons]
  by_cases h : p.1 = k
  ·rw [if_pos h]
   by_cases e : p.1 = j
   ·rw [valV_pos (p := (p.1, y)) e, valV_pos e, Option.map_some, if_pos (e.symm.trans h)]
   ·rw [valV_neg (p := (p.1, y)) e, valV_neg e, ih]
  ·rw [if_neg h]
   by_cases e : p.1 = j
   ·rw [valV_pos (p := p) e, valV_pos e, Option.map_some, if_neg (fun z => h (e.trans z))]
   ·rw [valV_neg (p := p) e, valV_neg e, ih]
theorem valV_snoc (k j : κ) (y : V) : ∀ kvs : List (κ × V), valV kvs k = none → valV (kvs ++ [(k, y)]) j = if j = k then some y else valV kvs j
 | [], _ => by
  by_cases e : k = j
  ·rw [if_pos e.symm]; exact valV_pos (p := (k, y)) e
  ·rw [if_neg (fun z => e z.symm)]; exact valV_neg (p := (k, y)) e
 | p :: r, hn => by
  rw [List.cons_append]
  have hk : ¬ p.1 = k := fun z => by rw [valV_pos z] at hn; cases hn
  rw [valV_neg hk] at hn
  have ih := valV_snoc k j y r hn
  by_cases e : p.1 = j
  ·rw [valV_pos e, valV_pos e, if_neg (fun z => hk (e.trans z))]
  ·rw [valV_neg e, valV_neg e, ih]
theorem valV_put (kvs : List (κ × V)) (k j : κ) (y : V) : valV (putK kvs k y) j = if j = k then some y else valV kvs j := by
 unfold putK
 by_cases a : (kvs.any fun kv => decide (kv.1 = k)) = true
 ·rw [if_pos a, valV_map]
  rw [valV_any] at a
  by_cases e : j = k
  ·obtain ⟨x, hx⟩ := Option.isSome_iff_exists.mp a
   rw [if_pos e, e, hx, Option.map_some, if_pos rfl]
  ·rw [if_neg e]
   cases valV kvs j with
   | none => rfl
   | some x => rw [Option.map_some, if_neg e]
 ·rw [if_neg a]
  refine valV_snoc k j y kvs ?_
  rw [valV_any] at a
  cases q : valV kvs k with
  | none => rfl
  | some x => rw [q] at a; exact (a rfl).elim
theorem length_putK (kvs : List (κ × V)) (k : κ) (v : V) : (putK kvs k v).length ≤ kvs.length + 1 := by
 unfold putK
 split
 ·rw [List.length_map]; lia
 ·rw [List.length_append, List.length_cons, List.length_nil]; lia
theorem putK_new {kvs : List (κ × V)} {k : κ} (v : V) (h : valV kvs k = none) : putK kvs k v = kvs ++ [(k, v)] := by
 unfold putK
 rw [valV_any, h]
 exact if_neg (by decide)
theorem RelO.isSome_eq {o : Option V} {u : Option Value} (r : RelO o u) : o.isSome = u.isSome := by
 cases o with
 | none => cases u with
  | none => rfl
  | some _ => exact (show False from r).elim
 | some _ => cases u with
  | none => exact (show False from r).elim
  | some _ => rfl
theorem RelO.getD {o : Option V} {u : Option Value} {d : V} {d' : Value} (r : RelO o u) (rd : RelV d d') : RelV (o.getD d) (u.getD d') := by
 cases o with
 | none => cases u with
  | none => exact rd
  | some _ => exact (show False from r).elim
 | some _ => cases u with
  | none => exact (show False from r).elim
  | some _ => exact r
theorem KV.val {kvs : List (κ × V)} {vs : List (κ × Value)} (r : KV kvs vs) (k : κ) : RelO (valV kvs k) (valueAt vs k) := by
 unfold KV at r
 induction r with
 | nil => exact True.intro
 | @cons p q ps qs h t ih =>
  obtain ⟨h1, h2⟩ := h
  by_cases e : p.1 = k
  ·have e' : q.1 = k := h1.symm.trans e
   have b : valueAt (q :: qs) k = some q.2 := by simp [valueAt, List.find?_cons, e']
   rw [valV_pos e, b]; exact h2
  ·have e' : ¬ q.1 = k := fun z => e (h1.trans z)
   have b : valueAt (q :: qs) k = valueAt qs k := by simp [valueAt, List.find?_cons, e']
   rw [valV_neg e, b]; exact ih
theorem KV.any {kvs : List (κ × V)} {vs : List (κ × Value)} (r : KV kvs vs) (k : κ) : (kvs.any fun kv => decide (kv.1 = k)) = vs.any fun kv => decide (kv.1 = k) := by
 unfold KV at r
 induction r with
 | nil => rfl
 | cons h t ih => rw [List.any_cons, List.any_cons, ih, h.1]
theorem KV.repl {kvs : List (κ × V)} {vs : List (κ × Value)} (r : KV kvs vs) (k : κ) {y : V} {u : Value} (ry : RelV y u) :
  KV (kvs.map fun kv => if kv.1 = k then (kv.1, y) else kv) (vs.map fun kv => if kv.1 = k then (kv.1, u) else kv) := by
 unfold KV at r ⊢
 induction r with
 | nil => exact .nil
 | @cons p q ps qs h t ih =>
  rw [List.map_cons, List.map_cons]
  refine .cons ?_ ih
  obtain ⟨h1, h2⟩ := h
  by_cases e : p.1 = k
  ·rw [if_pos e, if_pos (h1.symm.trans e)]; exact ⟨h1, ry⟩
  ·rw [if_neg e, if_neg (fun z => e (h1.trans z))]; exact ⟨h1, h2⟩
theorem KV.put {kvs : List (κ × V)} {vs : List (κ × Value)} (r : KV kvs vs) (k : κ) {y : V} {u : Value} (ry : RelV y u) : KV (putK kvs k y) (stored vs k u) := by
 unfold putK stored
 rw [r.any k]
 by_cases e : (vs.any fun kv => decide (kv.1 = k)) = true
 ·rw [if_pos e, if_pos e]; exact r.repl k ry
 ·rw [if_neg e, if_neg e]; exact Paired.snoc r ⟨rfl, ry⟩
theorem KV.length {kvs : List (κ × V)} {vs : List (κ × Value)} (r : KV kvs vs) : kvs.length = vs.length := Paired.length r
end
theorem kV_is {P : Program} {w : World} {k : Key} {u : Value} (r : RelV (kV k) u) : (mixKind P w).is k u = true := by
 cases k with
 | inl i => obtain ⟨t, e⟩ := (show ∃ t, u = Value.int i t from r); subst e; exact mixKind_int P w i t
 | inr x => obtain ⟨t, e⟩ := (show ∃ t, u = Value.str x t from r); subst e; exact mixKind_str P w x t
theorem items_are {P : Program} {w : World} : ∀ {ks : List Key} {us : List Value}, Vals (ks.map kV) us → ItemsAre (mixKind P w) ks us
 | [], _, r => by rw [List.map_nil] at r; cases r; exact .nil
 | k :: ks, _, r => by
  rw [List.map_cons] at r
  cases r with
  | cons h t => exact .cons (kV_is h) (items_are t)
abbrev KT (H : Hp) : List (List Key × V) → List (List Key × Addr × Value) → Prop := Paired fun p q => p.1 = q.1 ∧ H q.2.1 = some (.tup (p.1.map kV)) ∧ RelV p.2 q.2.2
theorem KT.val {H : Hp} {kvs : List (List Key × V)} {xs : List (List Key × Addr × Value)} (r : KT H kvs xs) (k : List Key) : RelO (valV kvs k) ((atKey xs k).map (·.2)) := by
 induction r with
 | nil => exact True.intro
 | @cons p q ps qs h t ih =>
  obtain ⟨h1, _, h2⟩ := h
  by_cases e : p.1 = k
  ·have e' : q.1 = k := h1.symm.trans e
   have b : atKey (q :: qs) k = some q.2 := by simp [atKey, List.find?_cons, e']
   rw [valV_pos e, b]; exact h2
  ·have e' : ¬ q.1 = k := fun z => e (h1.trans z)
   have b : atKey (q :: qs) k = atKey qs k := by simp [atKey, List.find?_cons, e']
   rw [valV_neg e, b]; exact ih
theorem KT.repl {H : Hp} {kvs : List (List Key × V)} {xs : List (List Key × Addr × Value)} (r : KT H kvs xs) (k : List Key) {y : V} {u : Value} (ry : RelV y u) :
  KT H (kvs.map fun kv => if kv.1 = k then (kv.1, y) else kv) (xs.map (putAt k u)) := by
 induction r with
 | nil => exact .nil
 | @cons p q ps qs h t ih =>
  rw [List.map_cons, List.map_cons]
  refine .cons ?_ ih
  obtain ⟨h1, h2, h3⟩ := h
  unfold putAt
  by_cases e : p.1 = k
  ·rw [if_pos e, if_pos (h1.symm.trans e)]; exact ⟨h1, h2, ry⟩
  ·rw [if_neg e, if_neg (fun z => e (h1.trans z))]; exact ⟨h1, h2, h3⟩
theorem KT.put {H : Hp} {kvs : List (List Key × V)} {xs : List (List Key × Addr × Value)} (r : KT H kvs xs) (k : List Key) {b : Addr} {y : V} {u : Value} (hb : H b = some (.tup (k.map kV))) (ry : RelV y u) :
  KT H (putK kvs k y) (storedH xs k b u) := by
 have e : (kvs.any fun kv => decide (kv.1 = k)) = (atKey xs k).isSome := by
  rw [valV_any, (r.val k).isSome_eq, Option.isSome_map]
 unfold putK storedH
 rw [e]
 by_cases q : (atKey xs k).isSome = true
 ·rw [if_pos q, if_pos q]; exact r.repl k ry
 ·rw [if_neg q, if_neg q]; exact Paired.snoc r ⟨rfl, hb, ry⟩
theorem KT.keeps {H H' : Hp} {kvs : List (List Key × V)} {xs : List (List Key × Addr × Value)} (r : KT H kvs xs) (ht : ∀ b ys, H b = some (.tup ys) → H' b = some (.tup ys)) : KT H' kvs xs :=
 Paired.mapP r fun _ _ z => ⟨z.1, ht _ _ z.2.1, z.2.2⟩
section
variable {P : Program} {w : World} {H : Hp} {h : Heap} {a : Addr}
theorem rd_of {u : HO} (ok : HOk P w H h) (e : Rd H a u) : ObjOk P w H h a u := e.ok ok
theorem dk_rd {kvs : List (Key × V)} (ok : HOk P w H h) (e : Rd H a (.dK kvs)) : kvs.length ≤ sizeLine ∧ (a == sysModules) = false ∧ ∃ vs, KV kvs vs ∧ h.DictOf (mixKind P w) a vs :=
 show ObjOk P w H h a (.dK kvs) from rd_of ok e
theorem dk_of {kvs : List (Key × V)} (ok : HOk P w H h) (e : H a = some (.dK kvs)) : kvs.length ≤ sizeLine ∧ (a == sysModules) = false ∧ ∃ vs, KV kvs vs ∧ h.DictOf (mixKind P w) a vs := dk_rd ok (.inl e)
theorem key_of {ks : List Key} (ok : HOk P w H h) (e : H a = some (.tup (ks.map kV))) : (tupleKind (mixKind P w)).is h ks a := by
 obtain ⟨_, its, r, o, h1, h2, n, h3⟩ := (show ObjOk P w H h a (.tup (ks.map kV)) from ok a _ e)
 exact ⟨o, its.toArray, n, h1, h2, h3, by simpa using items_are r⟩
theorem dt_rd {kvs : List (List Key × V)} (ok : HOk P w H h) (e : Rd H a (.dT kvs)) : kvs.length ≤ sizeLine ∧ (a == sysModules) = false ∧
  ∃ xs, KT H kvs xs ∧ h.DictOfH (tupleKind (mixKind P w)) a xs := by
 obtain ⟨z, y, xs, r, o, es, ep, h1, h2, h3, h4, h5⟩ := (show ObjOk P w H h a (.dT kvs) from rd_of ok e)
 refine ⟨z, y, xs, r, o, es, ep, h1, h2, h3, h4, fun x hx => ?_, h5⟩
 have all : ∀ {l : List (List Key × V)} {m : List (List Key × Addr × Value)}, KT H l m → ∀ x ∈ m, (tupleKind (mixKind P w)).is h x.1 x.2.1 := by
  intro l m q
  induction q with
  | nil => intro x hx; exact nomatch hx
  | @cons p q ps qs hq t ih =>
   intro x hx
   rcases List.mem_cons.mp hx with e | hx
   ·subst e
    exact key_of ok (by rw [← hq.1]; exact hq.2.1)
   ·exact ih x hx
 exact all r x hx
theorem dt_of {kvs : List (List Key × V)} (ok : HOk P w H h) (e : H a = some (.dT kvs)) : kvs.length ≤ sizeLine ∧ (a == sysModules) = false ∧
  ∃ xs, KT H kvs xs ∧ h.DictOfH (tupleKind (mixKind P w)) a xs := dt_rd ok (.inl e)
end
def DGet (H : Hp) (a : Addr) (y : V) (r : Option V) : Prop :=
 (∃ kvs k, Rd H a (.dK kvs) ∧ y = kV k ∧ r = valV kvs k) ∨ ∃ kvs k b, Rd H a (.dT kvs) ∧ y = .ref b ∧ H b = some (.tup (k.map kV)) ∧ r = valV kvs k
def DPut (H : Hp) (a : Addr) (y v : V) (H' : Hp) : Prop :=
 (∃ kvs k, H a = some (.dK kvs) ∧ y = kV k ∧ kvs.length < sizeLine ∧ H' = upd H a (.dK (putK kvs k v))) ∨
 ∃ kvs k b, H a = some (.dT kvs) ∧ y = .ref b ∧ H b = some (.tup (k.map kV)) ∧ kvs.length < sizeLine ∧ H' = upd H a (.dT (putK kvs k v))
theorem DGet.k {H : Hp} {a : Addr} {kvs : List (Key × V)} {k : Key} (e : H a = some (.dK kvs)) : DGet H a (kV k) (valV kvs k) := .inl ⟨kvs, k, .inl e, rfl, rfl⟩
theorem DGet.t {H : Hp} {a b : Addr} {kvs : List (List Key × V)} {k : List Key} (e : H a = some (.dT kvs)) (eb : H b = some (.tup (k.map kV))) : DGet H a (.ref b) (valV kvs k) := .inr ⟨kvs, k, b, .inl e, rfl, eb, rfl⟩
theorem DPut.k {H : Hp} {a : Addr} {kvs : List (Key × V)} {k : Key} {v : V} (e : H a = some (.dK kvs)) (hl : kvs.length < sizeLine) : DPut H a (kV k) v (upd H a (.dK (putK kvs k v))) := .inl ⟨kvs, k, e, rfl, hl, rfl⟩
section
variable {X : Cx} {pins : List (Addr × Obj)} {σ : St} {H : Hp} {s : Shared} {a : Addr} {y v : V} {u r : Value} {o : Option V} {A : Around} {E : Value → Shared → Prop}
theorem Inv.big (I : Inv X pins σ H s) : sysModules < s.heap.objs.size := by
 have h : mainGlobals < s.heap.objs.size := (I.mod.glob.keeps I.bk).lt
 exact Nat.lt_trans (by decide) h
theorem d_getItem {Q : Value → Shared → Prop} (hu : A.units + 1 < cLine) (I : Inv X pins σ H s) (g : DGet H a y (some v)) (ry : RelV y u) (h : ∀ w' s', Inv X pins σ H s' → RelV v w' → Q w' s') :
  wpAny (model X.prog X.w) A (getItem (.ref a) u) Q E s := by
 rcases g with ⟨kvs, k, e, ey, l⟩ | ⟨kvs, k, b, e, ey, eb, l⟩
 ·subst ey
  obtain ⟨z, hd, vs, rel, dd⟩ := dk_rd I.hok e
  obtain ⟨w', hw, rw'⟩ := RelO.some_of (v := v) (o := valueAt vs k) (by rw [l]; exact rel.val k)
  exact wpAny_getItem_of (kV_is ry) dd.mapOf hw (h w' _ (I.tok _) rw')
 ·subst ey
  cases (show u = Value.ref b from ry)
  obtain ⟨z, hd, xs, rel, dd⟩ := dt_rd I.hok e
  obtain ⟨w', hw, rw'⟩ := RelO.some_of (v := v) (o := (atKey xs k).map (·.2)) (by rw [l]; exact rel.val k)
  obtain ⟨p, hp, hp2⟩ := Option.map_eq_some_iff.mp hw
  refine wpAny_getItem_heap (tupleKind_room_in1 hu) (key_of I.hok eb) dd hp ?_
  rw [hp2]
  exact h w' _ (I.tok _) rw'
theorem d_in {Q : Value → Shared → Prop} (hu : A.units + 1 < cLine) (I : Inv X pins σ H s) (g : DGet H a y o) (ry : RelV y u) (h : ∀ s', Inv X pins σ H s' → Q (.bool o.isSome) s') :
  wpAny (model X.prog X.w) A (compareOp .In u (.ref a)) Q E s := by
 rcases g with ⟨kvs, k, e, ey, l⟩ | ⟨kvs, k, b, e, ey, eb, l⟩
 ·subst ey
  obtain ⟨z, hd, vs, rel, dd⟩ := dk_rd I.hok e
  refine wpAny_in_of (kV_is ry) hd dd.mapOf ?_
  rw [← (rel.val k).isSome_eq, ← l]
  exact h _ (I.tok _)
 ·subst ey
  cases (show u = Value.ref b from ry)
  obtain ⟨z, hd, xs, rel, dd⟩ := dt_rd I.hok e
  refine wpAny_in_heap (tupleKind_room_in1 hu) (key_of I.hok eb) hd dd ?_
  have q := (rel.val k).isSome_eq
  rw [Option.isSome_map] at q
  rw [← q, ← l]
  exact h _ (I.tok _)
theorem d_notIn {Q : Value → Shared → Prop} (hu : A.units + 1 < cLine) (I : Inv X pins σ H s) (g : DGet H a y o) (ry : RelV y u) (h : ∀ s', Inv X pins σ H s' → Q (.bool (!o.isSome)) s') :
  wpAny (model X.prog X.w) A (compareOp .NotIn u (.ref a)) Q E s := by
 rcases g with ⟨kvs, k, e, ey, l⟩ | ⟨kvs, k, b, e, ey, eb, l⟩
 ·subst ey
  obtain ⟨z, hd, vs, rel, dd⟩ := dk_rd I.hok e
  refine wpAny_notIn_of (kV_is ry) hd dd.mapOf ?_
  rw [← (rel.val k).isSome_eq, ← l]
  exact h _ (I.tok _)
 ·subst ey
  cases (show u = Value.ref b from ry)
  obtain ⟨z, hd, xs, rel, dd⟩ := dt_rd I.hok e
  refine wpAny_notIn_heap (tupleKind_room_in1 hu) (key_of I.hok eb) hd dd ?_
  have q := (rel.val k).isSome_eq
  rw [Option.isSome_map] at q
  rw [← q, ← l]
  exact h _ (I.tok _)
theorem d_write {h' : Heap} {t' : Nat} {ob : HO} (I : Inv X pins σ H s) (mu : Mut (H a)) (hs : Heap.SameBut a s.heap h') (he : ∃ q, h'.get? a = some q) (new : ObjOk X.prog X.w (upd H a ob) h' a ob) :
  Inv X pins σ (upd H a ob) { s with heap := h', toks := t' } :=
 I.write (x := a) (e := a) mu (.inl rfl) (fun b q hb z => (hs.2 b hb).trans z) he new
theorem dk_new {P : Program} {w : World} {H' : Hp} {h' : Heap} {kvs : List (Key × V)} {vs : List (Key × Value)} (z : kvs.length ≤ sizeLine) (hd : (a == sysModules) = false) (rel : KV kvs vs) (dd : h'.DictOf (mixKind P w) a vs) :
  ObjOk P w H' h' a (.dK kvs) := ⟨z, hd, vs, rel, dd⟩
theorem d_setItem {H' : Hp} {Q : Unit → Shared → Prop} (hu : A.units + 1 < cLine) (I : Inv X pins σ H s) (g : DPut H a y v H') (ry : RelV y u) (rv : RelV v r) (h : ∀ s', Inv X pins σ H' s' → Q () s') :
  wpAny (model X.prog X.w) A (setItem (.ref a) u r) Q E s := by
 rcases g with ⟨kvs, k, e, ey, l, eH⟩ | ⟨kvs, k, b, e, ey, eb, l, eH⟩
 ·subst ey eH
  obtain ⟨z, hd, vs, rel, dd⟩ := dk_of I.hok e
  have hz : vs.length ≤ sizeLine := by rw [← rel.length]; exact z
  have hl : (putK kvs k v).length ≤ sizeLine := by have := length_putK kvs k v; lia
  refine wpAny_setItem_pairs (hsz := hz) (kV_is ry) dd fun h' dd' hs => h _ ?_
  have he : ∃ q, h'.get? a = some q := let ⟨q, _, _, hq, _⟩ := dd'; ⟨q, hq⟩
  exact d_write I (by rw [e]; exact True.intro) hs he (dk_new hl hd (rel.put k rv) dd')
 ·subst ey eH
  cases (show u = Value.ref b from ry)
  obtain ⟨z, hd, xs, rel, dd⟩ := dt_of I.hok e
  have hz : xs.length ≤ sizeLine := by rw [← Paired.length rel]; exact z
  have hl : (putK kvs k v).length ≤ sizeLine := by have := length_putK kvs k v; lia
  refine wpAny_setItem_heap (hsz := hz) (tupleKind_room_in1 hu) (key_of I.hok eb) dd fun h' dd' hs => h _ ?_
  obtain ⟨q, es, ep, hq, h2, h3, h4, _, h5⟩ := dd'
  refine d_write I (by rw [e]; exact True.intro) hs ⟨q, hq⟩ ⟨hl, hd, _, (rel.put k eb rv).keeps fun c ys ec => ?_, q, es, ep, hq, h2, h3, h4, h5⟩
  rw [upd_ne (ne_of ec e (fun z => nomatch z))]
  exact ec
end
section
variable {X : Cx} {pins : List (Addr × Obj)} {σ : St} {H : Hp} {s : Shared} {a : Addr} {kvs : List (Key × V)} {k : Key} {u : Value} {A : Around} {E : Value → Shared → Prop}
end
def NoSl (i : Expr) : Prop := ∀ ov iv, subscripted i false ov iv = operate [ov, iv] (getItem ov iv)
theorem subD_of {prog : Program} {w : World} {A : Around} {E : Value → Shared → Prop} {s : Shared} {env : Env} {value slice : Expr} {pos : Pos} {T id : String} {Q : Value → Shared → Prop}
  (hl : typeLookup (.type T) "__getitem__" = pure (some (.builtin id))) (hs : NoSl slice)
  (h : wpAny (model prog w) A (eval value env) (fun o s₁ => wpAny (model prog w) A (eval slice env) (fun i s₂ => s₂.TypeIs o T ∧ wpAny (model prog w) A (getItem o i) Q E s₂) E s₁) E s) :
  wpAny (model prog w) A (eval (.Subscript value slice pos) env) Q E s := by
 refine Subscript_ (wpAny_mono h (fun o s₁ h₁ => wpAny_mono h₁ (fun i s₂ h₂ => ?_) fun _ _ x => x) fun _ _ x => x)
 obtain ⟨hT, h₂⟩ := h₂
 unfold subscriptTail
 refine wpAny_bind ?_
 rw [getitemInPython_of_ne hT.not_modules]
 refine wpAny_bind (wpAny_specialOf hT hl ?_)
 have fin : wpAny (model prog w) A (subscripted slice false o i) (fun r s₃ => wpAny (model prog w) A (letTemporaryGo value o r >>= fun _ => pure r) Q E s₃) E s₂ := by
  rw [hs o i]
  exact wpAny_operating (wpAny_mono h₂ (fun r s₃ h₃ => wpAny_bind (wpAny_letTemporaryGo (wpAny_pure h₃))) fun _ _ x => x)
 first
  | exact wpAny_pure (wpAny_bind fin)
  | exact wpAny_bind (wpAny_pure (wpAny_bind fin))
  | exact wpAny_bind fin
theorem dict_typeIs {X : Cx} {pins : List (Addr × Obj)} {σ : St} {H : Hp} {s : Shared} {a : Addr} {y : V} {o : Option V} (I : Inv X pins σ H s) (g : DGet H a y o) : s.TypeIs (.ref a) "dict" := by
 rcases g with ⟨kvs, k, e, _, _⟩ | ⟨kvs, k, b, e, _, _, _⟩
 ·obtain ⟨_, _, vs, _, dd⟩ := dk_rd I.hok e
  exact dd.typeIs
 ·obtain ⟨_, _, xs, _, dd⟩ := dt_rd I.hok e
  exact dd.typeIs
inductive ItDGet (Q : VK) (x : V) (y : V) (H2 : Hp) : Prop
 | mk (a : _) (v : _) (h1 : x = .ref a) (h2 : DGet H2 a y (some v)) (h3 : Q v H2)
def tDGet (td ty : TE) : TE := fun σ H Q => td σ H fun x H1 => ty σ H1 fun y H2 => ItDGet Q x y H2
inductive ItDIn (Q : VK) (y : V) (x : V) (H2 : Hp) : Prop
 | mk (a : _) (o : _) (h1 : x = .ref a) (h2 : DGet H2 a y o) (h3 : Q (.bl o.isSome) H2)
def tDIn (ty td : TE) : TE := fun σ H Q => ty σ H fun y H1 => td σ H1 fun x H2 => ItDIn Q y x H2
inductive ItDNotIn (Q : VK) (y : V) (x : V) (H2 : Hp) : Prop
 | mk (a : _) (o : _) (h1 : x = .ref a) (h2 : DGet H2 a y o) (h3 : Q (.bl (!o.isSome)) H2)
def tDNotIn (ty td : TE) : TE := fun σ H Q => ty σ H fun y H1 => td σ H1 fun x H2 => ItDNotIn Q y x H2
inductive IsDPut (D : Ends) (σ : St) (v : V) (x : V) (y : V) (H3 : Hp) : Prop
 | mk (a : _) (H4 : _) (h1 : x = .ref a) (h2 : DPut H3 a y v H4) (h3 : D.nx σ H4)
def sDPut (td ty tv : TE) : TS := fun D σ H => tv σ H fun v H1 => td σ H1 fun x H2 => ty σ H2 fun y H3 => IsDPut D σ v x y H3
section
variable {X : Cx} {o i e value : Expr} {pos pos' tpos : Pos} {td ty tv : TE}
theorem pe_dget (hu : X.A.units + 1 < cLine) (ho : PE X o td) (hi : PE X i ty) (hs : NoSl i) : PE X (.Subscript o i pos) (tDGet td ty) := by
 intro pins s σ H Q I h
 refine subD_of PySem.F.slot_dict_getitem.lookup hs (thn (ho pins s σ H _ I h) fun u s1 ⟨x, H1, I1, rx, q1⟩ => thn (hi pins s1 σ H1 _ I1 q1) fun iv s2 hqP => ?_)
 obtain ⟨y, H2, I2, ry, a, v, ex, g, q2⟩ := hqP
 subst ex
 obtain rfl : u = Value.ref a := rx
 exact ⟨dict_typeIs I2 g, d_getItem hu I2 g ry fun w' s3 I3 rw' => ⟨v, H2, I3, rw', q2⟩⟩
theorem pc_din (hu : X.A.units + 1 < cLine) (hi : PE X i ty) (ho : PE X o td) : PC X .In i o (tDIn ty td) := by
 intro pins s σ H Q I h
 refine thn (hi pins s σ H _ I h) fun iv s1 ⟨y, H1, I1, ry, q1⟩ => thn (ho pins s1 σ H1 _ I1 q1) fun u s2 hqP => ?_
 obtain ⟨x, H2, I2, rx, a, ov, ex, g, q2⟩ := hqP
 subst ex
 obtain rfl : u = Value.ref a := rx
 exact d_in hu I2 g ry fun s3 I3 => ⟨.bl ov.isSome, H2, I3, rfl, q2⟩
theorem pc_dnotin (hu : X.A.units + 1 < cLine) (hi : PE X i ty) (ho : PE X o td) : PC X .NotIn i o (tDNotIn ty td) := by
 intro pins s σ H Q I h
 refine thn (hi pins s σ H _ I h) fun iv s1 ⟨y, H1, I1, ry, q1⟩ => thn (ho pins s1 σ H1 _ I1 q1) fun u s2 hqP => ?_
 obtain ⟨x, H2, I2, rx, a, ov, ex, g, q2⟩ := hqP
 subst ex
 obtain rfl : u = Value.ref a := rx
 exact d_notIn hu I2 g ry fun s3 I3 => ⟨.bl (!ov.isSome), H2, I3, rfl, q2⟩
theorem ps_dput (hu : X.A.units + 1 < cLine) (ho : PE X o td) (hi : PE X i ty) (hv : PE X value tv) (hs : swapsWith value (some (.Subscript o i pos')) pos.line X.env = pure false) :
  PS X (.Assign [.Subscript o i pos'] value pos) (sDPut td ty tv) := by
 intro pins s σ H D I h
 refine wpAny_Assign_Subscript (thn (hv pins s σ H _ I h) fun r s1 ⟨v, H1, I1, rv, q1⟩ => thn (ho pins s1 σ H1 _ I1 q1) fun u s2 ⟨x, H2, I2, rx, q2⟩ => thn (hi pins s2 σ H2 _ I2 q2) fun iv s3 hqP => ?_) hs
 obtain ⟨y, H3, I3, ry, a, H4, ex, g, q3⟩ := hqP
 subst ex
 obtain rfl : u = Value.ref a := rx
 exact d_setItem hu I3 g ry rv fun s4 I4 => ⟨σ, H4, I4, q3⟩
end
theorem dk_empty {P : Program} {w : World} {H : Hp} (h : Heap) (hb : sysModules < h.objs.size) : ObjOk P w H (h.push { cls := .type "dict", data := .dict #[] }) h.objs.size (.dK []) :=
 ⟨Nat.zero_le _, beq_eq_false_iff_ne.mpr (Ne.symm (Nat.ne_of_lt hb)), [], .nil, Heap.DictOf.new h⟩
theorem dt_empty {P : Program} {w : World} {H : Hp} (h : Heap) (hb : sysModules < h.objs.size) : ObjOk P w H (h.push { cls := .type "dict", data := .dict #[] }) h.objs.size (.dT []) :=
 ⟨Nat.zero_le _, beq_eq_false_iff_ne.mpr (Ne.symm (Nat.ne_of_lt hb)), [], .nil, _, #[], 0, Heap.get?_push_size _ rfl, ⟨rfl, rfl, rfl⟩, rfl, rfl, List.nodup_nil⟩
def tDNewK : TE := fun _ H Q => ∀ p, H p = none → Q (.ref p) (upd H p (.dK []))
section
variable {X : Cx} {pos : Pos}
theorem pe_dnewK : PE X (.Dict [] [] pos) tDNewK := fun pins s σ H Q I h =>
 wpAny_Dict_empty ⟨.ref s.heap.objs.size, _, I.laid (a := s.heap.objs.size) (o := .dK []) (t' := s.toks) (fun _ _ q => Heap.get?_push_of_some _ q) (Nat.le_refl _) (dk_empty s.heap I.big), rfl, h _ (I.hok.fresh (Nat.le_refl _))⟩
end
structure M1 (X : Cx) (o : Expr) (m : Str) (apos : Pos) (e : Expr) (cpos : Pos) : Prop where
 base : attributeBase o m X.env (eval o X.env) = eval o X.env
 few : ((backTo cpos (starEach [e] X.env)).all (fun x => !x.1) && (backToKw cpos (keywordEach [] X.env)).all (fun x => x.1.isSome)
  && decide (([e] : List Expr).length + ([] : List Keyword).length + (if ([] : List Keyword).isEmpty then 0 else 1) < 30)) = true
 line : (apos.endLine == cpos.line) = true
 trees : backTo cpos (starEach [e] X.env) = [(false, eval e X.env)]
structure M2 (X : Cx) (o : Expr) (m : Str) (apos : Pos) (e f : Expr) (cpos : Pos) : Prop where
 base : attributeBase o m X.env (eval o X.env) = eval o X.env
 few : ((backTo cpos (starEach [e, f] X.env)).all (fun x => !x.1) && (backToKw cpos (keywordEach [] X.env)).all (fun x => x.1.isSome)
  && decide (([e, f] : List Expr).length + ([] : List Keyword).length + (if ([] : List Keyword).isEmpty then 0 else 1) < 30)) = true
 line : (apos.endLine == cpos.line) = true
 trees : backTo cpos (starEach [e, f] X.env) = [(false, eval e X.env), (false, eval f X.env)]
def IsD (H : Hp) (a : Addr) : Prop := (∃ kvs, Rd H a (.dK kvs)) ∨ ∃ kvs, Rd H a (.dT kvs)
theorem isD_at {X : Cx} {pins : List (Addr × Obj)} {σ : St} {H : Hp} {s : Shared} {a : Addr} (I : Inv X pins σ H s) (d : IsD H a) :
  s.TypeIs (.ref a) "dict" ∧ (∀ b, Value.ref a = .ref b → ∃ ob, s.heap.get? b = some ob ∧ ob.dict = none) ∧ (a == sysModules) = false := by
 rcases d with ⟨kvs, e⟩ | ⟨kvs, e⟩
 ·obtain ⟨_, hd, vs, _, dd⟩ := dk_rd I.hok e
  refine ⟨dd.typeIs, fun b q => ?_, hd⟩
  cases q
  obtain ⟨ob, _, _, h1, h2, _⟩ := dd
  exact ⟨ob, h1, h2.2.1⟩
 ·obtain ⟨_, hd, xs, _, dd⟩ := dt_rd I.hok e
  refine ⟨dd.typeIs, fun b q => ?_, hd⟩
  cases q
  obtain ⟨ob, _, _, h1, h2, _⟩ := dd
  exact ⟨ob, h1, h2.2.1⟩
section
variable {X : Cx} {pins : List (Addr × Obj)} {σ : St} {H : Hp} {s : Shared} {a : Addr} {y d : V} {u r : Value} {o : Option V} {A : Around} {E : Value → Shared → Prop}
theorem d_get1 {Q : Value → Shared → Prop} (hu : A.units + 1 < cLine) (I : Inv X pins σ H s) (g : DGet H a y o) (ry : RelV y u) (h : ∀ w' s', Inv X pins σ H s' → RelV (o.getD .non) w' → Q w' s') :
  wpAny (model X.prog X.w) A (call (.builtin "dict.get") [.ref a, u]) Q E s := by
 rcases g with ⟨kvs, k, e, ey, l⟩ | ⟨kvs, k, b, e, ey, eb, l⟩
 ·subst ey
  obtain ⟨z, hd, vs, rel, dd⟩ := dk_rd I.hok e
  refine call_meetsIn PySem.F.slot_dict_get dd.typeIs PySem.F.entry_dict_get (PySem.F.args_dict_get_2 _ _) (meets_dict_get (mixKind X.prog X.w) a (kV_is ry) hd) ⟨_, dd.mapOf, h _ _ (I.tok _) ?_⟩
  rw [l]
  exact (rel.val k).getD rfl
 ·subst ey
  cases (show u = Value.ref b from ry)
  obtain ⟨z, hd, xs, rel, dd⟩ := dt_rd I.hok e
  refine call_meetsIn PySem.F.slot_dict_get dd.typeIs PySem.F.entry_dict_get (PySem.F.args_dict_get_2 _ _) (meetsH_dict_get (tupleKind (mixKind X.prog X.w)) a b hd) ⟨tupleKind_room_in1 hu, k, xs, key_of I.hok eb, dd, h _ _ (I.tok _) ?_⟩
  rw [l]
  exact (rel.val k).getD rfl
theorem d_get2 {Q : Value → Shared → Prop} (hu : A.units + 1 < cLine) (I : Inv X pins σ H s) (g : DGet H a y o) (ry : RelV y u) (rd : RelV d r) (h : ∀ w' s', Inv X pins σ H s' → RelV (o.getD d) w' → Q w' s') :
  wpAny (model X.prog X.w) A (call (.builtin "dict.get") [.ref a, u, r]) Q E s := by
 rcases g with ⟨kvs, k, e, ey, l⟩ | ⟨kvs, k, b, e, ey, eb, l⟩
 ·subst ey
  obtain ⟨z, hd, vs, rel, dd⟩ := dk_rd I.hok e
  refine call_meetsIn PySem.F.slot_dict_get dd.typeIs PySem.F.entry_dict_get (PySem.F.args_dict_get_3 _ _ _) (meets_dict_get_default (mixKind X.prog X.w) a (kV_is ry) hd r) ⟨_, dd.mapOf, h _ _ (I.tok _) ?_⟩
  rw [l]
  exact (rel.val k).getD rd
 ·subst ey
  cases (show u = Value.ref b from ry)
  obtain ⟨z, hd, xs, rel, dd⟩ := dt_rd I.hok e
  refine call_meetsIn PySem.F.slot_dict_get dd.typeIs PySem.F.entry_dict_get (PySem.F.args_dict_get_3 _ _ _) (meetsH_dict_get_default (tupleKind (mixKind X.prog X.w)) a b hd r) ⟨tupleKind_room_in1 hu, k, xs, key_of I.hok eb, dd, h _ _ (I.tok _) ?_⟩
  rw [l]
  exact (rel.val k).getD rd
end
inductive ItDGet1 (ty : TE) (σ : St) (Q : VK) (x : V) (H1 : Hp) : Prop
 | mk (a : _) (h1 : x = .ref a) (h2 : IsD H1 a) (h3 : ty σ H1 fun y H2 => ∃ o, DGet H2 a y o ∧ Q (o.getD .non) H2)
def tDGet1 (td ty : TE) : TE := fun σ H Q => td σ H fun x H1 => ItDGet1 ty σ Q x H1
inductive ItDGet2 (ty : TE) (tx : TE) (σ : St) (Q : VK) (x : V) (H1 : Hp) : Prop
 | mk (a : _) (h1 : x = .ref a) (h2 : IsD H1 a) (h3 : ty σ H1 fun y H2 => tx σ H2 fun z H3 => ∃ o, DGet H3 a y o ∧ Q (o.getD z) H3)
def tDGet2 (td ty tx : TE) : TE := fun σ H Q => td σ H fun x H1 => ItDGet2 ty tx σ Q x H1
section
variable {X : Cx} {o e f : Expr} {apos cpos : Pos} {td ty tx : TE}
theorem pe_dget1 (hu : X.A.units + 1 < cLine) (ho : PE X o td) (he : PE X e ty) (m : M1 X o "get" apos e cpos) : PE X (.Call (.Attribute o "get" apos) [e] [] cpos) (tDGet1 td ty) := by
 intro pins s σ H Q I h
 refine wpAny_Call_method m.base m.few m.line PySem.F.plainAttrs_dict PySem.F.slot_dict_get PySem.F.type_dict_get (thn (ho pins s σ H _ I h) fun u s1 hqP => ?_)
 obtain ⟨x, H1, I1, rx, a, ex, d, q1⟩ := hqP
 subst ex
 obtain rfl : u = Value.ref a := rx
 obtain ⟨t1, t2, _⟩ := isD_at I1 d
 refine ⟨t1, t2, ?_⟩
 rw [m.trees]
 refine Calls.callWith_builtin rfl (Calls.evalArgs_plain (Calls.spliced_cons (thn (he pins s1 σ H1 _ I1 q1) fun iv s2 ⟨y, H2, I2, ry, ov, g, q2⟩ => Calls.spliced_nil ?_)))
 exact d_get1 hu I2 g ry fun w' s3 I3 rw' => ⟨_, H2, I3, rw', q2⟩
theorem pe_dget2 (hu : X.A.units + 1 < cLine) (ho : PE X o td) (he : PE X e ty) (hf : PE X f tx) (m : M2 X o "get" apos e f cpos) : PE X (.Call (.Attribute o "get" apos) [e, f] [] cpos) (tDGet2 td ty tx) := by
 intro pins s σ H Q I h
 refine wpAny_Call_method m.base m.few m.line PySem.F.plainAttrs_dict PySem.F.slot_dict_get PySem.F.type_dict_get (thn (ho pins s σ H _ I h) fun u s1 hqP => ?_)
 obtain ⟨x, H1, I1, rx, a, ex, d, q1⟩ := hqP
 subst ex
 obtain rfl : u = Value.ref a := rx
 obtain ⟨t1, t2, _⟩ := isD_at I1 d
 refine ⟨t1, t2, ?_⟩
 rw [m.trees]
 refine Calls.callWith_builtin rfl (Calls.evalArgs_plain (Calls.spliced_cons (thn (he pins s1 σ H1 _ I1 q1) fun iv s2 ⟨y, H2, I2, ry, q2⟩ =>
  Calls.spliced_cons (thn (hf pins s2 σ H2 _ I2 q2) fun fv s3 ⟨z, H3, I3, rz, ov, g, q3⟩ => Calls.spliced_nil ?_))))
 exact d_get2 hu I3 g ry rz fun w' s4 I4 rw' => ⟨_, H3, I4, rw', q3⟩
end
section
variable {X : Cx} {pins : List (Addr × Obj)} {σ : St} {H : Hp} {s : Shared} {a : Addr} {kvs : List (Key × V)} {A : Around} {E : Value → Shared → Prop}
end
section
variable {X : Cx} {pins : List (Addr × Obj)} {σ : St} {H : Hp} {s : Shared} {a : Addr} {y : V} {u : Value} {A : Around} {E : Value → Shared → Prop}
end
end L2
namespace Att
open PySem PySem.W PySem.Calls PyProof.Rows
section
variable {prog : Program} {w : World} {A : Around} {E : Value → Shared → Prop} {s : Shared} {K : Frag}
end
end Att
namespace L2
open PySem PySem.Spec PyProof.Rows
section
variable {P : Program} {w : World} {K : Fg} {mg : Str → Option Value} {base : Heap}
end
section
variable {X : Cx}
end
section
variable {κ : Type} [DecidableEq κ]
theorem valV_in {kvs : List (κ × V)} {k : κ} {v : V} (h : valV kvs k = some v) : k ∈ kvs.map (·.1) := by
 have q : (kvs.any fun kv => decide (kv.1 = k)) = true := by
  rw [valV_any, h]
  all_goals rfl
 obtain ⟨p, hp, e⟩ := List.any_eq_true.mp q
 exact List.mem_map.mpr ⟨p, hp, of_decide_eq_true e⟩
end
theorem lk_list_keys : typeLookup (.type "list") "keys" = pure none := by rw [typeLookup_type, builtinLookup_eq_fast]; kernel_rfl
section
variable {prog : Program} {w : World} {A : Around} {E : Value → Shared → Prop}
theorem getAttrQ_keys {s : Shared} {a : Addr} {xs : Array Value} {k : Nat} {sl : Array (Option Value)} {Q : Option Value → Shared → Prop} (hx : s.heap.get? a = some { cls := .type "list", dict := none, data := .seq xs k, slots := sl }) (hA : A.handled = none)
  (h : ∀ h' tk, (∀ b o, s.heap.get? b = some o → h'.get? b = some o) → Q none { s with heap := h', toks := tk }) : wpAny (model prog w) A (getAttr? (.ref a) "keys") Q E s := by
 obtain ⟨hp, g, d, tk, os⟩ := s
 have hT : ∀ tk', (⟨hp, g, d, tk', os⟩ : Shared).TypeIs (.ref a) "list" := fun _ => ⟨_, hx, rfl⟩
 have f1 := sub_AttributeError
 have f3 := F.slot_list_getattribute.lookup
 have f4 := F.slot_list_getattribute.bind (.ref a)
 have f5 := am_list_getattr_none
 have hname : (["__module__", "__name__", "__qualname__", "__doc__", "__annotations__"] : List Str).contains "keys" = false := by decide +kernel
 unfold getAttr? getAttrBy? getAttrBy
 repeat (any_goals (first | assumption | exact hT _ | ((with_reducible show wpAny _ _ (call (Value.builtin "list.__getattribute__") _ _) _ _ _); refine call_meets F.slot_list_getattribute (hT _) am_entry_list_getattribute (F.args_list_getattribute_2 _ _) (meets_getattribute_miss_list a xs k sl "keys" _ lk_list_keys hname (by decide +kernel)) ⟨hx, hA, fun h' tk' e hx' => ?_⟩) | wp_step))
 have hxo := hx'.of
 obtain ⟨⟨cl, dc, da, sl2⟩, vs, he, hc, _, _⟩ := hxo.there
 simp only at hc
 subst hc
 have hE : ∀ tk2, (⟨h', g, d, tk2, os⟩ : Shared).TypeIs (.ref e) "AttributeError" := fun _ => ⟨_, he, rfl⟩
 show wpAny _ _ (getattributeRaised _ _ _ _ _ _ _) _ _ _
 unfold getattributeRaised
 repeat (any_goals (first | assumption | exact hE _ | wp_step))
 all_goals exact h _ _ hxo.keeps
end
def entry_dul : entryFor table "dict.update.loop" = some Builtin.«dict.update.loop» := entryFor_of_tree (by kernel_rfl)
theorem plain_dul : plainId "dict.update.loop" = true := by decide +kernel
section
variable {X : Cx}
end
section
variable {P : Program} {w : World} {A : Around} {E : Value → Shared → Prop} {s : Shared} {e it l : Addr} {st : Nat → Heap → Prop} {src : List Value → Heap → Prop} {i : Nat} {xs : List Value} {old : Value}
theorem enumNext_item {x : Value} {Q : Option Value → Shared → Prop} (dr : Drw P w it l st src) (hE : IsEnum s.heap e it i old) (hI : st i s.heap) (hl : src xs s.heap) (hx : xs[i]? = some x) (hne : e ≠ it)
  (hQ : ∀ h', IsEnumOut h' e it ((i : Int) + 1) x s.heap.objs.size → st (i + 1) h' → h'.get? s.heap.objs.size = some { cls := .type "tuple", data := .seq #[.int i s.toks, x] } →
   (∀ b o, b ≠ e → b ≠ it → s.heap.get? b = some o → h'.get? b = some o) → Q (some (.ref s.heap.objs.size)) { s with heap := h', toks := s.toks + 1 }) : wpAny (model P w) A (pyNext (.ref e)) Q E s := by
 have hTy : s.TypeIs (.ref e) "enumerate" := ⟨_, hE, rfl⟩
 unfold pyNext
 refine wpAny_bind (wpAny_attempt (wpAny_callSpecial?_slot (name := Str.ofString "__next__") hTy F.slot_enumerate_next (wpAny_call_entry F.slot_enumerate_next hTy F.entry_enumerate_next ?_ (F.args_enumerate_next_1 _))))
 obtain ⟨hp, g, d, tk, os⟩ := s
 show wpAny _ _ (field (.ref e) 2 >>= _) _ _ _
 refine wpAny_bind (wpAny_field hE rfl (x := .ref it) rfl ?_)
 refine wpAny_bind (dr.item _ _ ⟨hp, g, d, tk, os⟩ i xs x _ hI hl hx fun g1 hI1 e1 => ?_)
 replace e1 : Heap.SameBut it hp g1 := e1
 have hE1 : IsEnum g1 e it i old := (e1.2 e hne).trans hE
 show wpAny _ _ (field (.ref e) 3 >>= _) _ _ ⟨g1, g, d, tk, os⟩
 refine wpAny_bind (wpAny_field hE1 rfl (x := rawInt i) rfl ?_)
 show wpAny _ _ (field (.ref e) 4 >>= _) _ _ ⟨g1, g, d, tk, os⟩
 refine wpAny_bind (wpAny_field hE1 rfl (x := .none) rfl ?_)
 show wpAny _ _ (mkInt i >>= _) _ _ ⟨g1, g, d, tk, os⟩
 refine wpAny_bind (wpAny_mkInt ?_)
 show wpAny _ _ (setField (.ref e) 3 (rawInt ((i : Int) + 1)) >>= _) _ _ ⟨g1, g, d, tk + 1, os⟩
 refine wpAny_bind (wpAny_setField_rec hE1 (by simp) fun g2 hE2 e2 => ?_)
 replace e2 : Heap.SameBut e g1 g2 := e2
 replace hE2 : IsEnum g2 e it ((i : Int) + 1) old := hE2
 show wpAny _ _ (setField (.ref e) 4 .none >>= _) _ _ ⟨g2, g, d, tk + 1, os⟩
 refine wpAny_bind (wpAny_setField_rec hE2 (by simp) fun g3 hE3 e3 => ?_)
 replace e3 : Heap.SameBut e g2 g3 := e3
 replace hE3 : IsEnum g3 e it ((i : Int) + 1) old := hE3
 show wpAny _ _ (newTuple [.int i tk, x] >>= _) _ _ ⟨g3, g, d, tk + 1, os⟩
 refine wpAny_bind (wpAny_newTuple ?_)
 have hE4 : IsEnum (g3.push { cls := .type "tuple", data := .seq #[.int i tk, x] }) e it ((i : Int) + 1) old := Heap.get?_push_of_some _ hE3
 generalize hg4 : g3.push { cls := .type "tuple", data := .seq #[.int i tk, x] } = g4 at hE4
 have hsz : g3.objs.size = hp.objs.size := by rw [e3.1, e2.1, e1.1]
 have hel : e < hp.objs.size := Heap.lt_size hE
 have hT4 : g4.get? hp.objs.size = some { cls := .type "tuple", data := .seq #[.int i tk, x] } := by rw [← hg4, ← hsz]; exact Heap.get?_push_size _ rfl
 have hk4 : ∀ b o, b ≠ e → b ≠ it → hp.get? b = some o → g4.get? b = some o := fun b o hbe hbi hb => by
  rw [← hg4]; exact Heap.get?_push_of_some _ (e3.extBut b o hbe (e2.extBut b o hbe (e1.extBut b o hbi hb)))
 have hI4 : st (i + 1) g4 := dr.keep _ _ _ hI1 fun q z => by rw [← hg4]; exact Heap.get?_push_of_some _ (e3.extBut _ _ hne.symm (e2.extBut _ _ hne.symm z))
 show wpAny _ _ (Builtin.SmallTypes.ownedTupleIsFree (.ref e) >>= _) _ _ ⟨g4, g, d, tk + 1, os⟩
 rw [hsz]
 clear hg4 hE3 e3 hE2 e2 hE1 e1 hI1 hsz
 refine wpAny_bind ?_
 unfold Builtin.SmallTypes.ownedTupleIsFree
 refine wpAny_bind (wpAny_field hE4 rfl (x := .none) rfl (wpAny_pure ?_))
 simp only [if_true]
 refine wpAny_bind (wpAny_rule (wpAny_bind (wpAny_field hE4 rfl (x := old) rfl (wpAny_bind (wpAny_setField_rec hE4 (by simp) fun g5 hE5 e5 => ?_)))))
 replace e5 : Heap.SameBut e g4 g5 := e5
 replace hE5 : IsEnum g5 e it ((i : Int) + 1) x := hE5
 show wpAny _ _ (Builtin.SmallTypes.ownedTupleHandOut (.ref e) (.ref hp.objs.size) >>= _) _ _ ⟨g5, g, d, tk + 1, os⟩
 refine wpAny_bind ?_
 unfold Builtin.SmallTypes.ownedTupleHandOut
 refine wpAny_bind (wpAny_setField_rec hE5 (by simp) fun g6 hE6 e6 => ?_)
 replace e6 : Heap.SameBut e g5 g6 := e6
 replace hE6 : IsEnumOut g6 e it ((i : Int) + 1) x hp.objs.size := hE6
 refine wpAny_setField_rec hE6 (by simp) fun g7 hE7 e7 => ?_
 replace e7 : Heap.SameBut e g6 g7 := e7
 replace hE7 : IsEnumOut g7 e it ((i : Int) + 1) x hp.objs.size := hE7
 have up : ∀ b o, b ≠ e → g4.get? b = some o → g7.get? b = some o := fun b o hb z => e7.extBut b o hb (e6.extBut b o hb (e5.extBut b o hb z))
 refine wpAny_bind (wpAny_letGo (wpAny_pure ⟨_, rfl, wpAny_pure (hQ g7 hE7 ?_ ?_ ?_)⟩))
 ·exact dr.keep _ _ _ hI4 fun q z => up _ _ hne.symm z
 ·exact up _ _ (Nat.ne_of_gt hel) hT4
 ·exact fun b o hbe hbi hb => up b o hbe (hk4 b o hbe hbi hb)
theorem enumNext_end {Q : Option Value → Shared → Prop} (hh : A.handled = none) (dr : Drw P w it l st src) (hE : IsEnum s.heap e it i old) (hI : st i s.heap) (hl : src xs s.heap) (hx : xs[i]? = none)
  (hQ : ∀ h', Heap.ExtBut it s.heap h' → Q none { s with heap := h' }) : wpAny (model P w) A (pyNext (.ref e)) Q E s := by
 have hTy : s.TypeIs (.ref e) "enumerate" := ⟨_, hE, rfl⟩
 unfold pyNext
 refine wpAny_bind (wpAny_attempt (wpAny_callSpecial?_slot (name := Str.ofString "__next__") hTy F.slot_enumerate_next (wpAny_call_entry F.slot_enumerate_next hTy F.entry_enumerate_next ?_ (F.args_enumerate_next_1 _))))
 show wpAny _ _ (field (.ref e) 2 >>= _) _ _ _
 refine wpAny_bind (wpAny_field hE rfl (x := .ref it) rfl ?_)
 refine wpAny_bind (dr.done _ _ s i xs _ hh hI hl hx fun h' x eb hx' => ?_)
 obtain ⟨o, ho, hc⟩ := hx'
 refine wpAny_bind (wpAny_isInstance (T := "StopIteration") (b := true) ⟨o, ho, hc⟩ isSubtype_stop (wpAny_pure (hQ _ eb)))
end
theorem meets_enum {n : String} {l : Addr} {p : Heap → Prop} (I : Itr0 n l p) :
  Meets (Builtin.«enumerate.__new__» ⟨[.type "enumerate", .ref l], []⟩) (fun _ R s => p s.heap ∧ R (.ok (.ret (.ref (s.heap.push (itObj n l)).objs.size))) { s with heap := (s.heap.push (itObj n l)).push { cls := .type "enumerate", data := .fields #[.none, .bool false, .ref s.heap.objs.size, rawInt 0, .none, .none] } }) :=
 .of_wp fun prog w A R s h => by
  obtain ⟨hp, g, d, tk, os⟩ := s
  obtain ⟨q, h⟩ := h
  have hsub := sub_enumerate
  have f1 := fun (A : Around) (E : Value → Shared → Prop) (Q : Value → Shared → Prop) => I.go prog w A E ⟨hp, g, d, tk, os⟩ Q q
  wp_walk
  refine wpAny_stack_any fun stk => wpAny_pure ?_
  split
  ·rename_i c _ _ _ _ _
   cases (c == Value.type "enumerate")
   ·wp_walk using f1 _ _ _
    exact ⟨_, rfl, h⟩
   ·wp_walk using f1 _ _ _
    exact ⟨_, rfl, h⟩
  ·wp_walk using f1 _ _ _
   exact ⟨_, rfl, h⟩
def Ite (K : Fg) (m : Bool) (a : Addr) : It :=
  ⟨fun i H => ∃ xs x, Sq K m H a xs ∧ xs[i]? = some x,
   fun i H v H' => ∃ T x, v = .ref T ∧ H T = none ∧ H' = upd H T (.tup [.int (i : Nat), x]) ∧ (∀ xs, Sq K m H a xs → xs[i]? = some x),
   fun i H => ∃ xs, Sq K m H a xs ∧ xs.length ≤ i⟩
def eTn (m : Bool) (e it a : Addr) (i : Nat) (h : Heap) : Prop := (∃ old, IsEnum h e it i old) ∧ itSt m it a i h
theorem turn_enum {P : Program} {w : World} {K : Fg} {es : List Expr} {kk : Nat} {tp : Pos} {m : Bool} {e it a : Addr} (hne : e ≠ it) (hea : a ≠ e) (hia : a ≠ it) :
  Turn P w K (.Tuple es kk tp) (Ite K m a) [e, it] e (eTn m e it a) where
 mem := by simp
 obj := fun i h st c hc => by
  obtain ⟨⟨old, h1⟩, h2⟩ := st
  simp only [List.mem_cons, List.mem_nil_iff, or_false] at hc
  rcases hc with rfl | rfl
  ·exact ⟨_, h1, fun v z => by cases z⟩
  ·exact (drw_of (P := P) (w := w) m c a).obj i h h2
 keep := fun i h h' st k => by
  obtain ⟨⟨old, h1⟩, h2⟩ := st
  exact ⟨⟨old, k e (by simp) _ h1⟩, (drw_of (P := P) (w := w) m it a).keep i h h' h2 (k it (by simp))⟩
 item := by
  intro X hP hw hK hc i pins s σ H E I hf st hg
  subst hP hw hK
  obtain ⟨xs, x, q1, hx⟩ := hg
  obtain ⟨is1, r1, p1, z1⟩ := I.sq q1
  obtain ⟨v1, e1, rv1⟩ := r1.get hx
  obtain ⟨⟨old, hE⟩, s1⟩ := st
  refine enumNext_item (drw_of m it a) hE s1 p1 e1 hne fun h' a1 a2 a3 a4 => ⟨_, rfl, ?_⟩
  have kk : ∀ c q, c ∉ [e, it] → s.heap.get? c = some q → h'.get? c = some q := fun c q hc e => by
   simp only [List.mem_cons, List.mem_nil_iff, or_false, not_or] at hc
   exact a4 c q hc.1 hc.2 e
  have I1 : Inv X pins σ (upd H s.heap.objs.size (.tup [.int (i : Nat), x])) { s with heap := h' } := I.tupNew (ch := [e, it]) (its := [.int i s.toks, v1]) (Nat.le_refl _) (.cons ⟨_, rfl⟩ (.cons rv1 .nil)) (by show 2 ≤ sizeLine; decide) a3 hf kk (fun c hc => by
   simp only [List.mem_cons, List.mem_nil_iff, or_false] at hc
   rcases hc with rfl | rfl
   ·exact ⟨_, a1⟩
   ·obtain ⟨q, z, _⟩ := (drw_of (P := X.prog) (w := X.w) m c a).obj _ _ a2; exact ⟨q, z⟩)
  refine wpAny_letOwnedTupleGo_enum (s := { s with heap := h', toks := s.toks + 1 }) a1 fun h2 g1 g2 => ?_
  obtain ⟨f0, f1, f2, f3, f4, f5⟩ := hf e (by simp)
  have lte : e < s.heap.objs.size := Heap.lt_size hE
  have I2 : Inv X pins σ (upd H s.heap.objs.size (.tup [.int (i : Nat), x])) { s with heap := h2, toks := s.toks + 1 } := I1.turned (h' := h2) (t' := s.toks + 1) (fun c q hc z => g2.extBut c q hc z) (by rw [upd_ne (Nat.ne_of_lt lte)]; exact f0) f1 f3 f4 f5
  refine ⟨.ref s.heap.objs.size, _, I2, rfl, ⟨_, x, rfl, I.hok.fresh (Nat.le_refl _), rfl, fun xs' hq => by rw [I.sq_inj hq q1]; exact hx⟩, ⟨⟨_, by exact_mod_cast g1⟩, (drw_of (P := X.prog) (w := X.w) m it a).keep _ _ _ a2 fun q z => g2.extBut _ _ hne.symm z⟩, fun c hc => ?_⟩
  have hlt : c ≠ s.heap.objs.size := by
   simp only [List.mem_cons, List.mem_nil_iff, or_false] at hc
   rcases hc with rfl | rfl
   ·exact Nat.ne_of_lt lte
   ·obtain ⟨q, z, _⟩ := (drw_of (P := X.prog) (w := X.w) m c a).obj _ _ s1; exact Nat.ne_of_lt (Heap.lt_size z)
  rw [upd_ne hlt]
  exact (hf c hc).1
 done := by
  intro X hP hw hK hc i pins s σ H E I hf st hg
  subst hP hw hK
  obtain ⟨xs, q1, hx⟩ := hg
  obtain ⟨is1, r1, p1, z1⟩ := I.sq q1
  obtain ⟨⟨old, hE⟩, s1⟩ := st
  have l1 := r1.length
  obtain ⟨f0, f1, f2, f3, f4, f5⟩ := hf it (by simp)
  exact enumNext_end (I.ok.hd hc) (drw_of m it a) hE s1 p1 (List.getElem?_eq_none_iff.mpr (by lia)) fun h' eb => ⟨rfl, I.turned (t' := s.toks) (fun b o hb z => eb b o hb z) f0 f1 f3 f4 f5⟩
 self := fun _ _ _ _ _ st h => by
  obtain ⟨⟨old, h1⟩, _⟩ := st
  exact wpAny_pyIter_enum h1 h
section
variable {X : Cx}
inductive IiEnum (K : Fg) (m : Bool) (R : (It → Hp → Prop)) (vs : List V) (H1 : Hp) : Prop
 | mk (a : _) (h1 : vs = [.ref a]) (h2 : (∃ xs, Sq K m H1 a xs)) (h3 : R (Ite K m a) H1)
def iEnum (K : Fg) (m : Bool) (ta : TA) : TI := fun σ H R => ta σ H fun vs H1 => IiEnum K m R vs H1
theorem pi_enum {a : Expr} {ta : TA} {p pos tp : Pos} {es : List Expr} {kk : Nat} (m : Bool) (hg : Gl X "enumerate") (hm : X.mg "enumerate" = none) (ha : PA X [a] ta) (hs : autoParam (starEach [a] X.env = [(false, eval a X.env)]) L2.aRfl._auto_1) :
  PI X (.Tuple es kk tp) (.Call (.Name "enumerate" p) [a] [] pos) (iEnum X.K m ta) := by
 intro pins s σ H R I h
 refine Call_ (ld_blt I hg hm bt_enumerate (PyProof.Rows.callWith_type1 (thn (ha pos pins s σ H _ I h) fun us s1 hqP => ?_) hs rfl))
 obtain ⟨vs, H1, I1, r1, q1⟩ := hqP
 obtain ⟨l1, e, ⟨xs, q1⟩, q⟩ := q1
 subst e
 obtain ⟨u1, rfl, e1⟩ := r1.one
 cases e1
 obtain ⟨is1, r1, p1, z1⟩ := I1.sq q1
 refine callType_new F.called_enumerate (by decide) (F.typeCall_enumerate_1 _) (F.newCall_enumerate_1 _) (fun obj => F.args_object_init_2 obj _) F.entry_enumerate_new (meets_enum (itr0_of m l1 is1)) ⟨p1, ?_⟩
 have z2 : (s1.heap.push (itObj (itN m) l1)).objs.size = s1.heap.objs.size + 1 := Heap.size_push ..
 have g2 : ((s1.heap.push (itObj (itN m) l1)).push { cls := .type "enumerate", data := .fields #[.none, .bool false, .ref s1.heap.objs.size, rawInt 0, .none, .none] }).get? (s1.heap.push (itObj (itN m) l1)).objs.size = some { cls := .type "enumerate", data := .fields #[.none, .bool false, .ref s1.heap.objs.size, rawInt 0, .none, .none] } := Heap.get?_push_size _ rfl
 have g1 : ((s1.heap.push (itObj (itN m) l1)).push { cls := .type "enumerate", data := .fields #[.none, .bool false, .ref s1.heap.objs.size, rawInt 0, .none, .none] }).get? s1.heap.objs.size = some (itObj (itN m) l1) := Heap.get?_push_of_some _ (Heap.get?_push_size _ rfl)
 rw [z2] at g2
 show _ ∧ _
 rw [z2]
 have kp : ∀ b o, s1.heap.get? b = some o → ((s1.heap.push (itObj (itN m) l1)).push { cls := .type "enumerate", data := .fields #[.none, .bool false, .ref s1.heap.objs.size, rawInt 0, .none, .none] }).get? b = some o := fun b o z => Heap.get?_push_of_some _ (Heap.get?_push_of_some _ z)
 generalize (s1.heap.push (itObj (itN m) l1)).push { cls := .type "enumerate", data := .fields #[.none, .bool false, .ref s1.heap.objs.size, rawInt 0, .none, .none] } = h' at g1 g2 kp
 have I2 : Inv X pins σ H1 { s1 with heap := h' } := I1.kept (t' := s1.toks) kp
 have ltl : l1 < s1.heap.objs.size := itSrc_lt p1
 refine ⟨⟨_, g2, rfl⟩, wpAny_pyIter_enum (s := { s1 with heap := h' }) g2 ⟨_, [s1.heap.objs.size + 1, s1.heap.objs.size], _, _, H1, rfl, I2, turn_enum (m := m) (a := l1) (Nat.succ_ne_self _) (Nat.ne_of_lt (Nat.lt_succ_of_lt ltl)) (Nat.ne_of_lt ltl), ⟨⟨_, g2⟩, itSt_new m g1⟩, fun c hc => ?_, q⟩⟩
 have hle : s1.heap.objs.size ≤ c := by
  simp only [List.mem_cons, List.mem_nil_iff, or_false] at hc
  rcases hc with rfl | rfl
  ·exact Nat.le_add_right _ _
  ·exact Nat.le_refl _
 exact I1.fpOk hle (I1.hok.fresh hle)
end
theorem for_enum {K : Fg} {m : Bool} {a : Addr} {xs : List V} {g : TG} {tb : TS} {D : Ends} {σ : St} {H : Hp} (Pv : Nat → St → Hp → Prop) (h0 : Pv 0 σ H) (hl : ∀ i σ H, i ≤ xs.length → Pv i σ H → Sq K m H a xs)
  (hs : ∀ i x σ H T, xs[i]? = some x → Pv i σ H → H T = none → g (.ref T) σ (upd H T (.tup [.int (i : Nat), x])) fun σ2 H2 => tb { D with nx := Pv (i + 1), ct := Pv (i + 1), bk := D.nx } σ2 H2) (hd : ∀ σ H, Pv xs.length σ H → D.nx σ H) :
  ∃ W : Nat → Nat → St → Hp → Prop, (∃ m, W 0 m σ H) ∧ ∀ i n σ H, W i n σ H →
   ((Ite K m a).stop i H ∧ D.nx σ H) ∨ ((Ite K m a).go i H ∧ ∃ N : St → Hp → Prop, (∀ σ' H', N σ' H' → ∃ m', m' < n ∧ W (i + 1) m' σ' H') ∧ ∀ x H', (Ite K m a).yld i H x H' → g x σ H' fun σ2 H2 => tb { D with nx := N, ct := N, bk := D.nx } σ2 H2) := by
 refine ⟨fun i n σ H => n = xs.length - i ∧ i ≤ xs.length ∧ Pv i σ H, ⟨_, rfl, Nat.zero_le _, h0⟩, ?_⟩
 rintro i n σ H ⟨rfl, hi, p⟩
 have q1 := hl i σ H hi p
 by_cases hlt : i < xs.length
 ·refine .inr ⟨⟨xs, xs[i], q1, by simp [hlt]⟩, Pv (i + 1), fun σ' H' p' => ⟨xs.length - (i + 1), by lia, rfl, hlt, p'⟩, fun x H' y => ?_⟩
  obtain ⟨T, u, rfl, hT, rfl, y1⟩ := y
  exact hs i u σ H T (y1 xs q1) p hT
 ·have e : i = xs.length := by lia
  subst e
  exact .inl ⟨⟨xs, q1, Nat.le_refl _⟩, hd σ H p⟩
section
variable {prog : Program} {w : World} {A : Around} {E : Value → Shared → Prop} {s : Shared}
end
section
variable {X : Cx}
end
section
variable {P : Program} {w : World} {A : Around} {E : Value → Shared → Prop} {s : Shared}
end
section
variable {P : Program} {w : World} {A : Around} {E : Value → Shared → Prop} {s : Shared} {z u o i1 i2 l1 l2 : Addr} {st1 st2 : Nat → Heap → Prop} {src1 src2 : List Value → Heap → Prop} {k1 k2 : Nat} {xs ys : List Value}
end
section
variable {X : Cx} {pins : List (Addr × Obj)} {σ : St} {H : Hp} {s : Shared} {m1 m2 : Bool} {z u o i1 i2 a b : Addr} {i : Nat} {xs ys : List V} {E : Value → Shared → Prop} {A : Around}
end
section
variable {X : Cx}
end
def Itr3 (lo c : Int) (n : Nat) : It := ⟨fun i _ => i < n, fun i H x H' => H' = H ∧ x = .int (lo + (i : Nat) * c), fun i _ => n ≤ i⟩
theorem turn_range3 {P : Program} {w : World} {K : Fg} {tg : Expr} (it : Addr) (lo c : Int) (n : Nat) : Turn P w K tg (Itr3 lo c n) [it] it (fun i h => IsRangeIter h it (lo + (i : Nat) * c) ((n : Int) - (i : Nat)) c) where
 mem := by simp
 obj := fun i h st b hb => by
  have e : b = it := by simpa using hb
  subst e
  exact ⟨_, st, fun v z => by
   have z' : Data.fields _ = Data.cell v := z
   cases z'⟩
 keep := fun i h h' st k => k it (by simp) _ st
 item := by
  intro X hP hw hK hc i pins s σ H E I hf st hg
  subst hP hw hK
  obtain ⟨f0, f1, f2, f3, f4, f5⟩ := hf it (by simp)
  have W := Walks.range (prog := X.prog) (w := X.w) (I.ok.hd hc) it lo c n
  refine W.item i s _ _ hg st fun v h' tk hv st' kk => ?_
  obtain ⟨t, rfl⟩ := hv
  have I1 : Inv X pins σ H { s with heap := h', toks := tk } := I.turned (fun b o hb e => kk b o (by simpa using hb) e) f0 f1 f3 f4 f5
  exact ⟨_, rfl, go_of (s := { s with heap := h', toks := tk }) (n := "range_iterator") st' rfl rfl (by decide) ⟨.int (lo + (i : Nat) * c), H, I1, ⟨t, rfl⟩, ⟨rfl, rfl⟩, st', fun b hb => (hf b hb).1⟩⟩
 done := by
  intro X hP hw hK hc i pins s σ H E I hf st hg
  subst hP hw hK
  obtain ⟨f0, f1, f2, f3, f4, f5⟩ := hf it (by simp)
  exact wpAny_pyNext_range_end (I.ok.hd hc) st (by have : n ≤ i := hg; lia) fun h' eb => ⟨rfl, I.turned (t' := s.toks) (fun b o hb e => eb b o hb e) f0 f1 f3 f4 f5⟩
 self := fun _ _ _ _ _ st h => wpAny_pyIter_rangeiter st h
section
variable {X : Cx} {tg : Expr}
end
theorem for_range3 {lo c : Int} {n : Nat} {g : TG} {tb : TS} {D : Ends} {σ : St} {H : Hp} (Pv : Nat → St → Hp → Prop) (h0 : Pv 0 σ H)
  (hs : ∀ i σ H, i < n → Pv i σ H → g (.int (lo + (i : Nat) * c)) σ H fun σ2 H2 => tb { D with nx := Pv (i + 1), ct := Pv (i + 1), bk := D.nx } σ2 H2) (hd : ∀ σ H, Pv n σ H → D.nx σ H) :
  ∃ W : Nat → Nat → St → Hp → Prop, (∃ m, W 0 m σ H) ∧ ∀ i m σ H, W i m σ H →
   ((Itr3 lo c n).stop i H ∧ D.nx σ H) ∨ ((Itr3 lo c n).go i H ∧ ∃ N : St → Hp → Prop, (∀ σ' H', N σ' H' → ∃ m', m' < m ∧ W (i + 1) m' σ' H') ∧ ∀ x H', (Itr3 lo c n).yld i H x H' → g x σ H' fun σ2 H2 => tb { D with nx := N, ct := N, bk := D.nx } σ2 H2) := by
 refine ⟨fun i m σ H => m = n - i ∧ i ≤ n ∧ Pv i σ H, ⟨n, by simp, Nat.zero_le _, h0⟩, ?_⟩
 rintro i m σ H ⟨rfl, hi, p⟩
 by_cases hlt : i < n
 ·refine .inr ⟨hlt, Pv (i + 1), fun σ' H' p' => ⟨n - (i + 1), by lia, rfl, hlt, p'⟩, fun x H' y => ?_⟩
  obtain ⟨e, y⟩ := y
  subst e y
  exact hs i σ _ hlt p
 ·have e : i = n := by lia
  subst e
  exact .inl ⟨Nat.le_refl _, hd σ H p⟩
section
variable {X : Cx} {tg : Expr}
end
def gTrip (K : Fg) (i j l : Nat) : TG := gTup K 3 (gCons (gName i) (gCons (gName j) (gCons (gName l) gNil)))
theorem pg_trip {X : Cx} {K : Fg} {i j l : Nat} {x y z : Str} {px py pz pos : Pos} {k : Nat} (hK : X.K = K) (hc : X.calm = true) (hN : X.N.Nodup) (hi : X.N[i]? = some x) (hj : X.N[j]? = some y) (hl : X.N[l]? = some z) (hx : X.env.scope.names.lookup x = some .local) (hy : X.env.scope.names.lookup y = some .local) (hz : X.env.scope.names.lookup z = some .local) :
  PG X (.Tuple [.Name x px, .Name y py, .Name z pz] k pos) (gTrip K i j l) := by
 subst hK
 exact pg_tup hc (pgs_cons (pg_name hN hi (.inl hx) (.inr hx)) (pgs_cons (pg_name hN hj (.inl hy) (.inr hy)) (pgs_cons (pg_name hN hl (.inl hz) (.inr hz)) pgs_nil)))
end L2
namespace L2
open PySem PySem.Spec PyProof.Rows PySem.SeqAt
section
variable {X : Cx}
end
end L2
namespace L2
open PySem PySem.Spec PyProof.Rows PySem.SeqAt
theorem paired_get {α β : Type} {R : α → β → Prop} {xs : List α} {ys : List β} (h : Paired R xs ys) : ∀ {i : Nat} {x : α}, xs[i]? = some x → ∃ y, ys[i]? = some y ∧ R x y := by
 induction h with
 | nil => intro i x e; exact nomatch e
 | cons z _ ih =>
  intro i x e
  match i with
  | 0 => cases e; exact ⟨_, rfl, z⟩
  | i + 1 => exact ih (show _ = some x from e)
theorem kV_flat1 (k : Key) : flatV (kV k) = true := by cases k <;> rfl
theorem eqV_kV (a b : Key) : eqV (kV a) (kV b) = true ↔ a = b := by
 cases a with
 | inl i =>
  cases b with
  | inl j => show (i == j) = true ↔ _; rw [beq_iff_eq]; exact ⟨fun z => (by rw [z]), fun z => (by cases z; rfl)⟩
  | inr y => exact ⟨fun z => (nomatch z), fun z => (nomatch z)⟩
 | inr x =>
  cases b with
  | inl j => exact ⟨fun z => (nomatch z), fun z => (nomatch z)⟩
  | inr y => show (x == y) = true ↔ _; rw [beq_iff_eq]; exact ⟨fun z => (by rw [z]), fun z => (by cases z; rfl)⟩
def RowsL (H : Hp) : List V → List (List Key) → Prop := Paired fun v r => ∃ l, v = .ref l ∧ H l = some (.lst (r.map kV))
def PlanAt (K : Fg) (H : Hp) (d : Addr) (pl : List (Str × Str × Int)) : Prop := ∃ kvs : List (Key × V), H d = some (.dK kvs) ∧ Paired (fun (p : Key × V) (q : Str × Str × Int) => p.1 = Sum.inr q.1 ∧ ∃ t, p.2 = .ref t ∧ SqT K H t [.str q.2.1, .int q.2.2]) kvs pl
section
variable {X : Cx} {pins : List (Addr × Obj)} {σ : St} {H : Hp} {s : Shared}
theorem keys_at {A : Around} {ks ls : List Key} {its its' : List Value} (r : Vals (ks.map kV) its) (r' : Vals (ls.map kV) its') :
  ∀ j (h1 : j < its.toArray.size) (h2 : j < its'.toArray.size), EqAt A s its.toArray[j] its'.toArray[j] (decide (ks[j]? = ls[j]?)) := fun j h1 h2 => by
 have l1 := r.length
 have l2 := r'.length
 rw [List.length_map] at l1 l2
 rw [List.size_toArray] at h1 h2
 have j1 : j < ks.length := by lia
 have j2 : j < ls.length := by lia
 obtain ⟨u1, e1, ru1⟩ := r.get (i := j) (x := kV ks[j]) (by rw [List.getElem?_map, gE j1]; rfl)
 obtain ⟨u2, e2, ru2⟩ := r'.get (i := j) (x := kV ls[j]) (by rw [List.getElem?_map, gE j2]; rfl)
 have z1 : its.toArray[j] = u1 := by rw [gE (by lia)] at e1; simpa using e1
 have z2 : its'.toArray[j] = u2 := by rw [gE (by lia)] at e2; simpa using e2
 rw [z1, z2]
 have e : decide (ks[j]? = ls[j]?) = eqV (kV ks[j]) (kV ls[j]) := by
  rw [Bool.eq_iff_iff, decide_eq_true_iff, eqV_kV, gE j1, gE j2]
  exact ⟨fun z => Option.some.inj z, fun z => congrArg some z⟩
 rw [e]
 exact eqAt_V ru1 ru2 (kV_flat1 _) (kV_flat1 _)
theorem eqAt_keys {A : Around} {a b : Addr} {ks ls : List Key} (hu : A.units < cLine) (I : Inv X pins σ H s) (h1 : SqL X.K H a (ks.map kV)) (h2 : SqL X.K H b (ls.map kV)) :
  ∃ c : Bool, (c = true ↔ ks = ls) ∧ EqAt A s (.ref a) (.ref b) c ∧ RcAt A s (.ref a) (.ref b) c ∧ RcNeAt A s (.ref a) (.ref b) (!c) := by
 obtain ⟨its, r, pt, _⟩ := I.list h1
 obtain ⟨its', r', pt', _⟩ := I.list h2
 have l1 := r.length
 have l2 := r'.length
 rw [List.length_map] at l1 l2
 have key := keys_at (A := A.in1) (s := s) r r'
 have inj : a = b → ks = ls := fun z => by
  subst z
  have := I.list_inj h1 h2
  refine ext_all (by rw [← List.length_map (f := kV), this, List.length_map]) fun i x y ex ey => ?_
  have e5 : (ks.map kV)[i]? = (ls.map kV)[i]? := by rw [this]
  rw [List.getElem?_map, List.getElem?_map, ex, ey] at e5
  have e6 : kV x = kV y := Option.some.inj e5
  exact (eqV_kV x y).mp (by
   rw [e6]
   exact (eqV_kV y y).mpr rfl)
 by_cases hsz : its.toArray.size = its'.toArray.size
 ·have hb : ((List.range its.toArray.size).all (fun j => decide (ks[j]? = ls[j]?))) = true ↔ ks = ls := by
   rw [List.size_toArray, List.size_toArray] at hsz
   rw [allRange, List.size_toArray]
   constructor
   ·intro z1
    refine ext_all (by lia) fun i x y ex ey => ?_
    have hi := (List.getElem?_eq_some_iff.mp ex).1
    have := of_decide_eq_true (z1 i (by lia))
    rw [ex, ey] at this
    exact Option.some.inj this
   ·intro z
    subst z
    exact fun i _ => decide_eq_true rfl
  refine ⟨_, hb, ?_, RcAt.lists pt.isList pt'.isList hsz hu key, RcNeAt.lists pt.isList pt'.isList hsz hu key⟩
  by_cases hpq : a = b
  ·rw [hb.mpr (inj hpq)]
   subst hpq
   exact EqAt.same _
  ·exact EqAt.of_refs hpq (RcAt.lists pt.isList pt'.isList hsz hu key)
 ·have hne : (its.toArray.size != its'.toArray.size) = true := by simpa using hsz
  rw [List.size_toArray, List.size_toArray] at hsz
  have hb : false = true ↔ ks = ls := ⟨fun z => (nomatch z), fun z => (by subst z; lia)⟩
  refine ⟨false, hb, ?_, RcAt.lists_lengths pt.isList pt'.isList hne hu, RcNeAt.lists_lengths pt.isList pt'.isList hne hu⟩
  by_cases hpq : a = b
  ·exact absurd (hb.mpr (inj hpq)) (by decide)
  ·exact EqAt.of_refs hpq (RcAt.lists_lengths pt.isList pt'.isList hne hu)
inductive Cop_eqK (K : Fg) (x : V) (y : V) (H : Hp) (Q : VK) : Prop
 | mk (a b : Addr) (ks ls : List Key) (h1 : x = .ref a) (h2 : y = .ref b) (h3 : SqL K H a (ks.map kV)) (h4 : SqL K H b (ls.map kV)) (h5 : ∀ c : Bool, (c = true ↔ ks = ls) → Q (.bl c) H)
theorem op_eqK {K : Fg} {n : Nat} (hK : X.K = K) (hu : X.A.units + n < cLine) : OpR X (compareOp .Eq) (fun x y H Q => Cop_eqK K x y H Q) := by
 subst hK
 intro pins s σ H x y v u Q I rx ry h
 obtain ⟨a, b, ks, ls, rfl, rfl, h1, h2, q⟩ := h
 cases rx
 cases ry
 obtain ⟨c, hc, _, hr, _⟩ := eqAt_keys (A := X.A) (by lia) I h1 h2
 exact hr _ _ _ _ ⟨.bl c, H, I, rfl, q c hc⟩
theorem nil_at {A : Around} {a b : Addr} {xs : List V} (hu : A.units < cLine) (I : Inv X pins σ H s) (h1 : SqL X.K H a xs) (h2 : SqL X.K H b []) : RcAt A s (.ref a) (.ref b) xs.isEmpty ∧ RcNeAt A s (.ref a) (.ref b) (!xs.isEmpty) := by
 obtain ⟨its, r, pt, _⟩ := I.list h1
 obtain ⟨its', r', pt', _⟩ := I.list h2
 have l1 := r.length
 have l2 := r'.length
 cases xs with
 | nil =>
  have e1 : its = [] := List.eq_nil_of_length_eq_zero l1.symm
  have e2 : its' = [] := List.eq_nil_of_length_eq_zero l2.symm
  subst e1 e2
  have key : ∀ j (h1 : j < ([] : List Value).toArray.size) (h2 : j < ([] : List Value).toArray.size), EqAt A.in1 s ([] : List Value).toArray[j] ([] : List Value).toArray[j] ((fun _ => true) j) := fun j h1 _ => absurd h1 (by simp)
  exact ⟨RcAt.lists pt.isList pt'.isList rfl hu key, RcNeAt.lists pt.isList pt'.isList rfl hu key⟩
 | cons x xs =>
  have hne : (its.toArray.size != its'.toArray.size) = true := by
   rw [List.size_toArray, List.size_toArray, ← l1, ← l2]
   simp
  exact ⟨RcAt.lists_lengths pt.isList pt'.isList hne hu, RcNeAt.lists_lengths pt.isList pt'.isList hne hu⟩
inductive Cop_neNil (K : Fg) (x : V) (y : V) (H : Hp) (Q : VK) : Prop
 | mk (a b : Addr) (xs : List V) (h1 : x = .ref a) (h2 : y = .ref b) (h3 : SqL K H a xs) (h4 : SqL K H b []) (h5 : Q (.bl (!xs.isEmpty)) H)
theorem op_neNil {K : Fg} {n : Nat} (hK : X.K = K) (hu : X.A.units + n < cLine) : OpR X (compareOp .NotEq) (fun x y H Q => Cop_neNil K x y H Q) := by
 subst hK
 intro pins s σ H x y v u Q I rx ry h
 obtain ⟨a, b, xs, rfl, rfl, h1, h2, q⟩ := h
 cases rx
 cases ry
 exact (nil_at (A := X.A) (by lia) I h1 h2).2 _ _ _ _ ⟨.bl _, H, I, rfl, q⟩
theorem all_tt (n : Nat) : (List.range n).all (fun _ => true) = true := by simp
theorem eqAt_book {A : Around} {a b : Addr} {us vs : List V} {bk : List (List Key)} (hu : A.units + 1 < cLine) (I : Inv X pins σ H s) (h1 : SqL X.K H a us) (h2 : SqL X.K H b vs) (r1 : RowsL H us bk) (r2 : RowsL H vs bk) : EqAt A s (.ref a) (.ref b) true := by
 by_cases hpq : a = b
 ·subst hpq
  exact EqAt.same _
 obtain ⟨its, r, pt, _⟩ := I.list h1
 obtain ⟨its', r', pt', _⟩ := I.list h2
 have l1 := r.length
 have l2 := r'.length
 have l3 := Paired.length r1
 have l4 := Paired.length r2
 have key : ∀ j (h1 : j < its.toArray.size) (h2 : j < its'.toArray.size), EqAt A.in1 s its.toArray[j] its'.toArray[j] ((fun _ => true) j) := fun j h1 h2 => by
  rw [List.size_toArray] at h1 h2
  have j1 : j < us.length := by lia
  have j2 : j < vs.length := by lia
  obtain ⟨u1, e1, ru1⟩ := r.get (gE j1)
  obtain ⟨u2, e2, ru2⟩ := r'.get (gE j2)
  obtain ⟨q1, e3, m1, f1, g1⟩ := paired_get r1 (gE j1)
  obtain ⟨q2, e4, m2, f2, g2⟩ := paired_get r2 (gE j2)
  have e5 : q1 = q2 := Option.some.inj (e3.symm.trans e4)
  subst e5
  rw [f1] at ru1
  rw [f2] at ru2
  cases ru1
  cases ru2
  have z1 : its.toArray[j] = .ref m1 := by rw [gE (by lia)] at e1; simpa using e1
  have z2 : its'.toArray[j] = .ref m2 := by rw [gE (by lia)] at e2; simpa using e2
  rw [z1, z2]
  obtain ⟨c, hc, he, _⟩ := eqAt_keys (A := A.in1) (by show A.units + 1 < cLine; exact hu) I (.of g1) (.of g2)
  rw [hc.mpr rfl] at he
  exact he
 have := RcAt.lists pt.isList pt'.isList (by rw [List.size_toArray, List.size_toArray]; lia) (by lia) key
 rw [all_tt] at this
 exact EqAt.of_refs hpq this
theorem eqAt_tupK {A : Around} {a b : Addr} {ks : List Key} (hu : A.units < cLine) (I : Inv X pins σ H s) (h1 : SqT X.K H a (ks.map kV)) (h2 : SqT X.K H b (ks.map kV)) : EqAt A s (.ref a) (.ref b) true := by
 by_cases hpq : a = b
 ·subst hpq
  exact EqAt.same _
 obtain ⟨its, r, pt, _⟩ := I.tuple h1
 obtain ⟨its', r', pt', _⟩ := I.tuple h2
 have l1 := r.length
 have l2 := r'.length
 have key := keys_at (A := A.in1) (s := s) r r'
 have := RcAt.tuples pt pt' hu key
 have e : ((List.range (min its.toArray.size its'.toArray.size)).all (fun j => decide (ks[j]? = ks[j]?)) && its.toArray.size == its'.toArray.size) = true := by
  rw [Bool.and_eq_true, allRange, List.size_toArray, List.size_toArray, beq_iff_eq]
  exact ⟨fun i _ => decide_eq_true rfl, by lia⟩
 rw [e] at this
 exact EqAt.of_refs hpq this
theorem val_at {κ : Type} [DecidableEq κ] : ∀ {kvs : List (κ × V)} {i : Nat} {k : κ} {v : V}, (kvs.map (·.1)).Nodup → kvs[i]? = some (k, v) → valV kvs k = some v
 | [], i, k, v, _, e => nomatch e
 | p :: r, 0, k, v, _, e => by
  cases e
  unfold valV
  rw [List.find?_cons_of_pos (by simp)]
  rfl
 | p :: r, i + 1, k, v, n, e => by
  have n' : (p.1 :: r.map (·.1)).Nodup := n
  obtain ⟨n1, n2⟩ := List.nodup_cons.mp n'
  have e' : r[i]? = some (k, v) := e
  have ne : ¬ p.1 = k := fun z => n1 (by rw [z]; exact List.mem_map.mpr ⟨(k, v), List.mem_of_getElem? e', rfl⟩)
  have := val_at n2 e'
  unfold valV at this ⊢
  rw [List.find?_cons_of_neg (by simpa using ne)]
  exact this
theorem kv_keys {kvs : List (Key × V)} {vs : List (Key × Value)} (h : KV kvs vs) : kvs.map (·.1) = vs.map (·.1) := by
 induction h with
 | nil => rfl
 | cons h _ ih => rw [List.map_cons, List.map_cons, ih, h.1]
def EqW (prog : Program) (w : World) (A : Around) (s : Shared) (y x : Value) (b : Bool) : Prop := ∀ (E : Value → Shared → Prop) (Q : Bool → Shared → Prop), Q b s → wpAny (model prog w) A (eqBool y x) Q E s
theorem eqW_refs {prog : Program} {w : World} {A : Around} {l b : Addr} {k : Bool} (hne : l ≠ b) (h : ∀ (E : Value → Shared → Prop) (Q : Value → Shared → Prop), Q (.bool k) s → wpAny (model prog w) A (richCompare .Eq (.ref l) (.ref b)) Q E s) : EqW prog w A s (.ref l) (.ref b) k := fun E Q hq => by
 unfold eqBool
 try with_reducible refine wpAny_holding ?_
 show wpAny _ _ (if (Value.ref l == Value.ref b) = true then _ else _) Q E s
 rw [if_neg (fun z => hne (by have := eq_of_beq z; injection this))]
 exact wpAny_bind (h _ _ (wpAny_truthy_bool hq))
open PySem.MeetsSeq PySem.MeetsSeq2 PySem.MeetsSeq3 in
open AutoSeq1 (wpAny_loadPart') in
theorem ne_loopW {prog : Program} {w : World} (l b : Addr) (items items2 : Array Value) (n n2 : Nat) (dd dd2 : Option Addr) (sl sl2 : Array (Option Value)) (hsz : items.size = items2.size) (k : Nat) :
  ∀ i : Nat, items.size - i = k → MeetsIn prog w (Builtin.«list.__eq__.loop» ⟨[.ref l, .ref b, rawInt i, rawInt 3], []⟩)
   (fun A R s => s.heap.get? l = some { cls := .type "list", dict := dd, data := .seq items n, slots := sl } ∧ s.heap.get? b = some { cls := .type "list", dict := dd2, data := .seq items2 n2, slots := sl2 } ∧
    (∀ j (h1 : j < items.size) (h2 : j < items2.size), EqW prog w A.in1 s items[j] items2[j] true) ∧ R (.ok (.ret (.bool false))) s) := by
 induction k with
 | zero =>
  intro i hk A R s h
  obtain ⟨hp, g, d, tk, os⟩ := s; obtain ⟨hl, hb, he, h⟩ := h
  wp_walk using wpAny_loadPart' hl, wpAny_loadPart' hb
  have hi1 : items[((i : Nat) : Int).toNat]? = none := by simp; lia
  have hi2 : items2[((i : Nat) : Int).toNat]? = none := by simp; lia
  rw [hi1, hi2]
  wp_walk using wpAny_loadPart' hl, wpAny_loadPart' hb
  show R (.ok (.ret (.bool (items.size != items2.size)))) _
  rw [hsz]
  simpa using h
 | succ k ih =>
  intro i hk A R s h
  obtain ⟨hp, g, d, tk, os⟩ := s; obtain ⟨hl, hb, he, h⟩ := h
  wp_walk using wpAny_loadPart' hl, wpAny_loadPart' hb
  have hlt : i < items.size := by lia
  have hlt2 : i < items2.size := by lia
  have hi1 : items[((i : Nat) : Int).toNat]? = some items[i] := by simp [hlt]
  have hi2 : items2[((i : Nat) : Int).toNat]? = some items2[i] := by simp [hlt2]
  have hc : ((i : Int) + 1) = ((i + 1 : Nat) : Int) := by push_cast; rfl
  rw [hi1, hi2]
  refine wpAny_bind (he i hlt hlt2 _ _ ?_)
  wp_walk
  rw [hc]
  exact ⟨plainId_quiet plain_eq_loop _, codeAny_builtin entry_eq_loop (by
   rw [Around.under_plainId plain_eq_loop _]
   exact ih (i + 1) (by lia) A R _ ⟨hl, hb, he, h⟩)⟩
open PySem.MeetsSeq PySem.MeetsSeq2 PySem.MeetsSeq3 in
open AutoSeq1 (wpAny_loadPart') in
theorem list_neW {prog : Program} {w : World} (l b : Addr) (items items2 : Array Value) (n n2 : Nat) (dd dd2 : Option Addr) (sl sl2 : Array (Option Value)) (hsz : items.size = items2.size) :
  MeetsIn prog w (Builtin.«list.__ne__» ⟨[.ref l, .ref b], []⟩)
   (fun A R s => s.heap.get? l = some { cls := .type "list", dict := dd, data := .seq items n, slots := sl } ∧ s.heap.get? b = some { cls := .type "list", dict := dd2, data := .seq items2 n2, slots := sl2 } ∧
    (∀ j (h1 : j < items.size) (h2 : j < items2.size), EqW prog w A.in1 s items[j] items2[j] true) ∧ R (.ok (.ret (.bool false))) s) := by
 intro A R s h
 obtain ⟨hp, g, d, tk, os⟩ := s; obtain ⟨hl, hb, he, h⟩ := h
 have f3 := AutoSeq1.sub_list_list
 have hne : ¬ (items.size != items2.size) = true := by simp [hsz]
 wp_walk using wpAny_loadPart' hl, wpAny_loadPart' hb
 exact ⟨plainId_quiet plain_eq_loop _, codeAny_builtin entry_eq_loop (by
  rw [Around.under_plainId plain_eq_loop _]
  exact ne_loopW l b items items2 n n2 dd dd2 sl sl2 hsz _ 0 rfl A R _ ⟨hl, hb, he, h⟩)⟩
theorem eqAt_plan {A : Around} {a b : Addr} {pl : List (Str × Str × Int)} (hu : A.units + 1 < cLine) (I : Inv X pins σ H s) (h1 : PlanAt X.K H a pl) (h2 : PlanAt X.K H b pl) : EqW X.prog X.w A s (.ref a) (.ref b) true := by
 by_cases hpq : a = b
 ·subst hpq
  exact fun E Q hq => EqAt.same _ _ _ _ _ hq
 obtain ⟨kvs, e1, p1⟩ := h1
 obtain ⟨kvs', e2, p2⟩ := h2
 obtain ⟨z1, hd1, vs1, rel1, dd1⟩ := dk_of I.hok e1
 obtain ⟨z2, hd2, vs2, rel2, dd2⟩ := dk_of I.hok e2
 have nd2 : (kvs'.map (·.1)).Nodup := by
  obtain ⟨_, _, _, _, _, _, _, _, n⟩ := id dd2
  rw [kv_keys rel2]; exact n
 have l1 := Paired.length p1
 have l2 := Paired.length p2
 have l3 := rel1.length
 have l4 := rel2.length
 have hits : ∀ i, i ≤ vs1.length → PySem.W.KeqHits A.in1 s vs2 (vs1.drop i) true := by
  intro i hi
  obtain ⟨n, hn⟩ : ∃ n, vs1.length - i = n := ⟨_, rfl⟩
  induction n generalizing i with
  | zero => rw [List.drop_of_length_le (by lia)]; exact .nil
  | succ n ih =>
   have j1 : i < vs1.length := by lia
   rw [List.drop_eq_getElem_cons j1]
   obtain ⟨q, eq, hq⟩ := paired_get rel1 (i := i) (x := kvs[i]'(by lia)) (gE _)
   obtain ⟨m1, em1, f1, t1, g1, k1⟩ := paired_get p1 (i := i) (x := kvs[i]'(by lia)) (gE _)
   obtain ⟨m2, em2, f2, t2, g2, k2⟩ := paired_get p2 (i := i) (x := kvs'[i]'(by lia)) (gE _)
   have em : m1 = m2 := Option.some.inj (em1.symm.trans em2)
   subst em
   have eq' : vs1[i] = q := by rw [gE j1] at eq; exact Option.some.inj eq
   have ev : valV kvs' (Sum.inr m1.1) = some (.ref t2) := val_at (i := i) nd2 (by
    rw [gE (by lia)]
    exact congrArg some (Prod.ext f2 g2))
   obtain ⟨y, hy, ry⟩ := RelO.some_of (v := .ref t2) (o := valueAt vs2 (Sum.inr m1.1)) (by rw [← ev]; exact rel2.val _)
   cases ry
   have er : q.2 = .ref t1 := by
    have h5 := hq.2
    rw [g1] at h5
    exact (show q.2 = Value.ref t1 from h5)
   rw [eq']
   obtain ⟨qk, qv⟩ := q
   have ek : qk = Sum.inr m1.1 := hq.1.symm.trans f1
   have er' : qv = .ref t1 := er
   subst ek er'
   exact PySem.W.KeqHits.hit (e := true) (b := true) hy (eqAt_tupK (ks := [Sum.inr m1.2.1, Sum.inl m1.2.2]) (by show A.units + 1 < cLine; exact hu) I k1 k2) (ih (i + 1) (by lia) (by lia))
 have h0 := hits 0 (Nat.zero_le _)
 rw [List.drop_zero] at h0
 intro E Q hq
 show wpAny _ _ (eqBool (.ref a) (.ref b)) _ _ _
 exact eqW_refs hpq (fun E Q hq => PySem.W.keq_eq (knd := mixKind X.prog X.w) hd1 hd2 dd1 dd2 (by lia) (fun _ => h0) (by
  have e5 : (vs1.length == vs2.length && true) = true := by rw [Bool.and_true, beq_iff_eq]; lia
  rw [e5]
  exact hq)) E Q hq
inductive Cop_neBP (KX : Fg) (x : V) (y : V) (H : Hp) (Q : VK) : Prop
 | mk (a b l1 l2 d1 d2 : Addr) (us vs : List V) (bk : List (List Key)) (pl : List (Str × Str × Int)) (h1 : x = .ref a) (h2 : y = .ref b) (h3 : SqL KX H a [.ref l1, .ref d1]) (h4 : SqL KX H b [.ref l2, .ref d2]) (h5 : SqL KX H l1 us) (h6 : RowsL H us bk) (h7 : SqL KX H l2 vs) (h8 : RowsL H vs bk) (h9 : PlanAt KX H d1 pl) (h10 : PlanAt KX H d2 pl) (h11 : Q (.bl false) H)
theorem op_neBP {n : Nat} (hn : 3 ≤ n) (hu : X.A.units + n < cLine) : OpR X (compareOp .NotEq) (fun x y H Q => Cop_neBP X.K x y H Q) := by
 intro pins s σ H x y v u Q I rx ry h
 obtain ⟨a, b, l1, l2, d1, d2, us, vs, bk, pl, rfl, rfl, h1, h2, h3, h4, h5, h6, h7, h8, q⟩ := h
 cases rx
 cases ry
 obtain ⟨its, r, pt, _⟩ := I.list h1
 obtain ⟨its', r', pt', _⟩ := I.list h2
 obtain ⟨u1, u2, rfl, ru1, ru2⟩ := r.two
 obtain ⟨w1, w2, rfl, rw1, rw2⟩ := r'.two
 cases ru1
 cases ru2
 cases rw1
 cases rw2
 have k0 : EqAt X.A.in1 s (.ref l1) (.ref l2) true := eqAt_book (A := X.A.in1) (by show X.A.units + 1 + 1 < cLine; lia) I h3 h5 h4 h6
 have k1 : EqW X.prog X.w X.A.in1 s (.ref d1) (.ref d2) true := eqAt_plan (A := X.A.in1) (by show X.A.units + 1 + 1 < cLine; lia) I h7 h8
 have key : ∀ j (h1 : j < [Value.ref l1, .ref d1].toArray.size) (h2 : j < [Value.ref l2, .ref d2].toArray.size), EqW X.prog X.w X.A.in1 s [Value.ref l1, .ref d1].toArray[j] [Value.ref l2, .ref d2].toArray[j] true := fun j h1 h2 => by
  match j, h1 with
  | 0, _ => exact fun E Q hq => k0 _ _ E Q hq
  | 1, _ => exact k1
  | j + 2, h1 => exact absurd h1 (by simp)
 obtain ⟨⟨cls, dd, data, sl⟩, ho, hc, m1, hd⟩ := id pt.isList
 obtain ⟨⟨cls2, dd2, data2, sl2⟩, ho2, hc2, m2, hd2⟩ := id pt'.isList
 simp only at hc hd hc2 hd2
 subst hc hd hc2 hd2
 exact wpAny_richCompare_same_room (op := .NotEq) ⟨_, ho, rfl⟩ ⟨_, ho2, rfl⟩ F.slot_list_ne (call_meetsIn F.slot_list_ne ⟨_, ho, rfl⟩ F.entry_list_ne (F.args_list_ne_2 _ _) (list_neW a b [Value.ref l1, .ref d1].toArray [Value.ref l2, .ref d2].toArray m1 m2 dd dd2 sl sl2 rfl)
  ⟨ho, ho2, key, ⟨(fun x => nomatch x), ⟨.bl false, H, I, rfl, q⟩⟩⟩) (by lia)
end
def PairsT (K : Fg) (H : Hp) : List V → List (List Key × V) → Prop := Paired fun v p => ∃ t b, v = .ref t ∧ SqT K H t [.ref b, p.2] ∧ H b = some (.tup (p.1.map kV))
def dictOfT (ps : List (List Key × V)) : List (List Key × V) := ps.foldl (fun d p => putK d p.1 p.2) []
theorem dictOfT_snoc {ps : List (List Key × V)} {i : Nat} {p : List Key × V} (h : ps[i]? = some p) : dictOfT (ps.take (i + 1)) = putK (dictOfT (ps.take i)) p.1 p.2 := by
 unfold dictOfT
 rw [List.take_add_one, h, List.foldl_append]
 rfl
theorem dictOfT_len (ps : List (List Key × V)) : (dictOfT ps).length ≤ ps.length := by
 have key : ∀ (l : List (List Key × V)) (acc : List (List Key × V)), (l.foldl (fun d p => putK d p.1 p.2) acc).length ≤ acc.length + l.length := by
  intro l
  induction l with
  | nil => intro acc; exact Nat.le_refl _
  | cons p t ih =>
   intro acc
   have h1 := ih (putK acc p.1 p.2)
   have h2 := length_putK acc p.1 p.2
   rw [List.foldl_cons, List.length_cons]
   lia
 have := key ps []
 rwa [List.length_nil, Nat.zero_add] at this
section
variable {X : Cx}
theorem upd_loopT {pins : List (Addr × Obj)} {σ : St} {H : Hp} {d it l : Addr} {vs : List V} {ps : List (List Key × V)} {A : Around} {R : Result → Shared → Prop} (hh : A.handled = none) (hu : A.units + 1 < cLine) (hd : H d = none) (hl : SqL X.K H l vs) (hp : PairsT X.K H vs ps) (hz : ps.length < sizeLine)
  (hR : ∀ s', Inv X pins σ (upd H d (.dT (dictOfT ps))) s' → R (.ok (.ret .none)) s') :
  ∀ (k i : Nat) (s : Shared), ps.length - i = k → i ≤ ps.length → Inv X pins σ (upd H d (.dT (dictOfT (ps.take i)))) s → s.heap.IsListIter it l i → FpOk X pins (upd H d (.dT (dictOfT (ps.take i)))) it →
   codeAny (model X.prog X.w) A (.builtin "dict.update.loop" ⟨[.ref d, .ref it, rawInt i, .none], []⟩) R s := by
 intro k
 induction k with
 | zero =>
  intro i s hk hi I st f
  have ei : i = ps.length := by lia
  subst ei
  rw [List.take_length] at I f
  have sm : Same H (upd H d (.dT (dictOfT ps))) := same_new' hd _
  obtain ⟨its, r, p, _⟩ := I.list (sm.seq hl)
  have lv := Paired.length hp
  have lr := r.length
  refine codeAny_builtin entry_dul ?_
  rw [Around.under_plainId plain_dul _]
  show wpAny _ A.in1 (pyNext (.ref it) >>= _) _ _ s
  refine wpAny_bind (wpAny_pyNext_list_end (A := A.in1) hh st p.isList (by simp; lia) fun h' eb => ?_)
  refine wpAny_bind (wpAny_pure (wpAny_pure ?_))
  exact hR _ (I.turned (t' := s.toks) (fun b o hb e => eb b o hb e) f.1 f.2.1 f.2.2.2.1 f.2.2.2.2.1 f.2.2.2.2.2)
 | succ k ih =>
  intro i s hk hi I st f
  have sm : Same H (upd H d (.dT (dictOfT (ps.take i)))) := same_new' hd _
  obtain ⟨its, r, p, _⟩ := I.list (sm.seq hl)
  have lv := Paired.length hp
  have hlt : i < vs.length := by lia
  obtain ⟨pr, ep, t, b, ev, hT, hb⟩ := paired_get hp (gE hlt)
  obtain ⟨u, hu', ru⟩ := r.get (gE hlt)
  rw [ev] at ru
  cases ru
  refine codeAny_builtin entry_dul ?_
  rw [Around.under_plainId plain_dul _]
  show wpAny _ A.in1 (pyNext (.ref it) >>= _) _ _ s
  refine wpAny_bind (wpAny_pyNext_list_item st p.isList (x := .ref t) (by simpa using hu') fun h' st' sb => ?_)
  have I1 : Inv X pins σ (upd H d (.dT (dictOfT (ps.take i)))) { s with heap := h' } := I.turned (t' := s.toks) (fun b o hb e => (sb.2 b hb).trans e) f.1 f.2.1 f.2.2.2.1 f.2.2.2.2.1 f.2.2.2.2.2
  obtain ⟨its2, r2, ⟨ot, gt, ct, nt, dt⟩, _⟩ := I1.tuple (sm.tup hT)
  obtain ⟨u1, u2, rfl, ru1, ru2⟩ := r2.two
  cases ru1
  refine wpAny_bind (wpAny_holding ?_)
  refine wpAny_bind (wpAny_tryCatch ?_)
  unfold Builtin.Dict.pairItems
  refine wpAny_bind (wpAny_typeOf (T := "tuple") ⟨ot, gt, ct⟩ ?_)
  rw [if_pos (by simp)]
  refine wpAny_bind (wpAny_seqItems gt dt (wpAny_pure ?_))
  show wpAny _ _ (holding [Value.ref b, u2] (dictSet d (Value.ref b) u2)) _ _ _
  obtain ⟨z, hdS, xs, rel, dd⟩ := dt_of I1.hok (upd_same (H := H) (a := d) (o := .dT (dictOfT (ps.take i))))
  have l1 := dictOfT_len (ps.take i)
  rw [List.length_take] at l1
  have hz2 : xs.length ≤ sizeLine := by rw [← Paired.length rel]; exact z
  have eb := sm _ _ hb
  refine wpAny_holding (wpAny_dictSet_heap (hsz := hz2) (knd := tupleKind (mixKind X.prog X.w)) (k := pr.1) (by first | exact hu | exact Nat.lt_of_succ_lt hu | (show A.units + 1 < cLine; exact hu)) (key_of I1.hok eb) dd fun h2 dd' hs2 => ?_)
  obtain ⟨q, es, ep5, hq, q2, q3, q4, _, q5⟩ := dd'
  have l2 := length_putK (dictOfT (ps.take i)) pr.1 pr.2
  have I2 : Inv X pins σ (upd (upd H d (.dT (dictOfT (ps.take i)))) d (.dT (putK (dictOfT (ps.take i)) pr.1 pr.2))) { s with heap := h2, toks := s.toks + (tupleKind (mixKind X.prog X.w)).draws pr.1 } :=
   d_write (s := { s with heap := h' }) I1 (by rw [upd_same]; exact True.intro) hs2 ⟨q, hq⟩ ⟨by lia, hdS, _, (rel.put pr.1 eb ru2).keeps fun c ys ec => (by
    rw [upd_ne (ne_of ec (upd_same (H := H) (a := d) (o := .dT (dictOfT (ps.take i)))) (fun z => nomatch z))]
    exact ec), q, es, ep5, hq, q2, q3, q4, q5⟩
  rw [upd_upd, ← dictOfT_snoc ep] at I2
  have nit : it ≠ d := fun e => by have := f.1; rw [e, upd_same] at this; cases this
  refine wpAny_pure ⟨plainId_quiet plain_dul _, ?_⟩
  have ei : rawInt ((i : Int) + 1) = rawInt ((i + 1 : Nat) : Int) := by push_cast; rfl
  rw [ei]
  refine ih (i + 1) _ (by lia) (by lia) I2 (st'.at fun o e => hs2.extBut _ _ nit e) ⟨?_, f.2⟩
  have := f.1
  rw [upd_ne nit] at this ⊢
  exact this
inductive Ccall_dict_ofT (KX : Fg) (xs : List V) (H : Hp) (Q : VK) : Prop
 | mk (l : Addr) (vs : List V) (ps : List (List Key × V)) (h1 : xs = [.ref l]) (h2 : SqL KX H l vs) (h3 : PairsT KX H vs ps) (h4 : ps.length < sizeLine) (h5 : ∀ d, H d = none → Q (.ref d) (upd H d (.dT (dictOfT ps))))
theorem call_dict_ofT {n : Nat} (hn : 2 ≤ n) (hu : X.A.units + n < cLine) (hc : X.calm = true) : CallR X (.type "dict") (fun xs H Q => Ccall_dict_ofT X.K xs H Q) := by
 intro pins s σ H xs us Q I rv h
 obtain ⟨l, vs, ps, rfl, hl, hp, hz, q⟩ := h
 obtain ⟨u, rfl, ru⟩ := rv.one
 cases ru
 refine callType_codes (Q₁ := fun obj s1 => obj = .ref s.heap.objs.size ∧ s1 = { s with heap := s.heap.push { cls := .type "dict", data := .dict #[] } }) F.kt_called_dict (F.kt_typeCall_dict_1 _) F.entry_dict_init (kt_code_dict_new _ ⟨rfl, rfl⟩) ?_
 rintro obj s1 ⟨rfl, rfl⟩
 have hd : H s.heap.objs.size = none := I.hok.fresh (Nat.le_refl _)
 have I1 : Inv X pins σ (upd H s.heap.objs.size (.dT [])) { s with heap := s.heap.push { cls := .type "dict", data := .dict #[] } } := I.laid (t' := s.toks) (fun _ _ q => Heap.get?_push_of_some _ q) (Nat.le_refl _) (dt_empty s.heap I.big)
 have sm : Same H (upd H s.heap.objs.size (.dT [])) := same_new' hd _
 obtain ⟨z, hdS, kv, rel, dd⟩ := dt_of I1.hok (upd_same (H := H) (a := s.heap.objs.size) (o := .dT []))
 refine ⟨dd.typeIs, F.args_dict_init_2 _ _, ?_⟩
 unfold Builtin.«dict.__init__»
 refine wpAny_bind ?_
 unfold Builtin.Dict.selfAndRest
 refine wpAny_bind (wpAny_notOrdered_dict dd.typeIs ?_)
 show wpAny _ _ (pure (s.heap.objs.size, [Value.ref l])) _ _ _
 refine wpAny_pure ?_
 show wpAny _ _ (Builtin.Dict.updateFrom "dict.__init__" s.heap.objs.size (.ref l) [] .none) _ _ _
 unfold Builtin.Dict.updateFrom
 obtain ⟨its, r, ⟨o, n5, e, c, dn, sl⟩, _⟩ := I1.list (sm.seq hl)
 obtain ⟨cls, dct, dat, sls⟩ := o
 simp only at c dn sl
 subst c dn sl
 refine wpAny_bind (wpAny_typeOf (T := "list") ⟨_, e, rfl⟩ ?_)
 rw [if_pos (by decide)]
 refine wpAny_bind (getAttrQ_keys (s := { s with heap := s.heap.push { cls := .type "dict", data := .dict #[] } }) e (by exact I.ok.hd hc) fun h2 tk2 hk2 => ?_)
 have I2 : Inv X pins σ (upd H s.heap.objs.size (.dT [])) { s with heap := h2, toks := tk2 } := I1.kept hk2
 rw [if_pos (by rfl)]
 refine wpAny_bind (wpAny_rule (wpAny_bind ?_))
 obtain ⟨its2, r2, p2, _⟩ := I2.list (sm.seq hl)
 refine wpAny_pyIter_list (s := { s with heap := h2, toks := tk2 }) p2.isList ?_
 refine wpAny_pure ⟨plainId_quiet plain_dul _, ?_⟩
 have I3 : Inv X pins σ (upd H s.heap.objs.size (.dT [])) { s with heap := h2.push { cls := .type "list_iterator", data := .fields #[.ref l, .int 0 0] }, toks := tk2 } := I2.kept (t' := tk2) fun b o e => Heap.get?_push_of_some _ e
 have hfr := I2.hok.fresh (a := h2.objs.size) (Nat.le_refl _)
 refine upd_loopT (X := X) (pins := pins) (σ := σ) (H := H) (vs := vs) (ps := ps) (A := X.A.in1) (by exact I.ok.hd hc) (by show X.A.units + 1 + 1 < cLine; lia) hd hl hp hz (fun s' I' => ⟨rfl, .ref s.heap.objs.size, _, I', rfl, q _ hd⟩) ps.length 0 _ (by lia) (Nat.zero_le _) I3 ⟨_, Heap.get?_push_size _ rfl, rfl, rfl⟩ (I2.fpOk (Nat.le_refl _) hfr)
inductive Ccall_dictD (xs : List V) (H : Hp) (Q : VK) : Prop
 | mk (a : Addr) (kvs : List (Key × V)) (h1 : xs = [.ref a]) (h2 : H a = some (.dK kvs)) (h3 : kvs.length < sizeLine) (h4 : ∀ d, H d = none → Q (.ref d) (upd H d (.dK kvs)))
theorem call_dictD : CallR X (.type "dict") (fun xs H Q => Ccall_dictD xs H Q) := by
 intro pins s σ H xs us Q I rv h
 obtain ⟨a, kvs, rfl, ha, hz, q⟩ := h
 obtain ⟨u, rfl, ru⟩ := rv.one
 cases ru
 refine callType_codes (Q₁ := fun obj s1 => obj = .ref s.heap.objs.size ∧ s1 = { s with heap := s.heap.push { cls := .type "dict", data := .dict #[] } }) F.kt_called_dict (F.kt_typeCall_dict_1 _) F.entry_dict_init (kt_code_dict_new _ ⟨rfl, rfl⟩) ?_
 rintro obj s1 ⟨rfl, rfl⟩
 have hd : H s.heap.objs.size = none := I.hok.fresh (Nat.le_refl _)
 have I1 : Inv X pins σ (upd H s.heap.objs.size (.dK [])) { s with heap := s.heap.push { cls := .type "dict", data := .dict #[] } } := I.laid (t' := s.toks) (fun _ _ q => Heap.get?_push_of_some _ q) (Nat.le_refl _) (dk_empty s.heap I.big)
 have na : s.heap.objs.size ≠ a := fun z => by rw [z, ha] at hd; cases hd
 obtain ⟨z, hdS, kv, rel, dd⟩ := dk_of I1.hok (upd_same (H := H) (a := s.heap.objs.size) (o := .dK []))
 cases rel
 obtain ⟨z2, hdA, kv2, rel2, dd2⟩ := dk_of I1.hok (same_new' hd (.dK []) a _ ha)
 refine ⟨dd.typeIs, F.args_dict_init_2 _ _, ?_⟩
 unfold Builtin.«dict.__init__»
 refine wpAny_bind ?_
 unfold Builtin.Dict.selfAndRest
 refine wpAny_bind (wpAny_notOrdered_dict dd.typeIs ?_)
 show wpAny _ _ (pure (s.heap.objs.size, [Value.ref a])) _ _ _
 refine wpAny_pure ?_
 show wpAny _ _ (Builtin.Dict.updateFrom "dict.__init__" s.heap.objs.size (.ref a) [] .none) _ _ _
 unfold Builtin.Dict.updateFrom
 refine wpAny_bind (wpAny_typeOf dd2.typeIs ?_)
 rw [if_neg (by decide)]
 refine wpAny_bind ?_
 unfold Builtin.Dict.merge
 refine wpAny_bind ?_
 unfold Builtin.Dict.readDirectly
 refine wpAny_bind (wpAny_isInstance dd2.typeIs PySem.F.sub_dict_dict ?_)
 simp only [Bool.not_true, Bool.false_eq_true, if_false]
 refine wpAny_bind (wpAny_specialOf dd2.typeIs F.slot_dict_iter.lookup (wpAny_pure ?_))
 simp only [beq_self_eq_true, if_true]
 refine wpAny_bind (wpAny_pure ?_)
 have lz := rel2.length
 refine wpAny_mergeDict (hsz := by rw [List.length_nil]; lia) na hdA dd dd2 fun h' hd' ho' hs' => ?_
 show wpAny _ _ (Builtin.Dict.addKeywords s.heap.objs.size [] >>= _) _ _ _
 have nd : (kv2.map (·.1)).Nodup := by
  obtain ⟨_, _, _, _, _, _, _, _, n⟩ := id dd2
  exact n
 rw [merged_nil_of_nodup _ nd] at hd'
 have I2 : Inv X pins σ (upd (upd H s.heap.objs.size (.dK [])) s.heap.objs.size (.dK kvs)) { s with heap := h' } :=
  d_write (s := { s with heap := s.heap.push { cls := .type "dict", data := .dict #[] } }) (t' := s.toks) I1 (by rw [upd_same]; exact True.intro) hs' (let ⟨q, _, _, hq, _⟩ := hd'; ⟨q, hq⟩) (dk_new (by lia) hdS rel2 hd')
 rw [upd_upd] at I2
 exact wpAny_bind (wpAny_pure (wpAny_pure ⟨rfl, .ref s.heap.objs.size, _, I2, rfl, q _ hd⟩))
end
end L2
namespace L2
open PySem PySem.Spec PyProof.Rows PySem.W
inductive IsT : String → Prop
 | int : IsT "int"
 | bool : IsT "bool"
 | tuple : IsT "tuple"
 | list : IsT "list"
 | str : IsT "str"
def isiW (K : Fg) (H : Hp) : V → String → Bool → Prop
 | .non, _, b => b = false
 | .int _, T, b => b = decide (T = "int")
 | .bl _, T, b => b = decide (T = "int" ∨ T = "bool")
 | .str _, T, b => b = decide (T = "str")
 | .ref a, T, b => ((∃ xs, SqT K H a xs) ∧ b = decide (T = "tuple")) ∨ ((∃ xs, SqL K H a xs) ∧ b = decide (T = "list"))
 | _, _, _ => False
inductive Ccall_isiW (KX : Fg) (xs : List V) (H : Hp) (Q : VK) : Prop
 | mk (x : _) (T : _) (b : _) (h1 : xs = [x, .ty T]) (h2 : IsT T) (h3 : isiW KX H x T b) (h4 : Q (.bl b) H)
theorem call_isiW {X : Cx} : CallR X (.builtin "isinstance") (fun xs H Q => Ccall_isiW X.K xs H Q) := by
 intro pins s σ H xs us Q I rv h
 obtain ⟨x, T, b, rfl, hT, hi, q⟩ := h
 obtain ⟨u, v, rfl, ru, rT⟩ := rv.two
 cases rT
 have fin : ∀ (tk : Nat), EP X pins σ Q (.bool b) { s with toks := tk } := fun tk => ⟨.bl b, H, I.tok tk, rfl, q⟩
 cases x with
 | int n =>
  obtain ⟨t, rfl⟩ := ru
  cases hT <;> (subst hi)
  ·exact IsiPair.int_int (fin s.toks)
  ·exact IsiPair.int_bool (fin _)
  ·exact IsiPair.int_tuple (fin _)
  ·exact IsiPair.int_list (fin _)
  ·exact IsiPair.int_str (fin _)
 | bl n =>
  cases ru
  cases hT <;> (subst hi)
  ·exact IsiPair.bool_int (fin s.toks)
  ·exact IsiPair.bool_bool (fin s.toks)
  ·exact IsiPair.bool_tuple (fin _)
  ·exact IsiPair.bool_list (fin _)
  ·exact IsiPair.bool_str (fin _)
 | str n =>
  obtain ⟨t, rfl⟩ := ru
  cases hT <;> (subst hi)
  ·exact IsiPair.str_int (fin _)
  ·exact IsiPair.str_bool (fin _)
  ·exact IsiPair.str_tuple (fin _)
  ·exact IsiPair.str_list (fin _)
  ·exact IsiPair.str_str (fin s.toks)
 | non =>
  cases ru
  cases hT <;> (subst hi)
  ·exact IsiPair.NoneType_int (fin _)
  ·exact IsiPair.NoneType_bool (fin _)
  ·exact IsiPair.NoneType_tuple (fin _)
  ·exact IsiPair.NoneType_list (fin _)
  ·exact IsiPair.NoneType_str (fin _)
 | ref a =>
  cases ru
  rcases hi with ⟨⟨xs, hq⟩, hi⟩ | ⟨⟨xs, hq⟩, hi⟩
  ·obtain ⟨its, r, ⟨o, e, c, _⟩, _⟩ := I.tuple hq
   cases hT <;> (subst hi)
   ·exact IsiPair.tuple_int e c (fin _)
   ·exact IsiPair.tuple_bool e c (fin _)
   ·exact IsiPair.tuple_tuple e c (fin s.toks)
   ·exact IsiPair.tuple_list e c (fin _)
   ·exact IsiPair.tuple_str e c (fin _)
  ·obtain ⟨its, r, pl, _⟩ := I.list hq
   obtain ⟨o, e, c, _⟩ := pl.isList
   cases hT <;> (subst hi)
   ·exact IsiPair.list_int e c (fin _)
   ·exact IsiPair.list_bool e c (fin _)
   ·exact IsiPair.list_tuple e c (fin _)
   ·exact IsiPair.list_list e c (fin s.toks)
   ·exact IsiPair.list_str e c (fin _)
 | byt _ => exact hi.elim
 | flt _ => exact hi.elim
 | ty _ => exact hi.elim
open Att in
section
variable {prog : Program} {w : World} {A : Around} {R : Result → Shared → Prop} {I : Addr} {fp wr : List Addr} {n : Nat} {P : Nat → Value → Prop} {St : Nat → Heap → Prop}
end
section
variable {prog : Program} {w : World} {A : Around} {E : Value → Shared → Prop} {s : Shared} {l : Addr} {xs : Array (Int × Tok)}
end
section
variable {X : Cx}
end
end L2
namespace L2
open PySem PySem.Spec PySem.Calls PyProof.Rows PySem.W
section
variable {P : Program} {w : World} {K : Fg} {mg : Str → Option Value} {base : Heap} {N : List Str} {qual : Str} {scope : Scope} {f : Addr} {cd : Value} {A : Around} {outer : List Env} {s₀ : Shared} {H₀ : Hp} {E : XK} {C : Addr}
 {pins : List (Addr × Obj)} {σ : St} {H : Hp} {s : Shared}
end
end L2
namespace L2
open PySem PySem.Spec PySem.Calls PyProof.Rows PySem.W
section
variable {X : Cx} {pins : List (Addr × Obj)} {σ : St} {H H' : Hp} {s : Shared} {e : Addr}
end
section
variable {X : Cx} {k : Nat} {f C D : Addr} {fd : FuncData} {ps : List Str} {sp : Sp} {g x n c : Str} {p np pc pn cpos epos hpos apos pos : Pos} {a : Expr} {es : List Expr} {t : TA} {i j : Nat}
end
end L2
namespace L2
open PySem PySem.Spec PySem.Calls PyProof.Rows PySem.W
section
variable {prog : Program} {w : World} {A : Around} {E : Value → Shared → Prop} {h : Heap} {g : Array GenState} {d : Drawn} {t : Nat} {os : OsState} {a C : Addr} {o : Obj} {K : Frag}
open Builtin Builtin.ObjectAttr Builtin.Getset_descriptor in
end
end L2
namespace L2
open PySem PySem.Spec PySem.Calls PyProof.Rows PySem.W
section
variable {X : Cx}
end
def Big (i : Int) : Prop := i.natAbs < 2 ^ 4000
section
variable {X : Cx}
theorem op_fdivG : OpR X (binaryOp .FloorDiv) (rI (fun _ j => j ≠ 0 ∧ Big j) fun i j => .int (i.fdiv j)) := opI fun i j _ _ _ _ _ hc q => floordiv_int hc.1 q (.inl (PyProof.noPylong_of_log2 (Nat.lt_of_lt_of_le ((Nat.log2_lt (by have := hc.1; lia)).mpr hc.2) (by decide))))
end
section
variable {P : Program} {w : World} {K : Fg} {mg : Str → Option Value} {base : Heap} {N : List Str} {qual : Str} {scope : Scope} {f : Addr} {cd : Value} {A : Around} {outer : List Env} {s₀ : Shared} {H₀ : Hp} {E : XK} {C : Addr}
end
end L2
namespace L2
open PySem PySem.Spec PySem.Calls PyProof.Rows PySem.W
section
variable {X : Cx}
end
inductive IrCatG (K : Fg) (x : V) (y : V) (H : Hp) (Q : VK) : Prop
 | mk (a : _) (b : _) (xs : _) (ys : _) (h1 : x = .ref a) (h2 : y = .ref b) (h3 : SqT K H a xs) (h4 : SqT K H b ys) (h5 : ys ≠ []) (h6 : xs.length + ys.length ≤ sizeLine) (h7 : ∀ (p : Addr) (H' : Hp), Same H H' → SqT K H' p (xs ++ ys) → Q (.ref p) H')
def rCatG (K : Fg) : R2 := fun x y H Q => IrCatG K x y H Q
theorem op_catG {X : Cx} : OpR X (binaryOp .Add) (rCatG X.K) := by
 intro pins s σ H x y v u Q I rx ry h
 obtain ⟨a, b, xs, ys, rfl, rfl, ha, hb, hy, hz, q⟩ := h
 by_cases hx : xs = []
 ·subst hx
  cases rx
  cases ry
  obtain ⟨its, r1, p1, _⟩ := I.tuple ha
  obtain ⟨its2, r2, p2, _⟩ := I.tuple hb
  have e0 : its = [] := r1.nil_iff.mpr rfl
  subst e0
  obtain ⟨⟨c1, d1, da1, sl1⟩, ho, hc, n, hd⟩ := id p1
  obtain ⟨⟨c2, d2, da2, sl2⟩, ho2, hc2, n2, hd2⟩ := id p2
  simp only at hc hd hc2 hd2
  subst hc hd hc2 hd2
  exact concat_meets ⟨_, ho, rfl⟩ ⟨_, ho2, rfl⟩ noFill_tuple_add seq_tuple_add PySem.F.slot_tuple_add PySem.F.entry_tuple_add (PySem.F.args_tuple_add_2 _ _) (tuple_addW0 a b ([] : List Value).toArray its2.toArray n n2 d1 d2 sl1 sl2 (by simp)) ⟨ho, ho2, ⟨.ref b, H, I, rfl, q b H (Same.refl H) hb⟩⟩
 ·exact op_catT pins s σ H (.ref a) (.ref b) v u Q I rx ry ⟨a, b, xs, ys, rfl, rfl, ha, hb, hx, hz, fun z => absurd z hy, fun _ p hp => q p _ (same_new' hp _) (sqT_new upd_same)⟩
theorem op_catGK {X : Cx} {K : Fg} (hK : X.K = K) : OpR X (binaryOp .Add) (rCatG K) := by subst hK; exact op_catG
end L2
namespace L2
open PySem PySem.W PyProof.Rows
section
variable {r : Nat → Int} {n : Nat}
end
end L2
namespace L2
open PySem PySem.Spec PySem.W PyProof.Rows
open PySem.SeqAt
section
variable {prog : Program} {w : World} {A : Around} {E : Value → Shared → Prop} {s : Shared}
end
section
variable {prog : Program} {w : World} {A : Around} {E : Value → Shared → Prop} {s : Shared}
end
end L2
namespace L2
open PySem PySem.Spec PySem.W PyProof.Rows
open PySem.SeqAt
section
variable {prog : Program} {w : World} {A : Around} {E : Value → Shared → Prop} {s : Shared}
end
section
variable {X : Cx}
end
end L2
namespace L2
open PySem PySem.Spec PyProof.Rows PySem.W
structure Tab (w : World) (K : Frag) (mg : Str → Option Value) (x : Str) (a : Addr) (f : Str → Option Value) : Prop where
 bound : mg x = some (.ref a)
 map : ∀ (P : Program) (h : Heap), K.In h → h.MapOf (strKind P w) a f
 low : (a == sysModules) = false
theorem tab_mk {w : World} {K : Frag} {mg : Str → Option Value} {x : Str} {a : Addr} {es : Array DictEntry} {n : Nat} (hb : mg x = some (.ref a)) (hl : K.lookup a = some ⟨.type "dict", none, .dict es n, #[]⟩) (hk : KeysLit w.params es.toList) (lo : (a == sysModules) = false) :
  Tab w K mg x a (fun k => findBy Value.isStrOf es k) := ⟨hb, fun P h X => mapOf_K (prog := P) X hl hk, lo⟩
inductive IrTab (a : Addr) (f : Str → Option Value) (x : V) (y : V) (H : Hp) (Q : VK) : Prop
 | mk (s : _) (v : _) (z : _) (h1 : x = .ref a) (h2 : y = .str s) (h3 : f s = some v) (h4 : RelV z v) (h5 : Q z H)
def rTab (a : Addr) (f : Str → Option Value) : R2 := fun x y H Q => IrTab a f x y H Q
section
variable {X : Cx}
theorem ix_tab {x : Str} {a : Addr} {f : Str → Option Value} (T : Tab X.w X.K X.mg x a f) : IxR X (rTab a f) := by
 intro value slice pins s σ H x y v u Q I rx ry h hs
 obtain ⟨z, w', r, rfl, rfl, hf, rv, q⟩ := h
 cases rx
 obtain ⟨t, rfl⟩ := ry
 have hm := T.map X.prog _ I.kIn
 exact tail_any hm.typeIs slot_dict_getitem.lookup (wpAny_getItem_of (strKind_is X.prog X.w z t) hm hf ⟨r, H, I.tok _, rv, q⟩) hs
end
theorem bt_str : bootBuiltins "str" = some (.type "str") := by decide +kernel
end L2
namespace L2
open PySem PySem.Spec PySem.W PyProof.Rows
open PySem.SeqAt
section
variable {A : Around} {s : Shared}
end
section
variable {X : Cx}
open Classical in
open Classical in
end
end L2
namespace L2
open PySem PySem.Spec PySem.W PyProof.Rows
open PySem.SeqAt
section
variable {X : Cx}
open Classical in
end
end L2
namespace HT
open PySem PySem.Spec PyProof.Rows
section
variable {prog : Program} {w : World} {A : Around} {E : Value → Shared → Prop} {s : Shared}
end
end HT
namespace L2
open PySem PySem.Spec PySem.W PyProof.Rows
open PySem.SeqAt
section
variable {X : Cx}
end
end L2
namespace L2
open PySem
section
variable {X : Cx}
end
section
variable {X : Cx}
theorem lenS {α : Type} {l : List α} {n : Nat} (h : l.length = n + 1) : ∃ a t, l = a :: t ∧ t.length = n := by
 cases l with
 | nil => exact absurd h (Nat.succ_ne_zero n).symm
 | cons a t => exact ⟨a, t, rfl, Nat.succ.inj h⟩
theorem len1 {α : Type} {l : List α} (h : l.length = 1) : ∃ a, l = [a] := by
 obtain ⟨a, t, rfl, h'⟩ := lenS h
 exact ⟨a, congrArg _ (List.length_eq_zero_iff.mp h')⟩
theorem len2 {α : Type} {l : List α} (h : l.length = 2) : ∃ a b, l = [a, b] := by
 obtain ⟨a, t, rfl, h'⟩ := lenS h
 obtain ⟨b, rfl⟩ := len1 h'
 exact ⟨a, b, rfl⟩
theorem len3 {α : Type} {l : List α} (h : l.length = 3) : ∃ a b c, l = [a, b, c] := by
 obtain ⟨a, t, rfl, h'⟩ := lenS h
 obtain ⟨b, c, rfl⟩ := len2 h'
 exact ⟨a, b, c, rfl⟩
theorem len4 {α : Type} {l : List α} (h : l.length = 4) : ∃ a b c d, l = [a, b, c, d] := by
 obtain ⟨a, t, rfl, h'⟩ := lenS h
 obtain ⟨b, c, d, rfl⟩ := len3 h'
 exact ⟨a, b, c, d, rfl⟩
theorem len5 {α : Type} {l : List α} (h : l.length = 5) : ∃ a b c d e, l = [a, b, c, d, e] := by
 obtain ⟨a, t, rfl, h'⟩ := lenS h
 obtain ⟨b, c, d, e, rfl⟩ := len4 h'
 exact ⟨a, b, c, d, e, rfl⟩
theorem bind1 {F : List Value → Prop} (h : ∀ a, F [a]) : ∀ us : List Value, us.length = 1 → F us := fun us hl => by
 obtain ⟨a, rfl⟩ := len1 hl
 exact h a
theorem bind2 {F : List Value → Prop} (h : ∀ a b, F [a, b]) : ∀ us : List Value, us.length = 2 → F us := fun us hl => by
 obtain ⟨a, b, rfl⟩ := len2 hl
 exact h a b
theorem bind3 {F : List Value → Prop} (h : ∀ a b c, F [a, b, c]) : ∀ us : List Value, us.length = 3 → F us := fun us hl => by
 obtain ⟨a, b, c, rfl⟩ := len3 hl
 exact h a b c
theorem bind5 {F : List Value → Prop} (h : ∀ a b c d e, F [a, b, c, d, e]) : ∀ us : List Value, us.length = 5 → F us := fun us hl => by
 obtain ⟨a, b, c, d, e, rfl⟩ := len5 hl
 exact h a b c d e
theorem seq_let3 {s1 s2 s3 : TS} {D : Ends} {σ : St} {H : Hp} (h : let r3 : TS := s3; let r2 : TS := tSeq s2 r3; tSeq s1 r2 D σ H) : (tSeq s1 (tSeq s2 (s3))) D σ H := h
theorem seq_let4 {s1 s2 s3 s4 : TS} {D : Ends} {σ : St} {H : Hp} (h : let r4 : TS := s4; let r3 : TS := tSeq s3 r4; let r2 : TS := tSeq s2 r3; tSeq s1 r2 D σ H) : (tSeq s1 (tSeq s2 (tSeq s3 (s4)))) D σ H := h
theorem seq_let5 {s1 s2 s3 s4 s5 : TS} {D : Ends} {σ : St} {H : Hp} (h : let r5 : TS := s5; let r4 : TS := tSeq s4 r5; let r3 : TS := tSeq s3 r4; let r2 : TS := tSeq s2 r3; tSeq s1 r2 D σ H) : (tSeq s1 (tSeq s2 (tSeq s3 (tSeq s4 (s5))))) D σ H := h
theorem seq_let6 {s1 s2 s3 s4 s5 s6 : TS} {D : Ends} {σ : St} {H : Hp} (h : let r6 : TS := s6; let r5 : TS := tSeq s5 r6; let r4 : TS := tSeq s4 r5; let r3 : TS := tSeq s3 r4; let r2 : TS := tSeq s2 r3; tSeq s1 r2 D σ H) : (tSeq s1 (tSeq s2 (tSeq s3 (tSeq s4 (tSeq s5 (s6)))))) D σ H := h
theorem seq_let7 {s1 s2 s3 s4 s5 s6 s7 : TS} {D : Ends} {σ : St} {H : Hp} (h : let r7 : TS := s7; let r6 : TS := tSeq s6 r7; let r5 : TS := tSeq s5 r6; let r4 : TS := tSeq s4 r5; let r3 : TS := tSeq s3 r4; let r2 : TS := tSeq s2 r3; tSeq s1 r2 D σ H) : (tSeq s1 (tSeq s2 (tSeq s3 (tSeq s4 (tSeq s5 (tSeq s6 (s7))))))) D σ H := h
end
end L2
namespace L2
open PySem PySem.Spec PyProof.Rows PySem.W
section
variable {prog : Program} {w : World} {A : Around} {R : Result → Shared → Prop} {I : Addr} {fp wr : List Addr} {n : Nat} {P : Nat → Value → Prop} {St : Nat → Heap → Prop}
end
section
variable {prog : Program} {w : World} {A : Around} {E : Value → Shared → Prop} {s : Shared} {l : Addr} {xs : Array (Int × Tok)}
end
section
variable {X : Cx}
end
section
variable {X : Cx}
end
end L2
namespace Nb
open PySem L2
def top (i : Nat) : Stmt := PySem.Challenge.pw_nonebetter_k61_whole_broken_plans.main.body.getD i (.Pass ⟨0, 0, 0, 0⟩)
abbrev sBlock : Stmt := top 20
abbrev sMixed : Stmt := top 21
abbrev sWhole : Stmt := top 19
inductive BR where
 | days (n : Int)
 | bench (b : Str) (r : Int)
 | shut (b : Str) (f t : Int)
 | store (s : Str) (m f : Int)
 | work (w : Str)
 | way (w v : Str) (l c : Int)
 | use (k : Fin 3) (w v t : Str) (m : Int)
 | after (w x : Str) (g : Int)
 | late (w : Str) (d c : Int)
def useW : Fin 3 → Str
 | 0 => "uses"
 | 1 => "takes"
 | 2 => "gives"
def BR.word : BR → Str
 | .days _ => "days"
 | .bench _ _ => "bench"
 | .shut _ _ _ => "shut"
 | .store _ _ _ => "store"
 | .work _ => "work"
 | .way _ _ _ _ => "way"
 | .use k _ _ _ _ => useW k
 | .after _ _ _ => "after"
 | .late _ _ _ => "late"
def BR.names : BR → List Str
 | .days _ => []
 | .bench b _ => [b]
 | .shut b _ _ => [b]
 | .store s _ _ => [s]
 | .work w => [w]
 | .way w v _ _ => [w, v]
 | .use _ w v t _ => [w, v, t]
 | .after w x _ => [w, x]
 | .late w _ _ => [w]
def BR.nums : BR → List Int
 | .days n => [n]
 | .bench _ r => [r]
 | .shut _ f t => [f, t]
 | .store _ m f => [m, f]
 | .work _ => []
 | .way _ _ l c => [l, c]
 | .use _ _ _ _ m => [m]
 | .after _ _ g => [g]
 | .late _ d c => [d, c]
def BR.key (r : BR) : List Key := Sum.inr r.word :: r.names.map Sum.inr
def BR.cells (r : BR) : List Key := r.key ++ r.nums.map Sum.inl
def BR.own : BR → List Str
 | .work w => [w]
 | .way w _ _ _ => [w]
 | .use _ w _ _ _ => [w]
 | .after w x _ => [w, x]
 | .late w _ _ => [w]
 | _ => []
def BR.ok (n : Int) : BR → Prop
 | .days m => m = n
 | .bench _ r => 0 ≤ r ∧ r ≤ 99
 | .shut _ f t => 0 ≤ f ∧ f < t ∧ t ≤ n
 | .store _ m f => 0 ≤ f ∧ f ≤ m ∧ m ≤ 999
 | .work _ => True
 | .way _ _ l c => 1 ≤ l ∧ l ≤ n ∧ 0 ≤ c ∧ c ≤ 999999
 | .use _ _ _ _ m => 1 ≤ m ∧ m ≤ 99
 | .after w x g => w ≠ x ∧ 0 ≤ g ∧ g ≤ n
 | .late _ d c => 0 ≤ d ∧ d ≤ n ∧ 1 ≤ c ∧ c ≤ 999
def Apart (r q : BR) : Prop := r.word = "shut" ∨ q.word = "shut" ∨ r.key ≠ q.key
theorem Apart.symm {r q : BR} (h : Apart r q) : Apart q r := by
 rcases h with h | h | h
 ·exact .inr (.inl h)
 ·exact .inl h
 ·exact .inr (.inr h.symm)
theorem apart_word {r q : BR} (h : r.word ≠ q.word) : Apart r q := .inr (.inr fun z => h (by injection z with z1; injection z1))
structure WB (n : Int) (B : List BR) : Prop where
 ok : ∀ r ∈ B, r.ok n
 nd : B.Pairwise Apart
 ref : ∀ r ∈ B, ∀ w ∈ r.own, BR.work w ∈ B
 len : B.length ≤ 400
 few : ∃ nm : List Str, nm.length ≤ 5 ∧ ∀ r ∈ B, ∀ w ∈ r.own, w ∈ nm
theorem WB.perm {n : Int} {B C : List BR} (h : WB n B) (p : B.Perm C) : WB n C :=
 ⟨fun r hr => h.ok r (p.mem_iff.mpr hr), (p.pairwise_iff Apart.symm).mp h.nd, fun r hr w hw => p.mem_iff.mp (h.ref r (p.mem_iff.mpr hr) w hw), by rw [← p.length_eq]; exact h.len, h.few.elim fun nm q => ⟨nm, q.1, fun r hr w hw => q.2 r (p.mem_iff.mpr hr) w hw⟩⟩
def BR.kind : BR → Nat
 | .days _ => 0
 | .bench _ _ => 1
 | .shut _ _ _ => 2
 | .store _ _ _ => 3
 | .work _ => 4
 | .way _ _ _ _ => 5
 | .use k _ _ _ _ => 6 + k.val
 | .after _ _ _ => 9
 | .late _ _ _ => 10
def wordOf : Nat → Str
 | 0 => "days"
 | 1 => "bench"
 | 2 => "shut"
 | 3 => "store"
 | 4 => "work"
 | 5 => "way"
 | 6 => "uses"
 | 7 => "takes"
 | 8 => "gives"
 | 9 => "after"
 | _ => "late"
theorem word_of (r : BR) : r.word = wordOf r.kind := by
 cases r with
 | use k _ _ _ _ => match k with | 0 => rfl | 1 => rfl | 2 => rfl
 | _ => rfl
theorem kind_lt (r : BR) : r.kind < 11 := by
 cases r with
 | use k _ _ _ _ => show 6 + k.val < 11; lia
 | days n => show (0 : Nat) < 11; decide
 | bench b r => show (1 : Nat) < 11; decide
 | shut b f t => show (2 : Nat) < 11; decide
 | store b m f => show (3 : Nat) < 11; decide
 | work w => show (4 : Nat) < 11; decide
 | way w v l c => show (5 : Nat) < 11; decide
 | after w x g => show (9 : Nat) < 11; decide
 | late w d c => show (10 : Nat) < 11; decide
theorem wordOf_inj : ∀ i, i < 11 → ∀ j, j < 11 → wordOf i = wordOf j → i = j := by decide +kernel
theorem word_iff (r : BR) {k : Nat} (hk : k < 11) : r.word = wordOf k ↔ r.kind = k := ⟨fun h => wordOf_inj _ (kind_lt r) _ hk (by rw [← word_of]; exact h), fun h => by rw [word_of, h]⟩
theorem apart_kind {r q : BR} (h : r.kind ≠ q.kind) : Apart r q := apart_word fun z => h (wordOf_inj _ (kind_lt r) _ (kind_lt q) (by rw [← word_of, ← word_of]; exact z))
theorem kind_way {r : BR} (h : r.kind = 5) : ∃ w v l c, r = .way w v l c := by
 cases r with
 | way w v l c => exact ⟨w, v, l, c, rfl⟩
 | use k _ _ _ _ => exact absurd (show 6 + k.val = 5 from h) (by lia)
 | _ => exact nomatch h
theorem kind_work {r : BR} (h : r.kind = 4) : ∃ w, r = .work w := by
 cases r with
 | work w => exact ⟨w, rfl⟩
 | use k _ _ _ _ => exact absurd (show 6 + k.val = 4 from h) (by lia)
 | _ => exact nomatch h
theorem kind_after {r : BR} (h : r.kind = 9) : ∃ w x g, r = .after w x g := by
 cases r with
 | after w x g => exact ⟨w, x, g, rfl⟩
 | use k _ _ _ _ => exact absurd (show 6 + k.val = 9 from h) (by lia)
 | _ => exact nomatch h
theorem word_way {r : BR} (h : r.word = "way") : ∃ w v l c, r = .way w v l c := kind_way ((word_iff r (k := 5) (by decide)).mp h)
theorem word_work {r : BR} (h : r.word = "work") : ∃ w, r = .work w := kind_work ((word_iff r (k := 4) (by decide)).mp h)
theorem word_after {r : BR} (h : r.word = "after") : ∃ w x g, r = .after w x g := kind_after ((word_iff r (k := 9) (by decide)).mp h)
def fl (x : Str) : Nat := x.cps.getD 0 0
def RowsB (H : Hp) (vs : List V) (B : List BR) : Prop := RowsL H vs (B.map BR.cells)
theorem at_word (r : BR) : atI (r.cells.map kV) 0 = some (.str r.word) := by cases r <;> rfl
theorem RowsB.get {H : Hp} {vs : List V} {B : List BR} (h : RowsB H vs B) {i : Nat} {v : V} (e : vs[i]? = some v) : ∃ r l, B[i]? = some r ∧ v = .ref l ∧ H l = some (.lst (r.cells.map kV)) := by
 obtain ⟨ks, e1, l, e2, h1⟩ := paired_get h e
 rw [List.getElem?_map] at e1
 obtain ⟨r, e3, e4⟩ := Option.map_eq_some_iff.mp e1
 exact ⟨r, l, e3, e2, by rw [e4]; exact h1⟩
theorem RowsB.imp {H H' : Hp} {vs : List V} {B : List BR} (h : RowsB H vs B) (f : ∀ l (r : BR), V.ref l ∈ vs → H l = some (.lst (r.cells.map kV)) → H' l = some (.lst (r.cells.map kV))) : RowsB H' vs B := by
 unfold RowsB at h ⊢
 induction B generalizing vs with
 | nil => cases h; exact .nil
 | cons r B ih =>
  cases h with
  | cons z t =>
   obtain ⟨l, e, h1⟩ := z
   exact .cons ⟨l, e, f l r (by rw [e]; exact List.mem_cons_self) h1⟩ (ih t fun l r hm => f l r (List.mem_cons_of_mem _ hm))
theorem RowsB.same {H H' : Hp} {vs : List V} {B : List BR} (h : RowsB H vs B) (s : Same H H') : RowsB H' vs B := h.imp fun _ _ _ z => s _ _ z
theorem RowsB.length {H : Hp} {vs : List V} {B : List BR} (h : RowsB H vs B) : vs.length = B.length := by
 have := Paired.length h
 rwa [List.length_map] at this
theorem RowsB.snoc {H : Hp} {vs : List V} {B : List BR} {r : BR} {l : Addr} (h : RowsB H vs B) (z : H l = some (.lst (r.cells.map kV))) : RowsB H (vs ++ [.ref l]) (B ++ [r]) := by
 unfold RowsB at h ⊢
 rw [List.map_append]
 exact Paired.snoc h ⟨l, rfl, z⟩
theorem paired_app {α β : Type} {R : α → β → Prop} {xs xs' : List α} {ys ys' : List β} (h1 : Paired R xs ys) (h2 : Paired R xs' ys') : Paired R (xs ++ xs') (ys ++ ys') := by
 induction h1 with
 | nil => exact h2
 | cons z _ ih => exact .cons z ih
theorem RowsB.app {H : Hp} {vs vs' : List V} {B B' : List BR} (h : RowsB H vs B) (h' : RowsB H vs' B') : RowsB H (vs ++ vs') (B ++ B') := by
 unfold RowsB at h h' ⊢
 rw [List.map_append]
 exact paired_app h h'
theorem paired_take {α β : Type} {R : α → β → Prop} : ∀ {xs : List α} {ys : List β} (n : Nat), Paired R xs ys → Paired R (xs.take n) (ys.take n)
 | _, _, 0, _ => .nil
 | _, _, _ + 1, .nil => .nil
 | _, _, n + 1, .cons z t => .cons z (paired_take n t)
theorem paired_drop {α β : Type} {R : α → β → Prop} : ∀ {xs : List α} {ys : List β} (n : Nat), Paired R xs ys → Paired R (xs.drop n) (ys.drop n)
 | _, _, 0, h => h
 | _, _, _ + 1, .nil => .nil
 | _, _, n + 1, .cons _ t => paired_drop n t
theorem RowsB.take {H : Hp} {vs : List V} {B : List BR} (n : Nat) (h : RowsB H vs B) : RowsB H (vs.take n) (B.take n) := by
 unfold RowsB at h ⊢
 rw [List.map_take]
 exact paired_take n h
theorem RowsB.drop {H : Hp} {vs : List V} {B : List BR} (n : Nat) (h : RowsB H vs B) : RowsB H (vs.drop n) (B.drop n) := by
 unfold RowsB at h ⊢
 rw [List.map_drop]
 exact paired_drop n h
def NoRow (ys : List V) : Prop := ∀ s r, ys ≠ V.str s :: r
theorem RowsB.noRow {H : Hp} {vs : List V} {B : List BR} (h : RowsB H vs B) : NoRow vs := fun s r e => by
 subst e
 obtain ⟨_, _, _, e, _⟩ := h.get (i := 0) (v := .str s) rfl
 cases e
theorem cells_ne {ys : List V} (h : NoRow ys) (r : BR) : r.cells.map kV ≠ ys := fun e => h r.word (r.cells.map kV).tail (by rw [← e]; cases r <;> rfl)
theorem RowsB.updL {H : Hp} {vs : List V} {B : List BR} {g : Addr} {ys zs : List V} (h : RowsB H vs B) (hg : H g = some (.lst ys)) (n : NoRow ys) : RowsB (upd H g (.lst zs)) vs B := h.imp fun l r _ z => by
 rw [upd_ne (ne_of z hg fun e => cells_ne n r (HO.lst.inj e))]
 exact z
section
variable {P : Program} {w : World} {K : Fg} {mg : Str → Option Value} {base : Heap}
theorem scBlock : FnScope ["_law_script", "_law_k", "_law_cell", "_law_j"] ["_law_script", "_law_k"] (defScope sBlock) := ⟨rfl, rfl, rfl, by decide +kernel, rfl, by decide +kernel, by decide +kernel⟩
theorem okBlock (F : Fn K mg "_law_block" sBlock) (M : Mg mg) : Cal P w K mg base 1 "_law_block" ["_law_script", "_law_k"] (spBlock K) := by
 refine cal_of F scBlock (fun _ _ _ _ _ _ => bind2 (fun _ _ => rfl)) (fun vs H Q E h => ?_) (fun f cdv A outer s H vs Q E hr h => ?_)
 ·obtain ⟨a, ns, k, rfl, _⟩ := h
  rfl
 obtain ⟨a, ns, k, rfl, hS, h0, q⟩ := h
 refine ⟨_, (pss_cons (ps_set (i := 2) scBlock.nd rfl (Or.inl rfl) pe_int)
  (pss_cons (ps_if (pt_cmpR op_lt (pe_op op_add pe_int (pe_op op_mod (pe_op op_fdiv (pv 1) pe_int) pe_int)) (pe_callB call_len_seq rfl M.len bt_len (pa_cons (pv 0) pa_nil)) (nomark _)) (pss_one (ps_set (i := 2) scBlock.nd rfl (Or.inl rfl) (pe_op op_fdivB (pe_ix ix_list (pv 0) (pe_op op_add pe_int (pe_op op_mod (pe_op op_fdiv (pv 1) pe_int) pe_int)) (fun _ _ => rfl)) (pe_op op_pow pe_int pe_int)))) pss_nil)
  (pss_cons (ps_for PassesOwn.never rfl (pi_range1 rfl M.range_ (pa_cons (pe_op op_mod (pv 1) pe_int) pa_nil)) (pg_name (i := 3) scBlock.nd rfl (Or.inl rfl) (Or.inl rfl)) (pss_one (ps_set (i := 2) scBlock.nd rfl (Or.inl rfl) (pe_op op_fdivB (pv 2) pe_int))))
  (pss_one (ps_ret (pv 2)))))), ?_⟩
 refine seq_let4 ?_
 intro rT4 rT3 rT2
 refine ⟨_, rfl, _, _, rfl, rfl, ⟨by decide, by decide⟩, _, _, rfl, rfl, (by show (0 : Int) < _; decide +kernel), _, _, rfl, rfl, _, rfl, _, _, rfl, .inl hS, _, _, rfl, rfl, _, rfl, ?_⟩
 refine ite2 (fun c => ?_) (fun c => ?_)
 ·obtain ⟨v, hv⟩ := atNs (k := 1 + k / 8 % 62) (by lia) (of_decide_eq_true c)
  refine ⟨_, rfl, _, rfl, _, _, rfl, rfl, ⟨by decide, by decide⟩, _, _, rfl, rfl, (by show (0 : Int) < _; decide +kernel), _, _, rfl, rfl, _, _, _, _, rfl, rfl, hS, hv, _, _, rfl, rfl, ⟨by decide, by decide, by decide⟩, _, _, rfl, rfl, ⟨by decide +kernel, by decide +kernel⟩, ?_⟩
  let Pv1 : Nat → St → Hp → Prop := fun i σ H' => H' = H ∧ ∃ (z : Int) (v : Option V), σ = [some (.ref a), some (.int k), some (.int z), v]
  refine ⟨_, rfl, _, _, rfl, rfl, (by show (0 : Int) < _; decide +kernel), k % 8, rfl, by lia, by lia, for_range (lo := 0) (n := (k % 8).toNat) Pv1 ⟨rfl, _, _, rfl⟩ ?_ ?_⟩
  ·rintro i σ H' hi ⟨rfl, z, v, rfl⟩
   exact ⟨_, rfl, _, _, rfl, rfl, ⟨by decide +kernel, by decide +kernel⟩, rfl, _, _, rfl⟩
  ·rintro σ H' ⟨rfl, z, v, rfl⟩
   exact ⟨_, rfl, q z⟩
 ·let Pv2 : Nat → St → Hp → Prop := fun i σ H' => H' = H ∧ ∃ (z : Int) (v : Option V), σ = [some (.ref a), some (.int k), some (.int z), v]
  refine ⟨_, rfl, _, _, rfl, rfl, (by show (0 : Int) < _; decide +kernel), k % 8, rfl, by lia, by lia, for_range (lo := 0) (n := (k % 8).toNat) Pv2 ⟨rfl, _, _, rfl⟩ ?_ ?_⟩
  ·rintro i σ H' hi ⟨rfl, z, v, rfl⟩
   exact ⟨_, rfl, _, _, rfl, rfl, ⟨by decide +kernel, by decide +kernel⟩, rfl, _, _, rfl⟩
  ·rintro σ H' ⟨rfl, z, v, rfl⟩
   exact ⟨_, rfl, q z⟩
theorem scMixed : FnScope ["_law_script", "_law_k", "_law_cell", "_law_number"] ["_law_script", "_law_k"] (defScope sMixed) := ⟨rfl, rfl, rfl, by decide +kernel, rfl, by decide +kernel, by decide +kernel⟩
theorem okMixed (F : Fn K mg "_law_mixed" sMixed) (M : Mg mg) (cl_block : Cal P w K mg base 1 "_law_block" ["_law_script", "_law_k"] (spBlock K)) : Cal P w K mg base 2 "_law_mixed" ["_law_script", "_law_k"] (spMixed K) := by
 refine cal_of F scMixed (fun _ _ _ _ _ _ => bind2 (fun _ _ => rfl)) (fun vs H Q E h => ?_) (fun f cdv A outer s H vs Q E hr h => ?_)
 ·obtain ⟨a, ns, k, rfl, _⟩ := h
  rfl
 obtain ⟨a, ns, k, rfl, hS, h0, h1, q⟩ := h
 refine ⟨_, (pss_cons (ps_set (i := 2) scMixed.nd rfl (Or.inl rfl) pe_int)
  (pss_cons (ps_if (pt_cmpR op_gt (pe_callB call_len_seq rfl M.len bt_len (pa_cons (pv 0) pa_nil)) pe_int (nomark _)) (pss_one (ps_set (i := 2) scMixed.nd rfl (Or.inl rfl) (pe_ix ix_list (pv 0) pe_int (fun _ _ => rfl)))) pss_nil)
  (pss_cons (ps_if (PW.pt (pw_and (pt_cmpR op_eq (pe_op op_mod (pe_op op_fdiv (pv 2) (pe_op op_pow pe_int pe_int)) pe_int) pe_int (nomark _)) (pw_and1 (pt_cmpR op_ne (pe_fn cl_block (hr.mono (by decide)) (pa_cons (pv 0) (pa_cons (pv 1) pa_nil))) pe_int (nomark _))))) (pss_one (ps_ret (pe_op op_mod (pe_fn cl_block (hr.mono (by decide)) (pa_cons (pv 0) (pa_cons (pv 1) pa_nil))) pe_int))) pss_nil)
  (pss_cons (ps_if (pt_cmpR op_gt (pe_callB call_len_seq rfl M.len bt_len (pa_cons (pv 0) pa_nil)) pe_int (nomark _)) (pss_one (ps_set (i := 2) scMixed.nd rfl (Or.inl rfl) (pe_ix ix_list (pv 0) (pe_op op_mod (pv 1) (pe_callB (call_min2 rfl) rfl M.min bt_min (pa_cons pe_int (pa_cons (pe_callB call_len_seq rfl M.len bt_len (pa_cons (pv 0) pa_nil)) pa_nil)))) (fun _ _ => rfl)))) pss_nil)
  (pss_cons (ps_set (i := 3) scMixed.nd rfl (Or.inl rfl) (pe_op op_add (pe_op op_mod (pv 2) (pe_op op_pow pe_int pe_int)) (pe_op op_mul pe_int (pe_op op_add (pv 1) pe_int))))
  (pss_cons (ps_set (i := 3) scMixed.nd rfl (Or.inl rfl) (pe_op op_add (pe_op op_mod (pe_op op_mul (pv 3) (pv 3)) pe_int) (pe_op op_mul pe_int (pv 1))))
  (pss_one (ps_ret (pe_op op_mod (pe_op op_mul (pv 3) (pv 3)) pe_int))))))))), ?_⟩
 refine seq_let7 ?_
 intro rT7 rT6 rT5 rT4 rT3 rT2
 refine ⟨_, rfl, _, _, rfl, .inl hS, _, _, rfl, rfl, _, rfl, ?_⟩
 have fin : ∀ x : Int, Q (.int (x % 2147483587)) H := fun x => q _ (Int.emod_nonneg _ (by decide)) (Int.lt_trans (Int.emod_lt_of_pos _ (by decide)) (by decide))
 refine ite2 (fun c => ?_) (fun c => ?_)
 ·obtain ⟨v, hv⟩ := atNs (k := 0) (Int.le_refl 0) (of_decide_eq_true c)
  refine ⟨_, rfl, _, _, _, _, rfl, rfl, hS, hv, ?_⟩
  refine ⟨_, rfl, _, _, rfl, rfl, ⟨by decide, by decide, by decide⟩, _, _, rfl, rfl, ⟨by decide +kernel, by decide +kernel⟩, _, _, rfl, rfl, (by show (0 : Int) < _; decide +kernel), rfl, _, rfl, ?_⟩
  refine ite2 (fun c2 => ⟨_, rfl, _, rfl, a, ns, k, rfl, hS, h0, fun z => ⟨rfl, _, rfl, ite2 (fun c4 => ⟨_, rfl, _, rfl, a, ns, k, rfl, hS, h0, fun z => ⟨_, _, rfl, rfl, (by show (0 : Int) < _; decide +kernel), fin _⟩⟩) (fun c4 => ?_)⟩⟩) (fun c2 => iteF ?_)
  all_goals
   refine ⟨_, rfl, _, _, rfl, .inl hS, _, _, rfl, rfl, _, rfl, ?_⟩
   refine ite2 (fun c3 => ?_) (fun c3 => absurd c c3)
   have c' : (0 : Int) < (((ns.map V.int).length : Nat) : Int) := of_decide_eq_true c
   have pm : (0 : Int) < (if (((ns.map V.int).length : Nat) : Int) < 63 then (((ns.map V.int).length : Nat) : Int) else 63) := by split <;> lia
   have pl : (if (((ns.map V.int).length : Nat) : Int) < 63 then (((ns.map V.int).length : Nat) : Int) else 63) ≤ (((ns.map V.int).length : Nat) : Int) := by split <;> lia
   obtain ⟨v3, hv3⟩ := atNs (ns := ns) (k := k % (if (((ns.map V.int).length : Nat) : Int) < 63 then (((ns.map V.int).length : Nat) : Int) else 63)) (Int.emod_nonneg _ (Int.ne_of_gt pm)) (Int.lt_of_lt_of_le (Int.emod_lt_of_pos _ pm) pl)
   refine ⟨_, rfl, _, rfl, _, rfl, _, _, rfl, .inl hS, _, _, rfl, _, _, rfl, rfl, pm, _, _, _, _, rfl, rfl, hS, hv3, ?_⟩
   refine ⟨_, rfl, _, _, rfl, rfl, ⟨by decide, by decide, by decide⟩, _, _, rfl, rfl, (by show (0 : Int) < _; decide +kernel), _, rfl, _, _, rfl, rfl, _, _, rfl, rfl, mulC _ _ (by decide) (by decide), _, _, rfl, rfl, ?_⟩
   refine ⟨_, rfl, _, rfl, _, _, rfl, rfl, mulA _ k h0 h1 _, _, _, rfl, rfl, (by show (0 : Int) < _; decide +kernel), _, rfl, _, _, rfl, rfl, mulC _ _ (by decide) (by decide), _, _, rfl, rfl, ?_⟩
   exact ⟨_, rfl, _, rfl, _, _, rfl, rfl, mulB _ k h0 h1 _, _, _, rfl, rfl, (by show (0 : Int) < _; decide +kernel), fin _⟩
 ·refine ⟨_, rfl, _, _, rfl, rfl, ⟨by decide, by decide, by decide⟩, _, _, rfl, rfl, ⟨by decide +kernel, by decide +kernel⟩, _, _, rfl, rfl, (by show (0 : Int) < _; decide +kernel), rfl, _, rfl, ?_⟩
  refine iteF (iteF ?_)
  refine ⟨_, rfl, _, _, rfl, .inl hS, _, _, rfl, rfl, _, rfl, ?_⟩
  refine ite2 (fun c3 => absurd c3 c) (fun c3 => ?_)
  refine ⟨_, rfl, _, _, rfl, rfl, ⟨by decide, by decide, by decide⟩, _, _, rfl, rfl, (by show (0 : Int) < _; decide +kernel), _, rfl, _, _, rfl, rfl, _, _, rfl, rfl, mulC _ _ (by decide) (by decide), _, _, rfl, rfl, ?_⟩
  refine ⟨_, rfl, _, rfl, _, _, rfl, rfl, mulA _ k h0 h1 _, _, _, rfl, rfl, (by show (0 : Int) < _; decide +kernel), _, rfl, _, _, rfl, rfl, mulC _ _ (by decide) (by decide), _, _, rfl, rfl, ?_⟩
  exact ⟨_, rfl, _, rfl, _, _, rfl, rfl, mulB _ k h0 h1 _, _, _, rfl, rfl, (by show (0 : Int) < _; decide +kernel), fin _⟩
theorem scWhole : FnScope ["_law_found"] ["_law_found"] (defScope sWhole) := ⟨rfl, rfl, rfl, by decide +kernel, rfl, by decide +kernel, by decide +kernel⟩
theorem okWhole (F : Fn K mg "_law_whole" sWhole) (M : Mg mg) : Cal P w K mg base 1 "_law_whole" ["_law_found"] (spWhole) := by
 refine cal_of F scWhole (fun _ _ _ _ _ _ => bind1 (fun _ => rfl)) (fun vs H Q E h => ?_) (fun f cdv A outer s H vs Q E hr h => ?_)
 ·obtain ⟨z, rfl, _⟩ := h
  rfl
 obtain ⟨z, rfl, q⟩ := h
 refine ⟨_, (pss_one (ps_ret (pe_and (pe_callB call_isi rfl M.isinstance bt_isinstance (pa_cons (pv 0) (pa_cons (pe_ty M.int_ bt_int) pa_nil))) (pe_one (pe_not (pe_callB call_isi rfl M.isinstance bt_isinstance (pa_cons (pv 0) (pa_cons (pe_ty M.bool_ bt_bool) pa_nil)))))))), ?_⟩
 refine ⟨_, rfl, _, "int", true, rfl, .inl ⟨rfl, rfl⟩, true, rfl, ?_⟩
 refine iteT ⟨_, rfl, _, "bool", false, rfl, .inr (.inl ⟨rfl, rfl⟩), false, rfl, q⟩
end
abbrev sName : Stmt := top 22
theorem fl_app {x y : Str} (h : 1 ≤ x.length) : fl (x ++ y) = fl x := by
 show (x.cps ++ y.cps).getD 0 0 = x.cps.getD 0 0
 have h' : 0 < x.cps.size := h
 rw [Array.getD_eq_getD_getElem?, Array.getD_eq_getD_getElem?, Array.getElem?_append_left h']
theorem len_app (x y : Str) : (x ++ y).length = x.length + y.length := by
 show (x.cps ++ y.cps).size = _
 rw [Array.size_append]
 rfl
theorem atS {x : Str} {z : Int} (h0 : 0 ≤ z) (h1 : z < (x.length : Nat)) : ∃ c, atI x.cps.toList z = some c := by
 have e : z = ((z.toNat : Nat) : Int) := by lia
 have h2 : z.toNat < x.cps.toList.length := by
  have h3 : x.length = x.cps.toList.length := by show x.cps.size = _; exact Array.length_toList.symm
  lia
 exact ⟨_, by rw [e]; exact atI_nat (gE h2)⟩
theorem letter8 {f : Int} (h0 : 0 ≤ f) (h1 : f < 8) : atI ("abcdefgh" : Str).cps.toList f = some (97 + f.toNat) := by
 rcases (show f = 0 ∨ f = 1 ∨ f = 2 ∨ f = 3 ∨ f = 4 ∨ f = 5 ∨ f = 6 ∨ f = 7 by lia) with h | h | h | h | h | h | h | h <;> (subst h; decide +kernel)
theorem len26 : ("abcdefghijklmnopqrstuvwxyz" : Str).length = 26 := by decide +kernel
theorem len8 : ("abcdefgh" : Str).length = 8 := by decide +kernel
theorem pick5 {a b c d e z : Int} : ∃ m : Int, atI [V.int a, V.int b, V.int c, V.int d, V.int e] (z % 5) = some (.int m) ∧ (m = a ∨ m = b ∨ m = c ∨ m = d ∨ m = e) := by
 rcases (show z % 5 = 0 ∨ z % 5 = 1 ∨ z % 5 = 2 ∨ z % 5 = 3 ∨ z % 5 = 4 by lia) with h | h | h | h | h <;> rw [h]
 ·exact ⟨a, rfl, .inl rfl⟩
 ·exact ⟨b, rfl, .inr (.inl rfl)⟩
 ·exact ⟨c, rfl, .inr (.inr (.inl rfl))⟩
 ·exact ⟨d, rfl, .inr (.inr (.inr (.inl rfl)))⟩
 ·exact ⟨e, rfl, .inr (.inr (.inr (.inr rfl)))⟩
inductive IspName (K : Fg) (vs : List V) (H : Hp) (Q : VK) : Prop
 | mk (a : Addr) (ns : List Int) (k f : Int) (h1 : vs = [.ref a, .int k, .int f]) (h2 : SqL K H a (ns.map V.int)) (h3 : 0 ≤ k) (h4 : k ≤ 1000) (h5 : 0 ≤ f) (h6 : f < 8) (h7 : ∀ (x : Str) (H' : Hp), fl x = 97 + f.toNat → x.length ≤ 12 → Same H H' → Q (.str x) H')
def spName (K : Fg) : Sp := fun vs H Q _ => IspName K vs H Q
section
variable {P : Program} {w : World} {K : Fg} {mg : Str → Option Value} {base : Heap}
theorem scName : FnScope ["_law_script", "_law_k", "_law_first", "_law_number", "_law_found", "_law_j"] ["_law_script", "_law_k", "_law_first"] (defScope sName) := ⟨rfl, rfl, rfl, by decide +kernel, rfl, by decide +kernel, by decide +kernel⟩
theorem okName (F : Fn K mg "_law_name" sName) (M : Mg mg) (cl_mixed : Cal P w K mg base 2 "_law_mixed" ["_law_script", "_law_k"] (spMixed K)) : Cal P w K mg base 3 "_law_name" ["_law_script", "_law_k", "_law_first"] (spName K) := by
 refine cal_of F scName (fun _ _ _ _ _ _ => bind3 (fun _ _ _ => rfl)) (fun vs H Q E h => ?_) (fun f cdv A outer s H vs Q E hr h => ?_)
 ·obtain ⟨a, ns, k, f, rfl, _⟩ := h
  rfl
 obtain ⟨a, ns, k, f, rfl, hS, h0, h1, f0, f1, q⟩ := h
 refine ⟨_, (pss_cons (ps_set (i := 3) scName.nd rfl (Or.inl rfl) (pe_fn cl_mixed (hr.mono (by decide)) (pa_cons (pv 0) (pa_cons (pv 1) pa_nil))))
  (pss_cons (ps_set (i := 4) scName.nd rfl (Or.inl rfl) (pe_ix ix_str pe_str (pv 2) (fun _ _ => rfl)))
  (pss_cons (ps_for PassesOwn.never rfl (pi_range1 rfl M.range_ (pa_cons (pe_ix ix_list (pe_lst (pa_cons pe_int (pa_cons pe_int (pa_cons pe_int (pa_cons pe_int (pa_cons pe_int pa_nil)))))) (pe_op op_mod (pv 3) pe_int) (fun _ _ => rfl)) pa_nil)) (pg_name (i := 5) scName.nd rfl (Or.inl rfl) (Or.inl rfl)) (pss_cons (ps_set (i := 3) scName.nd rfl (Or.inl rfl) (pe_op op_add (pe_op op_add (pe_op op_fdiv (pv 3) pe_int) (pe_op op_mul pe_int (pe_fn cl_mixed (hr.mono (by decide)) (pa_cons (pv 0) (pa_cons (pe_op op_add (pv 1) pe_int) pa_nil))))) (pv 5)))
  (pss_one (ps_set (i := 4) scName.nd rfl (Or.inl rfl) (pe_op op_add_str (pv 4) (pe_ix ix_str pe_str (pe_op op_mod (pv 3) pe_int) (fun _ _ => rfl)))))))
  (pss_one (ps_ret (pv 4)))))), ?_⟩
 refine seq_let4 ?_
 intro rT4 rT3 rT2
 have hz : (20000 : Nat) < sizeLine := by decide
 refine ⟨_, rfl, _, rfl, a, ns, k, rfl, hS, h0, by lia, fun z z0 z1 => ?_⟩
 refine ⟨_, rfl, _, _, _, rfl, rfl, by rw [len8]; decide, letter8 f0 f1, ?_⟩
 refine ⟨by show 5 ≤ sizeLine; decide, fun p hp => ?_⟩
 have s0 := same_new' hp (.lst [.int 0, .int 0, .int 1, .int 2, .int 11])
 obtain ⟨m, em, hm⟩ := pick5 (a := 0) (b := 0) (c := 1) (d := 2) (e := 11) (z := z)
 have m0 : 0 ≤ m ∧ m ≤ 11 := by lia
 let Pv3 : Nat → St → Hp → Prop := fun i σ H1 => ∃ (zz : Int) (x : Str) (v : Option V), σ = [some (.ref a), some (.int k), some (.int f), some (.int zz), some (.str x), v] ∧ fl x = 97 + f.toNat ∧ x.length = 1 + i ∧ Same H H1
 refine ⟨_, rfl, _, _, rfl, rfl, (by show (0 : Int) < _; decide +kernel), p, _, _, _, rfl, rfl, sqL_new upd_same, em, m, rfl, by lia, by lia, for_range (lo := 0) (n := m.toNat) Pv3 ⟨z, _, none, rfl, rfl, rfl, s0⟩ ?_ ?_⟩
 ·rintro i σ H1 hi ⟨zz, x, v, rfl, hf, hx, s1⟩
  refine ⟨_, rfl, _, _, rfl, rfl, ⟨by decide, by decide⟩, _, rfl, _, rfl, _, _, rfl, rfl, a, ns, _, rfl, s1.seq hS, by lia, by lia, fun y y0 y1 => ?_⟩
  refine ⟨_, _, rfl, rfl, mulC _ _ (by decide) (by decide), _, _, rfl, rfl, _, rfl, _, _, rfl, rfl, ?_⟩
  obtain ⟨c, ec⟩ := atS (x := "abcdefghijklmnopqrstuvwxyz") (z := (zz / 5 + 7 * y + (0 + (i : Int))) % 26) (by lia) (by rw [len26]; lia)
  refine ⟨_, rfl, _, rfl, _, _, rfl, rfl, (by show (0 : Int) < _; decide +kernel), _, _, _, rfl, rfl, by rw [len26]; decide, ec, _, _, rfl, rfl, ?_, _, _, _, rfl, ?_, ?_, s1⟩
  ·show x.length + 1 ≤ sizeLine
   lia
  ·rw [fl_app (by lia)]; exact hf
  ·rw [len_app, hx]
   show 1 + i + 1 = 1 + (i + 1)
   lia
 ·rintro σ H1 ⟨zz, x, v, rfl, hf, hx, s1⟩
  exact ⟨_, rfl, q x H1 hf (by lia) s1⟩
end
abbrev sThings : Stmt := top 23
theorem pick4 {a b c d z : Int} : ∃ m : Int, atI [V.int a, V.int b, V.int c, V.int d] (z % 4) = some (.int m) ∧ (m = a ∨ m = b ∨ m = c ∨ m = d) := by
 rcases (show z % 4 = 0 ∨ z % 4 = 1 ∨ z % 4 = 2 ∨ z % 4 = 3 by lia) with h | h | h | h <;> rw [h]
 ·exact ⟨a, rfl, .inl rfl⟩
 ·exact ⟨b, rfl, .inr (.inl rfl)⟩
 ·exact ⟨c, rfl, .inr (.inr (.inl rfl))⟩
 ·exact ⟨d, rfl, .inr (.inr (.inr rfl))⟩
inductive Thing : BR → Prop
 | bench (b r) : Thing (.bench b r)
 | shut (b f t) : Thing (.shut b f t)
 | store (s m f) : Thing (.store s m f)
structure ThOk (n : Int) (T : List BR) : Prop where
 ok : ∀ r ∈ T, r.ok n
 th : ∀ r ∈ T, Thing r
 nd : T.Pairwise Apart
theorem ThOk.snoc {n : Int} {T : List BR} {r : BR} (h : ThOk n T) (h1 : r.ok n) (h2 : Thing r) (h3 : ∀ q ∈ T, Apart q r) : ThOk n (T ++ [r]) := by
 refine ⟨fun q hq => ?_, fun q hq => ?_, ?_⟩
 ·rcases List.mem_append.mp hq with z | z
  ·exact h.ok q z
  ·rw [List.mem_singleton.mp z]; exact h1
 ·rcases List.mem_append.mp hq with z | z
  ·exact h.th q z
  ·rw [List.mem_singleton.mp z]; exact h2
 ·refine List.pairwise_append.mpr ⟨h.nd, List.pairwise_singleton _ _, fun a ha b hb => ?_⟩
  rw [List.mem_singleton.mp hb]
  exact h3 a ha
def flB : BR → Nat
 | .bench b _ => fl b
 | _ => 0
def flS : BR → Nat
 | .store s _ _ => fl s
 | _ => 0
theorem apart_bench {q : BR} {b : Str} {r : Int} (hq : Thing q) (h : flB q < fl b) : Apart q (.bench b r) := by
 cases hq with
 | bench b' r' =>
  refine .inr (.inr fun z => ?_)
  have h' : fl b' < fl b := h
  have z' : [(Sum.inr ("bench" : Str) : Key), Sum.inr b'] = [Sum.inr ("bench" : Str), Sum.inr b] := z
  injection z' with _ z2
  injection z2 with z3
  injection z3 with z4
  rw [z4] at h'
  exact absurd h' (Nat.lt_irrefl _)
 | shut b' f t => exact .inl rfl
 | store s m f => exact apart_kind (by show (3 : Nat) ≠ 1; decide)
theorem apart_store {q : BR} {s : Str} {m f : Int} (hq : Thing q) (h : flS q < fl s) : Apart q (.store s m f) := by
 cases hq with
 | bench b' r' => exact apart_kind (by show (1 : Nat) ≠ 3; decide)
 | shut b' f t => exact .inl rfl
 | store s' m' f' =>
  refine .inr (.inr fun z => ?_)
  have h' : fl s' < fl s := h
  have z' : [(Sum.inr ("store" : Str) : Key), Sum.inr s'] = [Sum.inr ("store" : Str), Sum.inr s] := z
  injection z' with _ z2
  injection z2 with z3
  injection z3 with z4
  rw [z4] at h'
  exact absurd h' (Nat.lt_irrefl _)
inductive IspThings (K : Fg) (vs : List V) (H : Hp) (Q : VK) : Prop
 | mk (a : Addr) (ns : List Int) (n : Int) (h1 : vs = [.ref a, .int n]) (h2 : SqL K H a (ns.map V.int)) (h3 : 1 ≤ n) (h4 : n ≤ 12) (h5 : ∀ (g : Addr) (vs : List V) (B : List BR) (H' : Hp), Same H H' → H g = none → H' g = some (.lst vs) → RowsB H' vs B → ThOk n B → B.length ≤ 11 → Q (.ref g) H')
def spThings (K : Fg) : Sp := fun vs H Q _ => IspThings K vs H Q
section
variable {P : Program} {w : World} {K : Fg} {mg : Str → Option Value} {base : Heap}
theorem scThings : FnScope ["_law_script", "_law_days", "_law_found", "_law_number", "_law_k", "_law_bench", "_law_more", "_law_j", "_law_end", "_law_most"] ["_law_script", "_law_days"] (defScope sThings) := ⟨rfl, rfl, rfl, by decide +kernel, rfl, by decide +kernel, by decide +kernel⟩
theorem okThings (F : Fn K mg "_law_things" sThings) (M : Mg mg) (cl_mixed : Cal P w K mg base 2 "_law_mixed" ["_law_script", "_law_k"] (spMixed K)) (cl_name : Cal P w K mg base 3 "_law_name" ["_law_script", "_law_k", "_law_first"] (spName K)) : Cal P w K mg base 4 "_law_things" ["_law_script", "_law_days"] (spThings K) := by
 refine cal_of F scThings (fun _ _ _ _ _ _ => bind2 (fun _ _ => rfl)) (fun vs H Q E h => ?_) (fun f cdv A outer s H vs Q E hr h => ?_)
 ·obtain ⟨a, ns, n, rfl, _⟩ := h
  rfl
 obtain ⟨a, ns, n, rfl, hS, n1, n12, q⟩ := h
 refine ⟨_, (pss_cons (ps_set (i := 2) scThings.nd rfl (Or.inl rfl) (pe_lst pa_nil))
  (pss_cons (ps_set (i := 3) scThings.nd rfl (Or.inl rfl) (pe_fn cl_mixed (hr.mono (by decide)) (pa_cons (pv 0) (pa_cons pe_int pa_nil))))
  (pss_cons (ps_for PassesOwn.never rfl (pi_range1 rfl M.range_ (pa_cons (pe_op op_mod (pv 3) pe_int) pa_nil)) (pg_name (i := 4) scThings.nd rfl (Or.inl rfl) (Or.inl rfl)) (pss_cons (ps_set (i := 5) scThings.nd rfl (Or.inl rfl) (pe_fn cl_name (hr.mono (by decide)) (pa_cons (pv 0) (pa_cons (pe_op op_add pe_int (pe_op op_mul pe_int (pv 4))) (pa_cons (pv 4) pa_nil)))))
  (pss_cons (ps_expr (pe_bm PySem.F.plainAttrs_list PySem.F.slot_list_append PySem.F.type_list_append mt_append (pv 2) (pa_cons (pe_lst (pa_cons pe_str (pa_cons (pv 5) (pa_cons (pe_ix ix_list (pe_lst (pa_cons pe_int (pa_cons pe_int (pa_cons pe_int (pa_cons pe_int (pa_cons pe_int pa_nil)))))) (pe_op op_mod (pe_fn cl_mixed (hr.mono (by decide)) (pa_cons (pv 0) (pa_cons (pe_op op_add pe_int (pv 4)) pa_nil))) pe_int) (fun _ _ => rfl)) pa_nil)))) pa_nil)))
  (pss_cons (ps_set (i := 6) scThings.nd rfl (Or.inl rfl) (pe_fn cl_mixed (hr.mono (by decide)) (pa_cons (pv 0) (pa_cons (pe_op op_add pe_int (pv 4)) pa_nil))))
  (pss_one (ps_for PassesOwn.never rfl (pi_range1 rfl M.range_ (pa_cons (pe_op op_mod (pv 6) pe_int) pa_nil)) (pg_name (i := 7) scThings.nd rfl (Or.inl rfl) (Or.inl rfl)) (pss_cons (ps_set (i := 8) scThings.nd rfl (Or.inl rfl) (pe_op op_add pe_int (pe_op op_mod (pe_op op_fdiv (pv 6) pe_int) (pv 1))))
  (pss_cons (ps_expr (pe_bm PySem.F.plainAttrs_list PySem.F.slot_list_append PySem.F.type_list_append mt_append (pv 2) (pa_cons (pe_lst (pa_cons pe_str (pa_cons (pv 5) (pa_cons (pe_op op_mod (pe_op op_fdiv (pv 6) pe_int) (pv 8)) (pa_cons (pv 8) pa_nil))))) pa_nil)))
  (pss_one (ps_set (i := 6) scThings.nd rfl (Or.inl rfl) (pe_op op_fdiv (pv 6) pe_int)))))))))))
  (pss_cons (ps_for PassesOwn.never rfl (pi_range1 rfl M.range_ (pa_cons (pe_op op_mod (pe_op op_fdiv (pv 3) pe_int) pe_int) pa_nil)) (pg_name (i := 4) scThings.nd rfl (Or.inl rfl) (Or.inl rfl)) (pss_cons (ps_set (i := 9) scThings.nd rfl (Or.inl rfl) (pe_ix ix_list (pe_lst (pa_cons pe_int (pa_cons pe_int (pa_cons pe_int (pa_cons pe_int pa_nil))))) (pe_op op_mod (pe_fn cl_mixed (hr.mono (by decide)) (pa_cons (pv 0) (pa_cons (pe_op op_add pe_int (pv 4)) pa_nil))) pe_int) (fun _ _ => rfl)))
  (pss_one (ps_expr (pe_bm PySem.F.plainAttrs_list PySem.F.slot_list_append PySem.F.type_list_append mt_append (pv 2) (pa_cons (pe_lst (pa_cons pe_str (pa_cons (pe_fn cl_name (hr.mono (by decide)) (pa_cons (pv 0) (pa_cons (pe_op op_add pe_int (pe_op op_mul pe_int (pv 4))) (pa_cons (pv 4) pa_nil)))) (pa_cons (pv 9) (pa_cons (pe_op op_mod (pe_fn cl_mixed (hr.mono (by decide)) (pa_cons (pv 0) (pa_cons (pe_op op_add pe_int (pv 4)) pa_nil))) (pe_op op_add (pv 9) pe_int)) pa_nil))))) pa_nil))))))
  (pss_one (ps_ret (pv 2))))))), ?_⟩
 refine seq_let5 ?_
 intro rT5 rT4 rT3 rT2
 have hz : (20000 : Nat) < sizeLine := by decide
 refine ⟨by show 0 ≤ sizeLine; decide, fun g hg => ?_⟩
 have s0 := same_new' hg (.lst [])
 have hg0 : upd H g (.lst []) g = some (.lst []) := upd_same
 generalize upd H g (.lst []) = H0 at s0 hg0 ⊢
 refine ⟨_, rfl, a, ns, 1, rfl, s0.seq hS, by decide, by decide, fun z z0 z1 => ?_⟩
 let Pv4 : Nat → St → Hp → Prop := fun i σ H1 => ∃ (v4 v5 v6 v7 v8 v9 : Option V) (vs : List V) (B : List BR), σ = [some (.ref a), some (.int n), some (.ref g), some (.int z), v4, v5, v6, v7, v8, v9] ∧ H1 g = some (.lst vs) ∧ RowsB H1 vs B ∧ ThOk n B ∧ (∀ r ∈ B, flB r < 97 + i ∧ flS r = 0) ∧ B.length ≤ 3 * i ∧ Same H H1
 refine ⟨_, rfl, _, _, rfl, rfl, (by show (0 : Int) < _; decide +kernel), z % 4, rfl, by lia, by lia, for_range (lo := 0) (n := (z % 4).toNat) Pv4 ⟨none, none, none, none, none, none, [], [], rfl, hg0, .nil, ⟨fun _ h => (nomatch h), fun _ h => (nomatch h), .nil⟩, fun _ h => (nomatch h), Nat.zero_le _, s0⟩ ?_ ?_⟩
 ·rintro i σ H1 hi ⟨v4, v5, v6, v7, v8, v9, vs, B, rfl, hg1, hB, hT, hfl, hl, s1⟩
  refine seq_let4 ?_
  intro rB4 rB3 rB2
  have hi' : i < 4 := by lia
  have lv := hB.length
  refine ⟨_, rfl, _, rfl, _, _, rfl, rfl, mulC _ _ (by decide) (by decide), _, _, rfl, rfl, _, rfl, a, ns, _, _, rfl, s1.seq hS, by lia, by lia, by lia, by lia, fun b H2 hb hbl s2 => ?_⟩
  have hb' : fl b = 97 + i := by rw [hb]; lia
  refine ⟨_, rfl, .inl ⟨rfl, _, sqL_new (s2 _ _ hg1)⟩, _, rfl, by show 5 ≤ sizeLine; decide, fun p hp => ?_⟩
  have s3 := s2.trans (same_new' hp (.lst [.int 1, .int 2, .int 5, .int 99, .int 0]))
  refine ⟨_, rfl, _, rfl, _, _, rfl, rfl, a, ns, _, rfl, (s1.trans s3).seq hS, by lia, by lia, fun y y0 y1 => ?_⟩
  obtain ⟨m, em, hm⟩ := pick5 (a := 1) (b := 2) (c := 5) (d := 99) (e := 0) (z := y)
  refine ⟨_, _, rfl, rfl, (by show (0 : Int) < _; decide +kernel), p, _, _, _, rfl, rfl, sqL_new upd_same, em, by show 3 ≤ sizeLine; decide, fun l hl' => ?_⟩
  have s4 := s3.trans (same_new' hl' (.lst [.str "bench", .str b, .int m]))
  have hl4 : upd (upd H2 p (.lst [.int 1, .int 2, .int 5, .int 99, .int 0])) l (.lst [.str "bench", .str b, .int m]) l = some (.lst ((BR.bench b m).cells.map kV)) := upd_same
  generalize upd (upd H2 p (.lst [.int 1, .int 2, .int 5, .int 99, .int 0])) l (.lst [.str "bench", .str b, .int m]) = H4 at s4 hl4 ⊢
  have hg4 := s4 _ _ hg1
  refine ⟨g, _, _, rfl, rfl, hg4, by lia, ?_⟩
  have hB5 : RowsB (upd H4 g (.lst (vs ++ [.ref l]))) (vs ++ [.ref l]) (B ++ [.bench b m]) := ((hB.same s4).snoc hl4).updL hg4 hB.noRow
  have hg5 : upd H4 g (.lst (vs ++ [.ref l])) g = some (.lst (vs ++ [.ref l])) := upd_same
  have s5 : Same H (upd H4 g (.lst (vs ++ [.ref l]))) := fun c o e => by rw [upd_ne (ne_of_none e hg)]; exact (s1.trans s4) _ _ e
  generalize upd H4 g (.lst (vs ++ [.ref l])) = H5 at hB5 hg5 s5 ⊢
  refine ⟨_, rfl, _, rfl, _, _, rfl, rfl, a, ns, _, rfl, s5.seq hS, by lia, by lia, fun mo mo0 mo1 => ?_⟩
  have hT5 : ThOk n (B ++ [.bench b m]) := hT.snoc ⟨by lia, by lia⟩ (.bench _ _) fun r hr => apart_bench (hT.th r hr) (by rw [hb']; exact (hfl r hr).1)
  let Pv5 : Nat → St → Hp → Prop := fun j σ H6 => ∃ (mo' : Int) (v7 v8 v9 : Option V) (vs : List V) (B : List BR), σ = [some (.ref a), some (.int n), some (.ref g), some (.int z), some (.int (0 + (i : Int))), some (.str b), some (.int mo'), v7, v8, v9] ∧ H6 g = some (.lst vs) ∧ RowsB H6 vs B ∧ ThOk n B ∧ (∀ r ∈ B, flB r < 97 + (i + 1) ∧ flS r = 0) ∧ B.length ≤ 3 * i + 1 + j ∧ Same H H6
  refine ⟨_, rfl, _, _, rfl, rfl, (by show (0 : Int) < _; decide +kernel), mo % 3, rfl, by lia, by lia, for_range (lo := 0) (n := (mo % 3).toNat) Pv5 ⟨mo, _, _, _, _, _, rfl, hg5, hB5, hT5, fun r hr => ?_, by rw [List.length_append]; show B.length + 1 ≤ _; lia, s5⟩ ?_ ?_⟩
  ·rcases List.mem_append.mp hr with h | h
   ·have := hfl r h; exact ⟨by lia, this.2⟩
   ·rw [List.mem_singleton.mp h]; exact ⟨by show fl b < _; lia, rfl⟩
  ·rintro j σ H6 hj ⟨mo', v7, v8, v9, vs6, B6, rfl, hg6, hB6, hT6, hfl6, hl6, s6⟩
   refine seq_let3 ?_
   intro rB3 rB2
   have lv6 := hB6.length
   have e0 := Int.emod_nonneg (mo' / 3) (show n ≠ 0 by lia)
   have e1 := Int.emod_lt_of_pos (mo' / 3) (show 0 < n by lia)
   generalize hE : mo' / 3 % n = E at e0 e1
   have f0 := Int.emod_nonneg (mo' / 40) (show (1 + E) ≠ 0 by lia)
   have f1 := Int.emod_lt_of_pos (mo' / 40) (show 0 < 1 + E by lia)
   refine ⟨_, rfl, _, _, rfl, rfl, ⟨by decide, by decide⟩, _, rfl, _, _, rfl, rfl, (by show 0 < n; lia), _, _, rfl, rfl, ?_⟩
   rw [hE]
   refine ⟨_, rfl, .inl ⟨rfl, _, sqL_new hg6⟩, _, rfl, _, rfl, _, _, rfl, rfl, ⟨by decide, by decide⟩, _, rfl, _, _, rfl, rfl, (by show 0 < 1 + E; lia), _, rfl, by show 4 ≤ sizeLine; decide, fun l hl' => ?_⟩
   have s7 := same_new' hl' (.lst [.str "shut", .str b, .int (mo' / 40 % (1 + E)), .int (1 + E)])
   have hl7 : upd H6 l (.lst [.str "shut", .str b, .int (mo' / 40 % (1 + E)), .int (1 + E)]) l = some (.lst ((BR.shut b (mo' / 40 % (1 + E)) (1 + E)).cells.map kV)) := upd_same
   generalize upd H6 l (.lst [.str "shut", .str b, .int (mo' / 40 % (1 + E)), .int (1 + E)]) = H7 at s7 hl7 ⊢
   have hg7 := s7 _ _ hg6
   refine ⟨g, _, _, rfl, rfl, hg7, by lia, ?_⟩
   refine ⟨_, rfl, _, _, rfl, rfl, ⟨by decide, by decide⟩, _, _, _, _, _, _, rfl, upd_same, ((hB6.same s7).snoc hl7).updL hg7 hB6.noRow, hT6.snoc ⟨f0, f1, by lia⟩ (.shut _ _ _) fun r _ => .inr (.inl rfl), fun r hr => ?_, by rw [List.length_append]; show B6.length + 1 ≤ _; lia, fun c o e => by rw [upd_ne (ne_of_none e hg)]; exact (s6.trans s7) _ _ e⟩
   rcases List.mem_append.mp hr with h | h
   ·exact hfl6 r h
   ·rw [List.mem_singleton.mp h]; exact ⟨by show 0 < _; lia, rfl⟩
  ·rintro σ H6 ⟨mo', v7, v8, v9, vs6, B6, rfl, hg6, hB6, hT6, hfl6, hl6, s6⟩
   exact ⟨_, _, _, _, _, _, vs6, B6, rfl, hg6, hB6, hT6, hfl6, by lia, s6⟩
 ·rintro σ H1 ⟨v4, v5, v6, v7, v8, v9, vs, B, rfl, hg1, hB, hT, hfl, hl, s1⟩
  let Pv6 : Nat → St → Hp → Prop := fun i σ H1 => ∃ (v4 v5 v6 v7 v8 v9 : Option V) (vs : List V) (B : List BR), σ = [some (.ref a), some (.int n), some (.ref g), some (.int z), v4, v5, v6, v7, v8, v9] ∧ H1 g = some (.lst vs) ∧ RowsB H1 vs B ∧ ThOk n B ∧ (∀ r ∈ B, flS r < 97 + i) ∧ B.length ≤ 9 + i ∧ Same H H1
  refine ⟨_, rfl, _, _, rfl, rfl, ⟨by decide, by decide⟩, _, _, rfl, rfl, (by show (0 : Int) < _; decide +kernel), z / 4 % 3, rfl, by lia, by lia, for_range (lo := 0) (n := (z / 4 % 3).toNat) Pv6 ⟨_, _, _, _, _, _, vs, B, rfl, hg1, hB, hT, fun r hr => by rw [(hfl r hr).2]; lia, by lia, s1⟩ ?_ ?_⟩
  ·rintro i σ H2 hi ⟨v4, v5, v6, v7, v8, v9, vs2, B2, rfl, hg2, hB2, hT2, hfl2, hl2, s2⟩
   have hi' : i < 3 := by lia
   have lv := hB2.length
   refine ⟨by show 4 ≤ sizeLine; decide, fun p hp => ?_⟩
   have s3 := same_new' hp (.lst [.int 0, .int 3, .int 9, .int 999])
   have hp3 : upd H2 p (.lst [.int 0, .int 3, .int 9, .int 999]) p = some (.lst [.int 0, .int 3, .int 9, .int 999]) := upd_same
   generalize upd H2 p (.lst [.int 0, .int 3, .int 9, .int 999]) = H3 at s3 hp3 ⊢
   refine ⟨_, rfl, _, rfl, _, _, rfl, rfl, a, ns, _, rfl, (s2.trans s3).seq hS, by lia, by lia, fun y y0 y1 => ?_⟩
   obtain ⟨m, em, hm⟩ := pick4 (a := 0) (b := 3) (c := 9) (d := 999) (z := y)
   have hm' : 0 ≤ m ∧ m ≤ 999 := by lia
   refine ⟨_, _, rfl, rfl, (by show (0 : Int) < _; decide +kernel), p, _, _, _, rfl, rfl, sqL_new hp3, em, ?_⟩
   refine ⟨_, rfl, .inl ⟨rfl, _, sqL_new (s3 _ _ hg2)⟩, _, rfl, _, rfl, _, _, rfl, rfl, mulC _ _ (by decide) (by decide), _, _, rfl, rfl, _, rfl, a, ns, _, _, rfl, (s2.trans s3).seq hS, by lia, by lia, by lia, by lia, fun x H4 hx hxl s4 => ?_⟩
   have hx' : fl x = 97 + i := by rw [hx]; lia
   have s34 := s3.trans s4
   refine ⟨_, rfl, _, rfl, _, rfl, _, _, rfl, rfl, a, ns, _, rfl, (s2.trans s34).seq hS, by lia, by lia, fun y' y0' y1' => ?_⟩
   have f0 := Int.emod_nonneg y' (show (m + 1) ≠ 0 by lia)
   have f1 := Int.emod_lt_of_pos y' (show 0 < m + 1 by lia)
   refine ⟨_, rfl, _, _, rfl, rfl, _, _, rfl, rfl, (by show 0 < m + 1; lia), by show 4 ≤ sizeLine; decide, fun l hl' => ?_⟩
   have s5 := s34.trans (same_new' hl' (.lst [.str "store", .str x, .int m, .int (y' % (m + 1))]))
   have hl5 : upd H4 l (.lst [.str "store", .str x, .int m, .int (y' % (m + 1))]) l = some (.lst ((BR.store x m (y' % (m + 1))).cells.map kV)) := upd_same
   generalize upd H4 l (.lst [.str "store", .str x, .int m, .int (y' % (m + 1))]) = H5 at s5 hl5 ⊢
   have hg5 := s5 _ _ hg2
   refine ⟨g, _, _, rfl, rfl, hg5, by lia, ?_⟩
   refine ⟨_, _, _, _, _, _, _, _, rfl, upd_same, ((hB2.same s5).snoc hl5).updL hg5 hB2.noRow, hT2.snoc ⟨f0, by lia, hm'.2⟩ (.store _ _ _) fun r hr => apart_store (hT2.th r hr) (by rw [hx']; exact hfl2 r hr), fun r hr => ?_, by rw [List.length_append]; show B2.length + 1 ≤ _; lia, fun c o e => by rw [upd_ne (ne_of_none e hg)]; exact (s2.trans s5) _ _ e⟩
   rcases List.mem_append.mp hr with h | h
   ·have := hfl2 r h; lia
   ·rw [List.mem_singleton.mp h]; show fl x < _; lia
  ·rintro σ H2 ⟨v4, v5, v6, v7, v8, v9, vs2, B2, rfl, hg2, hB2, hT2, hfl2, hl2, s2⟩
   exact ⟨_, rfl, q g vs2 B2 H2 s2 hg hg2 hB2 hT2 (by lia)⟩
end
abbrev sWay : Stmt := top 24
theorem at_b1 (b : Str) (r : Int) : atI ((BR.bench b r).cells.map kV) 1 = some (.str b) := rfl
theorem at_s1 (b : Str) (m f : Int) : atI ((BR.store b m f).cells.map kV) 1 = some (.str b) := rfl
theorem at_w0 {r : BR} {x : Str} (h : r.word = x) : atI (r.cells.map kV) 0 = some (.str x) := by rw [← h]; exact at_word r
theorem bind6 {F : List Value → Prop} (h : ∀ a b c d e f, F [a, b, c, d, e, f]) : ∀ us : List Value, us.length = 6 → F us := fun us hl => by
 cases us with
 | nil => cases hl
 | cons a us => exact bind5 (F := fun us => F (a :: us)) (h a) us (Nat.succ.inj hl)
theorem neS {a b : Str} (h : a ≠ b) : ¬ (decide (V.str a = V.str b) = true) := fun z => by
 have := of_decide_eq_true z
 injection this with z1
 exact h z1
theorem eqS {a b : Str} (h : decide (V.str a = V.str b) = true) : a = b := by
 have := of_decide_eq_true h
 injection this
theorem yesS (a : Str) : decide (V.str a = V.str a) = true := decide_eq_true rfl
theorem w_bs : ("bench" : Str) ≠ "store" := by decide +kernel
theorem w_sb : ("store" : Str) ≠ "bench" := by decide +kernel
theorem w_hb : ("shut" : Str) ≠ "bench" := by decide +kernel
theorem w_hs : ("shut" : Str) ≠ "store" := by decide +kernel
theorem pick2 {a b z : Int} : ∃ m : Int, atI [V.int a, V.int b] (z % 2) = some (.int m) ∧ (m = a ∨ m = b) := by
 rcases (show z % 2 = 0 ∨ z % 2 = 1 by lia) with h | h <;> rw [h]
 ·exact ⟨a, rfl, .inl rfl⟩
 ·exact ⟨b, rfl, .inr rfl⟩
theorem pick3 {a b c z : Int} : ∃ m : Int, atI [V.int a, V.int b, V.int c] (z % 3) = some (.int m) ∧ (m = a ∨ m = b ∨ m = c) := by
 rcases (show z % 3 = 0 ∨ z % 3 = 1 ∨ z % 3 = 2 by lia) with h | h | h <;> rw [h]
 ·exact ⟨a, rfl, .inl rfl⟩
 ·exact ⟨b, rfl, .inr (.inl rfl)⟩
 ·exact ⟨c, rfl, .inr (.inr rfl)⟩
theorem pickTG (N : Int) : ∃ kk : Fin 3, atI [V.str "takes", V.str "gives"] (N % 2) = some (.str (useW kk)) ∧ kk ≠ 0 ∧ (N % 2 = 1 → kk = 2) := by
 rcases (show N % 2 = 0 ∨ N % 2 = 1 by lia) with h | h <;> rw [h]
 ·exact ⟨1, rfl, by decide, fun z => absurd z (by decide)⟩
 ·exact ⟨2, rfl, by decide, fun _ => rfl⟩
def UseOf (T : List BR) (w v : Str) (i : Nat) (r : BR) : Prop := ∃ k t m, r = .use k w v t m ∧ 1 ≤ m ∧ m ≤ 99 ∧ ((k = 0 ∧ ∃ j b, j < i ∧ T[j]? = some (.bench t b)) ∨ (k ≠ 0 ∧ ∃ j b c, j < i ∧ T[j]? = some (.store t b c)))
theorem UseOf.mono {T : List BR} {w v : Str} {i j : Nat} {r : BR} (h : UseOf T w v i r) (hij : i ≤ j) : UseOf T w v j r := by
 obtain ⟨k, t, m, e, m1, m2, h⟩ := h
 refine ⟨k, t, m, e, m1, m2, ?_⟩
 rcases h with ⟨e, j', b, h1, h2⟩ | ⟨e, j', b, c, h1, h2⟩
 ·exact .inl ⟨e, j', b, by lia, h2⟩
 ·exact .inr ⟨e, j', b, c, by lia, h2⟩
theorem pw_at {α : Type} {R : α → α → Prop} : ∀ {l : List α} {i j : Nat} {x y : α}, l.Pairwise R → i < j → l[i]? = some x → l[j]? = some y → R x y
 | a :: l, 0, j + 1, x, y, h, _, e1, e2 => by
  cases e1
  exact (List.pairwise_cons.mp h).1 y (List.mem_of_getElem? (show l[j]? = some y from e2))
 | a :: l, i + 1, j + 1, x, y, h, hij, e1, e2 => pw_at (List.pairwise_cons.mp h).2 (by lia) (show l[i]? = some x from e1) (show l[j]? = some y from e2)
 | [], _, _, _, _, _, _, e1, _ => nomatch e1
 | _ :: _, _, 0, _, _, _, h, _, _ => absurd h (Nat.not_lt_zero _)
theorem useW_inj : ∀ k' k : Fin 3, useW k' = useW k → k' = k := by decide +kernel
theorem use_apart {T : List BR} {w v t : Str} {i : Nat} {k : Fin 3} {m : Int} {r : BR} (hT : T.Pairwise Apart) (h : UseOf T w v i r) (hi : (k = 0 ∧ ∃ b, T[i]? = some (.bench t b)) ∨ (k ≠ 0 ∧ ∃ b c, T[i]? = some (.store t b c))) : Apart r (.use k w v t m) := by
 obtain ⟨k', t', m', rfl, _, _, h⟩ := h
 refine .inr (.inr fun z => ?_)
 have z' : [(Sum.inr (useW k') : Key), Sum.inr w, Sum.inr v, Sum.inr t'] = [Sum.inr (useW k), Sum.inr w, Sum.inr v, Sum.inr t] := z
 injection z' with z1 z2
 injection z2 with _ z3
 injection z3 with _ z4
 injection z4 with z5
 injection z5 with z6
 injection z1 with z7
 have ek : k' = k := useW_inj k' k z7
 subst ek z6
 rcases h with ⟨e, j, b, h1, h2⟩ | ⟨e, j, b, c, h1, h2⟩
 ·rcases hi with ⟨_, b', h3⟩ | ⟨e', _⟩
  ·rcases pw_at hT h1 h2 h3 with q | q | q
   ·exact absurd q (by show ¬ (("bench" : Str) = "shut"); decide +kernel)
   ·exact absurd q (by show ¬ (("bench" : Str) = "shut"); decide +kernel)
   ·exact q rfl
  ·exact e' e
 ·rcases hi with ⟨e', _⟩ | ⟨_, b', c', h3⟩
  ·exact e e'
  ·rcases pw_at hT h1 h2 h3 with q | q | q
   ·exact absurd q (by show ¬ (("store" : Str) = "shut"); decide +kernel)
   ·exact absurd q (by show ¬ (("store" : Str) = "shut"); decide +kernel)
   ·exact q rfl
theorem way_apart {w v w' v' t : Str} {l c m : Int} {k : Fin 3} : Apart (.way w v l c) (.use k w' v' t m) := apart_kind (by show (5 : Nat) ≠ 6 + k.val; lia)
structure WayBlk (n : Int) (T : List BR) (w v : Str) (R : List BR) : Prop where
 hd : ∃ l c U, R = .way w v l c :: U ∧ 1 ≤ l ∧ l ≤ n ∧ 0 ≤ c ∧ c ≤ 999999 ∧ ∀ r ∈ U, UseOf T w v T.length r
 nd : R.Pairwise Apart
 len : R.length ≤ 1 + 2 * T.length
inductive IspWay (K : Fg) (vs : List V) (H : Hp) (Q : VK) : Prop
 | mk (a d : Addr) (ns : List Int) (st n : Int) (w v : Str) (us : List V) (T : List BR) (h1 : vs = [.ref a, .int st, .int n, .str w, .str v, .ref d]) (h2 : SqL K H a (ns.map V.int)) (h3 : 0 ≤ st) (h4 : st ≤ 1000) (h5 : 1 ≤ n) (h6 : n ≤ 12) (h7 : SqL K H d us) (h8 : RowsB H us T) (h9 : ThOk n T) (h10 : T.length ≤ 11) (h11 : ∀ (g : Addr) (vs : List V) (R : List BR) (H' : Hp), Same H H' → H g = none → H' g = some (.lst vs) → RowsB H' vs R → WayBlk n T w v R → Q (.ref g) H')
def spWay (K : Fg) : Sp := fun vs H Q _ => IspWay K vs H Q
section
variable {P : Program} {w : World} {K : Fg} {mg : Str → Option Value} {base : Heap}
theorem scWay : FnScope ["_law_script", "_law_start", "_law_days", "_law_work", "_law_way_here", "_law_things_here", "_law_number", "_law_length_here", "_law_found", "_law_thing", "_law_many_here"] ["_law_script", "_law_start", "_law_days", "_law_work", "_law_way_here", "_law_things_here"] (defScope sWay) := ⟨rfl, rfl, rfl, by decide +kernel, rfl, by decide +kernel, by decide +kernel⟩
theorem okWay (F : Fn K mg "_law_way" sWay) (M : Mg mg) (cl_mixed : Cal P w K mg base 2 "_law_mixed" ["_law_script", "_law_k"] (spMixed K)) : Cal P w K mg base 3 "_law_way" ["_law_script", "_law_start", "_law_days", "_law_work", "_law_way_here", "_law_things_here"] (spWay K) := by
 refine cal_of F scWay (fun _ _ _ _ _ _ => bind6 (fun _ _ _ _ _ _ => rfl)) (fun vs H Q E h => ?_) (fun f cdv A outer s H vs Q E hr h => ?_)
 ·obtain ⟨a, d, ns, st, n, w, v, us, T, rfl, _⟩ := h
  rfl
 obtain ⟨a, d, ns, st, n, w, v, us, T, rfl, hS, st0, st1, n1, n12, hd, hT, tT, tl, q⟩ := h
 refine ⟨_, (pss_cons (ps_set (i := 6) scWay.nd rfl (Or.inl rfl) (pe_fn cl_mixed (hr.mono (by decide)) (pa_cons (pv 0) (pa_cons (pv 1) pa_nil))))
  (pss_cons (ps_set (i := 7) scWay.nd rfl (Or.inl rfl) (pe_op op_add pe_int (pe_op op_mod (pv 6) (pe_callB (call_min2 rfl) rfl M.min bt_min (pa_cons (pv 2) (pa_cons (pe_ix ix_list (pe_lst (pa_cons pe_int (pa_cons pe_int pa_nil))) (pe_op op_mod (pe_op op_fdiv (pv 6) pe_int) pe_int) (fun _ _ => rfl)) pa_nil))))))
  (pss_cons (ps_set (i := 8) scWay.nd rfl (Or.inl rfl) (pe_lst (pa_cons (pe_lst (pa_cons pe_str (pa_cons (pv 3) (pa_cons (pv 4) (pa_cons (pv 7) (pa_cons (pe_ix ix_list (pe_lst (pa_cons (pe_op op_mod (pe_op op_fdiv (pv 6) pe_int) pe_int) (pa_cons (pe_op op_mod (pe_op op_fdiv (pv 6) pe_int) pe_int) pa_nil))) (pe_op op_mod (pv 6) pe_int) (fun _ _ => rfl)) pa_nil)))))) pa_nil)))
  (pss_cons (ps_for PassesOwn.never rfl (pi_list (pv 5)) (pg_name (i := 9) scWay.nd rfl (Or.inl rfl) (Or.inl rfl)) (pss_cons (ps_set (i := 6) scWay.nd rfl (Or.inl rfl) (pe_op op_add (pe_op op_fdivG (pe_fn cl_mixed (hr.mono (by decide)) (pa_cons (pv 0) (pa_cons (pe_op op_add (pv 1) pe_int) pa_nil))) (pe_op op_add pe_int (pe_op op_mul pe_int (pe_callB call_len_seq rfl M.len bt_len (pa_cons (pv 8) pa_nil))))) (pe_callB call_len_seq rfl M.len bt_len (pa_cons (pv 8) pa_nil))))
  (pss_cons (ps_set (i := 10) scWay.nd rfl (Or.inl rfl) (pe_ix ix_list (pe_lst (pa_cons pe_int (pa_cons pe_int (pa_cons pe_int pa_nil)))) (pe_op op_mod (pe_op op_fdiv (pv 6) pe_int) pe_int) (fun _ _ => rfl)))
  (pss_cons (ps_if (PW.pt (pw_and (pt_cmpR op_eq (pe_ix ix_list (pv 9) pe_int (fun _ _ => rfl)) pe_str (nomark _)) (pw_and1 (pt_cmpR op_gt (pe_op op_mod (pv 6) pe_int) pe_int (nomark _))))) (pss_one (ps_expr (pe_bm PySem.F.plainAttrs_list PySem.F.slot_list_append PySem.F.type_list_append mt_append (pv 8) (pa_cons (pe_lst (pa_cons pe_str (pa_cons (pv 3) (pa_cons (pv 4) (pa_cons (pe_ix ix_list (pv 9) pe_int (fun _ _ => rfl)) (pa_cons (pv 10) pa_nil)))))) pa_nil)))) pss_nil)
  (pss_cons (ps_if (PW.pt (pw_and (pt_cmpR op_eq (pe_ix ix_list (pv 9) pe_int (fun _ _ => rfl)) pe_str (nomark _)) (pw_and1 (pt_cmpR op_ne (pe_op op_mod (pv 6) pe_int) pe_int (nomark _))))) (pss_one (ps_expr (pe_bm PySem.F.plainAttrs_list PySem.F.slot_list_append PySem.F.type_list_append mt_append (pv 8) (pa_cons (pe_lst (pa_cons (pe_ix ix_list (pe_lst (pa_cons pe_str (pa_cons pe_str pa_nil))) (pe_op op_mod (pv 6) pe_int) (fun _ _ => rfl)) (pa_cons (pv 3) (pa_cons (pv 4) (pa_cons (pe_ix ix_list (pv 9) pe_int (fun _ _ => rfl)) (pa_cons (pv 10) pa_nil)))))) pa_nil)))) pss_nil)
  (pss_one (ps_if (PW.pt (pw_and (pt_cmpR op_eq (pe_ix ix_list (pv 9) pe_int (fun _ _ => rfl)) pe_str (nomark _)) (pw_and1 (pt_cmpR op_eq (pe_op op_mod (pv 6) pe_int) pe_int (nomark _))))) (pss_one (ps_expr (pe_bm PySem.F.plainAttrs_list PySem.F.slot_list_append PySem.F.type_list_append mt_append (pv 8) (pa_cons (pe_lst (pa_cons pe_str (pa_cons (pv 3) (pa_cons (pv 4) (pa_cons (pe_ix ix_list (pv 9) pe_int (fun _ _ => rfl)) (pa_cons (pe_op op_add pe_int (pe_op op_mod (pe_op op_fdiv (pv 6) pe_int) pe_int)) pa_nil)))))) pa_nil)))) pss_nil)))))))
  (pss_one (ps_ret (pv 8))))))), ?_⟩
 refine seq_let5 ?_
 intro rT5 rT4 rT3 rT2
 have hz : (20000 : Nat) < sizeLine := by decide
 have lu := hT.length
 refine ⟨_, rfl, _, rfl, a, ns, st, rfl, hS, st0, by lia, fun z z0 z1 => ?_⟩
 refine ⟨_, rfl, _, rfl, by show 2 ≤ sizeLine; decide, fun p hp => ?_⟩
 have s1 := same_new' hp (.lst [.int 3, .int 12])
 have hp1 : upd H p (.lst [.int 3, .int 12]) p = some (.lst [.int 3, .int 12]) := upd_same
 generalize upd H p (.lst [.int 3, .int 12]) = H1 at s1 hp1 ⊢
 obtain ⟨m, em, hm⟩ := pick2 (a := 3) (b := 12) (z := z / 12)
 refine ⟨_, rfl, _, _, rfl, rfl, ⟨by decide, by decide⟩, _, _, rfl, rfl, (by show (0 : Int) < _; decide +kernel), p, _, _, _, rfl, rfl, sqL_new hp1, em, _, _, rfl, ?_⟩
 obtain ⟨mm, emm⟩ : ∃ mm : Int, (if m < n then m else n) = mm := ⟨_, rfl⟩
 have hmm : 1 ≤ mm ∧ mm ≤ n := by rw [← emm]; split <;> lia
 rw [emm]
 have l0 := Int.emod_nonneg z (show mm ≠ 0 by lia)
 have l1 := Int.emod_lt_of_pos z (show 0 < mm by lia)
 refine ⟨_, _, rfl, rfl, (by show 0 < mm; lia), _, _, rfl, rfl, ?_⟩
 dsimp only
 generalize hL : 1 + z % mm = L
 have hL1 : 1 ≤ L ∧ L ≤ n := by lia
 refine ⟨_, rfl, _, rfl, _, rfl, _, rfl, _, _, rfl, rfl, ⟨by decide, by decide⟩, _, _, rfl, rfl, (by show (0 : Int) < _; decide +kernel), _, rfl, _, _, rfl, rfl, ⟨by decide, by decide⟩, _, _, rfl, rfl, (by show (0 : Int) < _; decide +kernel), by show 2 ≤ sizeLine; decide, fun p2 hp2 => ?_⟩
 have s2 := s1.trans (same_new' hp2 (.lst [.int (z / 24 % 10), .int (z / 24 % 1000000)]))
 have hp22 : upd H1 p2 (.lst [.int (z / 24 % 10), .int (z / 24 % 1000000)]) p2 = some (.lst [.int (z / 24 % 10), .int (z / 24 % 1000000)]) := upd_same
 generalize upd H1 p2 (.lst [.int (z / 24 % 10), .int (z / 24 % 1000000)]) = H2 at s2 hp22 ⊢
 obtain ⟨c, ec, hc⟩ := pick2 (a := z / 24 % 10) (b := z / 24 % 1000000) (z := z)
 have hc' : 0 ≤ c ∧ c ≤ 999999 := by lia
 refine ⟨_, rfl, _, _, rfl, rfl, (by show (0 : Int) < _; decide +kernel), p2, _, _, _, rfl, rfl, sqL_new hp22, ec, by show 5 ≤ sizeLine; decide, fun l hl => ?_⟩
 have s3 := s2.trans (same_new' hl (.lst [.str "way", .str w, .str v, .int L, .int c]))
 have hl3 : upd H2 l (.lst [.str "way", .str w, .str v, .int L, .int c]) l = some (.lst ((BR.way w v L c).cells.map kV)) := upd_same
 generalize upd H2 l (.lst [.str "way", .str w, .str v, .int L, .int c]) = H3 at s3 hl3 ⊢
 refine ⟨by show 1 ≤ sizeLine; decide, fun g hg => ?_⟩
 have gH : H g = none := by
  cases e5 : H g with
  | none => rfl
  | some o => rw [s3 _ _ e5] at hg; cases hg
 have s4 := s3.trans (same_new' hg (.lst [.ref l]))
 have hg4 : upd H3 g (.lst [.ref l]) g = some (.lst [.ref l]) := upd_same
 have hB4 : RowsB (upd H3 g (.lst [.ref l])) [.ref l] [.way w v L c] := RowsB.snoc (vs := []) (B := []) .nil (same_new' hg _ _ _ hl3)
 generalize upd H3 g (.lst [.ref l]) = H4 at s4 hg4 hB4 ⊢
 let Pv7 : Nat → St → Hp → Prop := fun i σ H5 => ∃ (zz : Int) (v9 v10 : Option V) (vs : List V) (U : List BR), σ = [some (.ref a), some (.int st), some (.int n), some (.str w), some (.str v), some (.ref d), some (.int zz), some (.int L), some (.ref g), v9, v10] ∧ H5 g = some (.lst vs) ∧ RowsB H5 vs (.way w v L c :: U) ∧ (∀ r ∈ U, UseOf T w v i r) ∧ U.Pairwise Apart ∧ U.length ≤ 2 * i ∧ Same H H5
 refine ⟨_, rfl, d, rfl, ⟨_, s4.seq hd⟩, for_list (K := K) (a := d) (xs := us) Pv7 ⟨z, none, none, _, [], rfl, hg4, hB4, fun _ h => (nomatch h), .nil, Nat.zero_le _, s4⟩ (fun i σ H5 _ h => ?_) ?_ ?_⟩
 ·obtain ⟨zz, v9, v10, vs, U, rfl, hg5, hB5, hU, hnd, hlen, s5⟩ := h
  exact s5.seq hd
 ·rintro i x σ H5 e1 ⟨zz, v9, v10, vs, U, rfl, hg5, hB5, hU, hnd, hlen, s5⟩
  refine seq_let5 ?_
  intro rB5 rB4 rB3 rB2
  obtain ⟨r, lr, er, rfl, hr5⟩ := (hT.same s5).get e1
  have hi : i < T.length := (List.getElem?_eq_some_iff.mp er).1
  have lv := hB5.length
  rw [List.length_cons] at lv
  refine ⟨_, rfl, _, rfl, _, _, rfl, rfl, a, ns, _, rfl, s5.seq hS, by lia, by lia, fun y y0 y1 => ?_⟩
  refine ⟨_, rfl, g, _, rfl, .inl (sqL_new hg5), _, _, rfl, rfl, mulC _ _ (by decide) (by decide), _, _, rfl, rfl, _, _, rfl, rfl, ?_, _, rfl, g, _, rfl, .inl (sqL_new hg5), _, _, rfl, rfl, ?_⟩
  ·exact ⟨by lia, Nat.lt_of_le_of_lt (show (1 + 5 * ((vs.length : Nat) : Int)).natAbs ≤ 1000000 by lia) (by decide +kernel)⟩
  dsimp only
  generalize y.fdiv (1 + 5 * ((vs.length : Nat) : Int)) + ((vs.length : Nat) : Int) = N
  refine ⟨by show 3 ≤ sizeLine; decide, fun p6 hp6 => ?_⟩
  have s6 := same_new' hp6 (.lst [.int 1, .int 2, .int 99])
  have hp66 : upd H5 p6 (.lst [.int 1, .int 2, .int 99]) p6 = some (.lst [.int 1, .int 2, .int 99]) := upd_same
  generalize upd H5 p6 (.lst [.int 1, .int 2, .int 99]) = H6 at s6 hp66 ⊢
  obtain ⟨mu, emu, hmu⟩ := pick3 (a := 1) (b := 2) (c := 99) (z := N / 4)
  have hmu' : 1 ≤ mu ∧ mu ≤ 99 := by lia
  refine ⟨_, rfl, _, _, rfl, rfl, ⟨by decide, by decide⟩, _, _, rfl, rfl, (by show (0 : Int) < _; decide +kernel), p6, _, _, _, rfl, rfl, sqL_new hp66, emu, ?_⟩
  have hr6 := s6 _ _ hr5
  have hg6 := s6 _ _ hg5
  have hB6 := hB5.same s6
  have s56 := s5.trans s6
  cases tT.th r (List.mem_of_getElem? er) with
  | shut b f t =>
   refine ⟨_, rfl, lr, _, _, _, rfl, rfl, sqL_new hr6, at_w0 (x := "shut") rfl, rfl, _, rfl, ite2 (fun y' => absurd y' (neS w_hb)) (fun _ => ?_)⟩
   refine ⟨_, rfl, lr, _, _, _, rfl, rfl, sqL_new hr6, at_w0 (x := "shut") rfl, rfl, _, rfl, ite2 (fun y' => absurd y' (neS w_hs)) (fun _ => ?_)⟩
   refine ⟨_, rfl, lr, _, _, _, rfl, rfl, sqL_new hr6, at_w0 (x := "shut") rfl, rfl, _, rfl, ite2 (fun y' => absurd y' (neS w_hs)) (fun _ => ?_)⟩
   exact ⟨_, _, _, vs, U, rfl, hg6, hB6, fun r hr => (hU r hr).mono (by lia), hnd, by lia, s56⟩
  | bench b rm =>
   refine ⟨_, rfl, lr, _, _, _, rfl, rfl, sqL_new hr6, at_w0 (x := "bench") rfl, rfl, _, rfl, ite2 (fun _ => ?_) (fun y' => absurd (yesS _) y')⟩
   have key : ∀ (H7 : Hp) (vs7 : List V) (U7 : List BR), H7 lr = some (.lst ((BR.bench b rm).cells.map kV)) → H7 g = some (.lst vs7) → RowsB H7 vs7 (.way w v L c :: U7) → (∀ r ∈ U7, UseOf T w v (i + 1) r) → U7.Pairwise Apart → U7.length ≤ 2 * (i + 1) → Same H H7 → ∃ (zz : Int) (v9 v10 : Option V) (vs : List V) (U : List BR), [some (.ref a), some (.int st), some (.int n), some (.str w), some (.str v), some (.ref d), some (.int N), some (.int L), some (.ref g), some (.ref lr), some (.int mu)] = [some (.ref a), some (.int st), some (.int n), some (.str w), some (.str v), some (.ref d), some (.int zz), some (.int L), some (.ref g), v9, v10] ∧ H7 g = some (.lst vs) ∧ RowsB H7 vs (.way w v L c :: U) ∧ (∀ r ∈ U, UseOf T w v (i + 1) r) ∧ U.Pairwise Apart ∧ U.length ≤ 2 * (i + 1) ∧ Same H H7 :=
    fun H7 vs7 U7 _ h2 h3 h4 h5 h6 h7 => ⟨_, _, _, vs7, U7, rfl, h2, h3, h4, h5, h6, h7⟩
   refine ⟨_, rfl, _, _, rfl, rfl, (by show (0 : Int) < _; decide +kernel), _, _, rfl, rfl, _, rfl, ite2 (fun _ => ?_) (fun _ => ?_)⟩
   ·refine ⟨_, rfl, .inl ⟨rfl, _, sqL_new hg6⟩, _, rfl, _, rfl, _, rfl, lr, _, _, _, rfl, rfl, sqL_new hr6, at_b1 _ _, _, rfl, by show 5 ≤ sizeLine; decide, fun l7 hl7 => ?_⟩
    have s7 := same_new' hl7 (.lst [.str "uses", .str w, .str v, .str b, .int mu])
    have hl77 : upd H6 l7 (.lst [.str "uses", .str w, .str v, .str b, .int mu]) l7 = some (.lst ((BR.use 0 w v b mu).cells.map kV)) := upd_same
    generalize upd H6 l7 (.lst [.str "uses", .str w, .str v, .str b, .int mu]) = H7 at s7 hl77 ⊢
    have hg7 := s7 _ _ hg6
    refine ⟨g, _, _, rfl, rfl, hg7, by lia, ?_⟩
    have hB8 := ((hB6.same s7).snoc hl77).updL (zs := vs ++ [.ref l7]) hg7 hB6.noRow
    have hr8 : upd H7 g (.lst (vs ++ [.ref l7])) lr = some (.lst ((BR.bench b rm).cells.map kV)) := by rw [upd_ne (ne_of (s7 _ _ hr6) hg7 fun e => cells_ne hB6.noRow (.bench b rm) (HO.lst.inj e))]; exact s7 _ _ hr6
    have hg8 : upd H7 g (.lst (vs ++ [.ref l7])) g = some (.lst (vs ++ [.ref l7])) := upd_same
    have s8 : Same H (upd H7 g (.lst (vs ++ [.ref l7]))) := fun c' o e => by rw [upd_ne (ne_of_none e gH)]; exact (s56.trans s7) _ _ e
    generalize upd H7 g (.lst (vs ++ [.ref l7])) = H8 at hB8 hr8 hg8 s8 ⊢
    refine ⟨_, rfl, lr, _, _, _, rfl, rfl, sqL_new hr8, at_w0 (x := "bench") rfl, rfl, _, rfl, ite2 (fun y' => absurd y' (neS w_bs)) (fun _ => ?_)⟩
    refine ⟨_, rfl, lr, _, _, _, rfl, rfl, sqL_new hr8, at_w0 (x := "bench") rfl, rfl, _, rfl, ite2 (fun y' => absurd y' (neS w_bs)) (fun _ => ?_)⟩
    refine key H8 _ (U ++ [BR.use 0 w v b mu]) hr8 hg8 hB8 (fun r hr => ?_) (List.pairwise_append.mpr ⟨hnd, List.pairwise_singleton _ _, fun r hr q hq => ?_⟩) (by rw [List.length_append]; show U.length + 1 ≤ _; lia) s8
    ·rcases List.mem_append.mp hr with h | h
     ·exact (hU r h).mono (by lia)
     ·rw [List.mem_singleton.mp h]; exact ⟨0, b, mu, rfl, hmu'.1, hmu'.2, .inl ⟨rfl, i, rm, by lia, er⟩⟩
    ·rw [List.mem_singleton.mp hq]; exact use_apart tT.nd (hU r hr) (.inl ⟨rfl, rm, er⟩)
   ·refine ⟨_, rfl, lr, _, _, _, rfl, rfl, sqL_new hr6, at_w0 (x := "bench") rfl, rfl, _, rfl, ite2 (fun y' => absurd y' (neS w_bs)) (fun _ => ?_)⟩
    refine ⟨_, rfl, lr, _, _, _, rfl, rfl, sqL_new hr6, at_w0 (x := "bench") rfl, rfl, _, rfl, ite2 (fun y' => absurd y' (neS w_bs)) (fun _ => ?_)⟩
    exact key H6 vs U hr6 hg6 hB6 (fun r hr => (hU r hr).mono (by lia)) hnd (by lia) s56
  | store b rm ff =>
   refine ⟨_, rfl, lr, _, _, _, rfl, rfl, sqL_new hr6, at_w0 (x := "store") rfl, rfl, _, rfl, ite2 (fun y' => absurd y' (neS w_sb)) (fun _ => ?_)⟩
   have fin : ∀ (H7 : Hp) (vs7 : List V) (U7 : List BR), H7 g = some (.lst vs7) → RowsB H7 vs7 (.way w v L c :: U7) → (∀ r ∈ U7, UseOf T w v (i + 1) r) → U7.Pairwise Apart → U7.length ≤ 2 * (i + 1) → Same H H7 → ∃ (zz : Int) (v9 v10 : Option V) (vs : List V) (U : List BR), [some (.ref a), some (.int st), some (.int n), some (.str w), some (.str v), some (.ref d), some (.int N), some (.int L), some (.ref g), some (.ref lr), some (.int mu)] = [some (.ref a), some (.int st), some (.int n), some (.str w), some (.str v), some (.ref d), some (.int zz), some (.int L), some (.ref g), v9, v10] ∧ H7 g = some (.lst vs) ∧ RowsB H7 vs (.way w v L c :: U) ∧ (∀ r ∈ U, UseOf T w v (i + 1) r) ∧ U.Pairwise Apart ∧ U.length ≤ 2 * (i + 1) ∧ Same H H7 :=
    fun H7 vs7 U7 h2 h3 h4 h5 h6 h7 => ⟨_, _, _, vs7, U7, rfl, h2, h3, h4, h5, h6, h7⟩
   refine ⟨_, rfl, lr, _, _, _, rfl, rfl, sqL_new hr6, at_w0 (x := "store") rfl, rfl, _, rfl, ite2 (fun _ => ?_) (fun y' => absurd (yesS _) y')⟩
   refine ⟨_, rfl, _, _, rfl, rfl, (by show (0 : Int) < _; decide +kernel), rfl, _, rfl, ite2 (fun ne => ?_) (fun eq => ?_)⟩
   ·obtain ⟨kk, ekk, k0, k2⟩ := pickTG N
    refine ⟨_, rfl, .inl ⟨rfl, _, sqL_new hg6⟩, by show 2 ≤ sizeLine; decide, fun p7 hp7 => ?_⟩
    have s7a := same_new' hp7 (.lst [.str "takes", .str "gives"])
    have hp77 : upd H6 p7 (.lst [.str "takes", .str "gives"]) p7 = some (.lst [.str "takes", .str "gives"]) := upd_same
    generalize upd H6 p7 (.lst [.str "takes", .str "gives"]) = H7a at s7a hp77 ⊢
    refine ⟨_, rfl, _, _, rfl, rfl, (by show (0 : Int) < _; decide +kernel), p7, _, _, _, rfl, rfl, sqL_new hp77, ekk, _, rfl, _, rfl, _, rfl, lr, _, _, _, rfl, rfl, sqL_new (s7a _ _ hr6), at_s1 _ _ _, _, rfl, by show 5 ≤ sizeLine; decide, fun l7 hl7 => ?_⟩
    have s7 := s7a.trans (same_new' hl7 (.lst [.str (useW kk), .str w, .str v, .str b, .int mu]))
    have hl77 : upd H7a l7 (.lst [.str (useW kk), .str w, .str v, .str b, .int mu]) l7 = some (.lst ((BR.use kk w v b mu).cells.map kV)) := upd_same
    generalize upd H7a l7 (.lst [.str (useW kk), .str w, .str v, .str b, .int mu]) = H7 at s7 hl77 ⊢
    have hg7 := s7 _ _ hg6
    refine ⟨g, _, _, rfl, rfl, hg7, by lia, ?_⟩
    have hB8 := ((hB6.same s7).snoc hl77).updL (zs := vs ++ [.ref l7]) hg7 hB6.noRow
    have hr8 : upd H7 g (.lst (vs ++ [.ref l7])) lr = some (.lst ((BR.store b rm ff).cells.map kV)) := by rw [upd_ne (ne_of (s7 _ _ hr6) hg7 fun e => cells_ne hB6.noRow (.store b rm ff) (HO.lst.inj e))]; exact s7 _ _ hr6
    have hg8 : upd H7 g (.lst (vs ++ [.ref l7])) g = some (.lst (vs ++ [.ref l7])) := upd_same
    have s8 : Same H (upd H7 g (.lst (vs ++ [.ref l7]))) := fun c' o e => by rw [upd_ne (ne_of_none e gH)]; exact (s56.trans s7) _ _ e
    generalize upd H7 g (.lst (vs ++ [.ref l7])) = H8 at hB8 hr8 hg8 s8 ⊢
    have hU8 : ∀ r ∈ U ++ [BR.use kk w v b mu], UseOf T w v (i + 1) r := fun r hr => by
     rcases List.mem_append.mp hr with h | h
     ·exact (hU r h).mono (by lia)
     ·rw [List.mem_singleton.mp h]; exact ⟨kk, b, mu, rfl, hmu'.1, hmu'.2, .inr ⟨k0, i, rm, ff, by lia, er⟩⟩
    have hn8 : (U ++ [BR.use kk w v b mu]).Pairwise Apart := List.pairwise_append.mpr ⟨hnd, List.pairwise_singleton _ _, fun r hr q hq => by
     rw [List.mem_singleton.mp hq]; exact use_apart tT.nd (hU r hr) (.inr ⟨k0, rm, ff, er⟩)⟩
    have hl8 : (U ++ [BR.use kk w v b mu]).length = U.length + 1 := by rw [List.length_append]; rfl
    refine ⟨_, rfl, lr, _, _, _, rfl, rfl, sqL_new hr8, at_w0 (x := "store") rfl, rfl, _, rfl, ite2 (fun _ => ?_) (fun y' => absurd (yesS _) y')⟩
    refine ⟨_, rfl, _, _, rfl, rfl, (by show (0 : Int) < _; decide +kernel), rfl, _, rfl, ite2 (fun y3 => ?_) (fun _ => ?_)⟩
    ·have e3 : N % 4 = 3 := by
      have := of_decide_eq_true y3
      injection this
     have ek2 : kk = 2 := k2 (by lia)
     subst ek2
     have c0 := Int.emod_nonneg (N / 12) (show (99 : Int) ≠ 0 by decide)
     have c1 := Int.emod_lt_of_pos (N / 12) (show (0 : Int) < 99 by decide)
     refine ⟨_, rfl, .inl ⟨rfl, _, sqL_new hg8⟩, _, rfl, _, rfl, _, rfl, lr, _, _, _, rfl, rfl, sqL_new hr8, at_s1 _ _ _, _, rfl, _, _, rfl, rfl, ⟨by decide, by decide⟩, _, _, rfl, rfl, (by show (0 : Int) < _; decide +kernel), _, _, rfl, rfl, by show 5 ≤ sizeLine; decide, fun l9 hl9 => ?_⟩
     have s9 := same_new' hl9 (.lst [.str "takes", .str w, .str v, .str b, .int (1 + N / 12 % 99)])
     have hl99 : upd H8 l9 (.lst [.str "takes", .str w, .str v, .str b, .int (1 + N / 12 % 99)]) l9 = some (.lst ((BR.use 1 w v b (1 + N / 12 % 99)).cells.map kV)) := upd_same
     generalize upd H8 l9 (.lst [.str "takes", .str w, .str v, .str b, .int (1 + N / 12 % 99)]) = H9 at s9 hl99 ⊢
     have hg9 := s9 _ _ hg8
     refine ⟨g, _, _, rfl, rfl, hg9, by rw [List.length_append]; show vs.length + 1 < _; lia, ?_⟩
     have hB10 := ((hB8.same s9).snoc hl99).updL (zs := vs ++ [.ref l7] ++ [.ref l9]) hg9 hB8.noRow
     refine fin _ _ (U ++ [BR.use 2 w v b mu] ++ [BR.use 1 w v b (1 + N / 12 % 99)]) upd_same hB10 (fun r hr => ?_) (List.pairwise_append.mpr ⟨hn8, List.pairwise_singleton _ _, fun r hr q hq => ?_⟩) (by rw [List.length_append, hl8]; show U.length + 1 + 1 ≤ _; lia) (fun c' o e => by rw [upd_ne (ne_of_none e gH)]; exact (s8.trans s9) _ _ e)
     ·rcases List.mem_append.mp hr with h | h
      ·exact hU8 r h
      ·rw [List.mem_singleton.mp h]; exact ⟨1, b, _, rfl, by lia, by lia, .inr ⟨by decide, i, rm, ff, by lia, er⟩⟩
     ·rw [List.mem_singleton.mp hq]
      rcases List.mem_append.mp hr with h | h
      ·exact use_apart tT.nd (hU r h) (.inr ⟨by decide, rm, ff, er⟩)
      ·rw [List.mem_singleton.mp h]; exact apart_word (by show ¬ (("gives" : Str) = "takes"); decide +kernel)
    ·exact fin H8 _ (U ++ [BR.use kk w v b mu]) hg8 hB8 hU8 hn8 (by rw [hl8]; lia) s8
   ·have e0 : N % 4 = 0 := by
     by_cases e0 : N % 4 = 0
     ·exact e0
     ·exact absurd (show (!decide (V.int (N % 4) = V.int 0)) = true by rw [Bool.not_eq_true', decide_eq_false_iff_not]; intro z'; injection z' with z'; exact e0 z') eq
    refine ⟨_, rfl, lr, _, _, _, rfl, rfl, sqL_new hr6, at_w0 (x := "store") rfl, rfl, _, rfl, ite2 (fun _ => ?_) (fun y' => absurd (yesS _) y')⟩
    refine ⟨_, rfl, _, _, rfl, rfl, (by show (0 : Int) < _; decide +kernel), rfl, _, rfl, ite2 (fun y3 => ?_) (fun _ => ?_)⟩
    ·have := of_decide_eq_true y3
     injection this with e3
     lia
    ·exact fin H6 vs U hg6 hB6 (fun r hr => (hU r hr).mono (by lia)) hnd (by lia) s56
 ·rintro σ H5 ⟨zz, v9, v10, vs, U, rfl, hg5, hB5, hU, hnd, hlen, s5⟩
  rw [lu] at hU
  refine ⟨_, rfl, q g vs _ H5 s5 gH hg5 hB5 ⟨⟨L, c, U, rfl, hL1.1, hL1.2, hc'.1, hc'.2, hU⟩, List.pairwise_cons.mpr ⟨fun r hr => ?_, hnd⟩, by rw [List.length_cons]; lia⟩⟩
  obtain ⟨k, t, m', rfl, _⟩ := hU r hr
  exact way_apart
end
abbrev sPut : Stmt := top 26
def ownN (k : Nat) (ns : List Str) : List Str := if k = 9 then ns else if k ≤ 3 then [] else ns.take 1
theorem own_eq (r : BR) : r.own = ownN r.kind r.names := by
 cases r with
 | use k w v t m =>
  have hk := k.isLt
  show [w] = ownN (6 + k.val) [w, v, t]
  unfold ownN
  rw [if_neg (by lia), if_neg (by lia)]
  rfl
 | _ => rfl
theorem own_key {r q : BR} (h : r.key = q.key) {w : Str} (hw : w ∈ q.own) : w ∈ r.own := by
 have h' : ((Sum.inr r.word : Key) :: r.names.map Sum.inr) = Sum.inr q.word :: q.names.map Sum.inr := h
 injection h' with h1 h2
 have e1 : r.word = q.word := Sum.inr.inj h1
 have e2 : r.names = q.names := (List.map_inj_right fun x y e => Sum.inr.inj e).mp h2
 have e3 : r.kind = q.kind := wordOf_inj _ (kind_lt r) _ (kind_lt q) (by rw [← word_of, ← word_of]; exact e1)
 rw [own_eq, e2, e3, ← own_eq]
 exact hw
structure WkOk (n : Int) (nm : List Str) (W : List BR) : Prop where
 ok : ∀ r ∈ W, r.ok n
 nd : W.Pairwise Apart
 own : ∀ r ∈ W, r.own ≠ [] ∧ ∀ w ∈ r.own, w ∈ nm
 wk : ∀ w ∈ nm, BR.work w ∈ W
def OfWay (w : Str) (j : Nat) (r : BR) : Prop := ∃ v, fl v < 97 + j ∧ ((∃ l c, r = .way w v l c) ∨ ∃ k t m, r = .use k w v t m)
theorem OfWay.own {w : Str} {j : Nat} {r : BR} (h : OfWay w j r) : r.own = [w] := by
 obtain ⟨v, _, ⟨l, c, rfl⟩ | ⟨k, t, m, rfl⟩⟩ := h
 ·rfl
 ·rfl
theorem OfWay.mono {w : Str} {i j : Nat} {r : BR} (h : OfWay w i r) (hij : i ≤ j) : OfWay w j r := by
 obtain ⟨v, h1, h2⟩ := h
 exact ⟨v, by lia, h2⟩
theorem blk_apart {n : Int} {T : List BR} {w v : Str} {j : Nat} {R : List BR} {r q : BR} (hr : OfWay w j r) (hv : fl v = 97 + j) (hR : WayBlk n T w v R) (hq : q ∈ R) : Apart r q := by
 obtain ⟨l, c, U, rfl, _, _, _, _, hU⟩ := hR.hd
 obtain ⟨v', h1, h2⟩ := hr
 have ne : v' ≠ v := fun z => by rw [z] at h1; lia
 have hq' : (∃ l c, q = .way w v l c) ∨ ∃ k t m, q = .use k w v t m := by
  rcases List.mem_cons.mp hq with e | e
  ·exact .inl ⟨l, c, e⟩
  ·obtain ⟨k, t, m, e1, _⟩ := hU q e
   exact .inr ⟨k, t, m, e1⟩
 have kv : ∀ {a b : Str} {x y : List Key}, (Sum.inr a :: (Sum.inr w : Key) :: Sum.inr v' :: x) = (Sum.inr b :: Sum.inr w :: Sum.inr v :: y) → False := fun z => by
  injection z with _ z2
  injection z2 with _ z3
  injection z3 with z4
  injection z4 with z5
  exact ne z5
 rcases h2 with ⟨l', c', rfl⟩ | ⟨k', t', m', rfl⟩
 ·rcases hq' with ⟨l2, c2, rfl⟩ | ⟨k2, t2, m2, rfl⟩
  ·exact .inr (.inr fun z => kv z)
  ·exact way_apart
 ·rcases hq' with ⟨l2, c2, rfl⟩ | ⟨k2, t2, m2, rfl⟩
  ·exact way_apart.symm
  ·exact .inr (.inr fun z => kv z)
theorem blk_of {n : Int} {T : List BR} {w v : Str} {j : Nat} {R : List BR} (hv : fl v = 97 + j) (hR : WayBlk n T w v R) : (∀ q ∈ R, OfWay w (j + 1) q) ∧ ∀ q ∈ R, q.ok n := by
 obtain ⟨l, c, U, rfl, h1, h2, h3, h4, hU⟩ := hR.hd
 refine ⟨fun q hq => ?_, fun q hq => ?_⟩
 ·rcases List.mem_cons.mp hq with e | e
  ·exact ⟨v, by lia, .inl ⟨l, c, e⟩⟩
  ·obtain ⟨k, t, m, e1, _⟩ := hU q e
   exact ⟨v, by lia, .inr ⟨k, t, m, e1⟩⟩
 ·rcases List.mem_cons.mp hq with e | e
  ·rw [e]; exact ⟨h1, h2, h3, h4⟩
  ·obtain ⟨k, t, m, e1, m1, m2, _⟩ := hU q e
   rw [e1]; exact ⟨m1, m2⟩
structure BlkOk (n : Int) (nm : List Str) (w : Str) (W Y : List BR) : Prop where
 ok : ∀ r ∈ Y, r.ok n
 nd : Y.Pairwise Apart
 own : ∀ r ∈ Y, w ∈ r.own ∧ ∀ x ∈ r.own, x ∈ nm ++ [w]
theorem BlkOk.snoc {n : Int} {nm : List Str} {w : Str} {W Y : List BR} {r : BR} (h : BlkOk n nm w W Y) (h1 : r.ok n) (h2 : w ∈ r.own) (h3 : ∀ x ∈ r.own, x ∈ nm ++ [w]) (h4 : ∀ q ∈ Y, Apart q r) : BlkOk n nm w W (Y ++ [r]) := by
 refine ⟨fun q hq => ?_, List.pairwise_append.mpr ⟨h.nd, List.pairwise_singleton _ _, fun a ha b hb => ?_⟩, fun q hq => ?_⟩
 ·rcases List.mem_append.mp hq with z | z
  ·exact h.ok q z
  ·rw [List.mem_singleton.mp z]; exact h1
 ·rw [List.mem_singleton.mp hb]; exact h4 a ha
 ·rcases List.mem_append.mp hq with z | z
  ·exact h.own q z
  ·rw [List.mem_singleton.mp z]; exact ⟨h2, h3⟩
theorem WkOk.join {n : Int} {nm : List Str} {w : Str} {W Y : List BR} (h : WkOk n nm W) (hw : w ∉ nm) (b : BlkOk n nm w W Y) (hk : BR.work w ∈ Y) : WkOk n (nm ++ [w]) (W ++ Y) := by
 refine ⟨fun r hr => ?_, List.pairwise_append.mpr ⟨h.nd, b.nd, fun r hr q hq => ?_⟩, fun r hr => ?_, fun x hx => ?_⟩
 ·rcases List.mem_append.mp hr with z | z
  ·exact h.ok r z
  ·exact b.ok r z
 ·refine .inr (.inr fun z => hw ?_)
  exact (h.own r hr).2 w (own_key z (b.own q hq).1)
 ·rcases List.mem_append.mp hr with z | z
  ·exact ⟨(h.own r z).1, fun x hx => List.mem_append_left _ ((h.own r z).2 x hx)⟩
  ·exact ⟨fun e => (by have := (b.own r z).1; rw [e] at this; exact nomatch this), (b.own r z).2⟩
 ·rcases List.mem_append.mp hx with z | z
  ·exact List.mem_append_left _ (h.wk x z)
  ·rw [List.mem_singleton.mp z]; exact List.mem_append_right _ hk
theorem cut_keys (ks : List Key) (lo hi : Option Int) : ∃ ls : List Key, cutV (ks.map kV) lo hi = ls.map kV := by
 unfold cutV
 rw [List.length_map]
 exact ⟨(ks.drop (HT.sIx ks.length 0 lo)).take (HT.sIx ks.length ks.length hi - HT.sIx ks.length 0 lo), by rw [List.map_take, List.map_drop]⟩
theorem flat_keys (ks : List Key) : (ks.map kV).all flatV = true := by
 rw [List.all_eq_true]
 intro v hv
 obtain ⟨k, _, rfl⟩ := List.mem_map.mp hv
 exact kV_flat1 k
theorem in3 {a b c : Str} {r : BR} (h : inV (.str r.word) [.str a, .str b, .str c] = true) : a = r.word ∨ b = r.word ∨ c = r.word := by
 have h' : (a == r.word || (b == r.word || (c == r.word || false))) = true := h
 simp only [Bool.or_eq_true, beq_iff_eq, Bool.false_eq_true, or_false] at h'
 exact h'
theorem cell1 {r : BR} (h : ("bench" : Str) = r.word ∨ ("store" : Str) = r.word ∨ ("work" : Str) = r.word) : ∃ x : Str, atI (r.cells.map kV) 1 = some (.str x) := by
 cases r with
 | days n =>
  rcases h with h | h | h
  ·exact absurd h (by show ¬ (("bench" : Str) = "days"); decide +kernel)
  ·exact absurd h (by show ¬ (("store" : Str) = "days"); decide +kernel)
  ·exact absurd h (by show ¬ (("work" : Str) = "days"); decide +kernel)
 | bench b r => exact ⟨b, rfl⟩
 | shut b f t => exact ⟨b, rfl⟩
 | store s m f => exact ⟨s, rfl⟩
 | work w => exact ⟨w, rfl⟩
 | way w v l c => exact ⟨w, rfl⟩
 | use k w v t m => exact ⟨w, rfl⟩
 | after w x g => exact ⟨w, rfl⟩
 | late w d c => exact ⟨w, rfl⟩
theorem seq_cut {t1 t2 : TS} {D : Ends} {σ : St} {H : Hp} (Pv : St → Hp → Prop) (h2 : ∀ σ' H', Pv σ' H' → t2 D σ' H') (h1 : (∀ σ' H', Pv σ' H' → t2 D σ' H') → t1 { D with nx := t2 D } σ H) : tSeq t1 t2 D σ H := h1 h2
inductive IspPut (vs : List V) (H : Hp) (Q : VK) : Prop
 | mk (d l : Addr) (z : Int) (us : List V) (B : List BR) (r : BR) (h1 : vs = [.ref d, .ref l, .int z]) (h2 : H d = some (.lst us)) (h3 : RowsB H us B) (h4 : 1 ≤ B.length) (h5 : B.length ≤ 1000) (h6 : H l = some (.lst (r.cells.map kV))) (h7 : ∀ (g : Addr) (k : Nat) (H' : Hp), 1 ≤ k → k ≤ B.length → Same H H' → H g = none → H' g = some (.lst (us.take k ++ [.ref l] ++ us.drop k)) → Q (.ref g) H')
def spPut (K : Fg) : Sp := fun vs H Q _ => IspPut vs H Q
section
variable {P : Program} {w : World} {K : Fg} {mg : Str → Option Value} {base : Heap}
theorem scPut : FnScope ["_law_rows", "_law_row", "_law_number", "_law_least", "_law_k", "_law_at"] ["_law_rows", "_law_row", "_law_number"] (defScope sPut) := ⟨rfl, rfl, rfl, by decide +kernel, rfl, by decide +kernel, by decide +kernel⟩
theorem okPut (F : Fn K mg "_law_put" sPut) (M : Mg mg) : Cal P w K mg base 1 "_law_put" ["_law_rows", "_law_row", "_law_number"] (spPut K) := by
 refine cal_of F scPut (fun _ _ _ _ _ _ => bind3 (fun _ _ _ => rfl)) (fun vs H Q E h => ?_) (fun f cdv A outer s H vs Q E hr h => ?_)
 ·obtain ⟨d, l, z, us, B, r, rfl, _⟩ := h
  rfl
 obtain ⟨d, l, z, us, B, r, rfl, hd, hB, b1, b2, hl, q⟩ := h
 have hu6 : (A.deeper (PyProof.Rows.envOfC "_law_put" (defScope sPut) s.heap.objs.size f cdv)).units + 6 < cLine := Nat.lt_of_le_of_lt (Nat.add_le_add_left (by decide) _) hr.un
 refine ⟨_, (pss_cons (ps_set (i := 3) scPut.nd rfl (Or.inl rfl) pe_int)
  (pss_cons (ps_for PassesOwn.never rfl (pi_range1 rfl M.range_ (pa_cons (pe_callB call_len_seq rfl M.len bt_len (pa_cons (pv 0) pa_nil)) pa_nil)) (pg_name (i := 4) scPut.nd rfl (Or.inl rfl) (Or.inl rfl)) (pss_cons (ps_if (PW.pt (pw_and (pt_cmpR op_in_seq (pe_ix ix_list (pe_ix ix_list (pv 0) (pv 4) (fun _ _ => rfl)) pe_int (fun _ _ => rfl)) (pe_lst (pa_cons pe_str (pa_cons pe_str (pa_cons pe_str pa_nil)))) rfl) (pw_and1 (pt_cmpR op_in_seq (pe_ix ix_list (pe_ix ix_list (pv 0) (pv 4) (fun _ _ => rfl)) pe_int (fun _ _ => rfl)) (pe_slice sl_list (pv 1) (po_some pe_int) po_none) rfl)))) (pss_one (ps_set (i := 3) scPut.nd rfl (Or.inl rfl) (pe_op op_add (pv 4) pe_int))) pss_nil)
  (pss_one (ps_if (PW.pt (pw_and (pt_cmpR op_eq (pe_ix ix_list (pe_ix ix_list (pv 0) (pv 4) (fun _ _ => rfl)) pe_int (fun _ _ => rfl)) pe_str (nomark _)) (pw_and1 (pt_cmpR (op_eqK (K := K) (n := 6) rfl hu6) (pe_slice sl_list (pe_ix ix_list (pv 0) (pv 4) (fun _ _ => rfl)) (po_some pe_int) (po_some pe_int)) (pe_slice sl_list (pv 1) (po_some pe_int) (po_some pe_int)) (nomark _))))) (pss_one (ps_set (i := 3) scPut.nd rfl (Or.inl rfl) (pe_op op_add (pv 4) pe_int))) pss_nil))))
  (pss_cons (ps_set (i := 5) scPut.nd rfl (Or.inl rfl) (pe_op op_add (pv 3) (pe_op op_mod (pv 2) (pe_op op_add (pe_op op_sub (pe_callB call_len_seq rfl M.len bt_len (pa_cons (pv 0) pa_nil)) (pv 3)) pe_int))))
  (pss_one (ps_ret (pe_op op_cat (pe_op op_cat (pe_slice sl_list (pv 0) po_none (po_some (pv 5))) (pe_lst (pa_cons (pv 1) pa_nil))) (pe_slice sl_list (pv 0) (po_some (pv 5)) po_none))))))), ?_⟩
 refine seq_let4 ?_
 intro rT4 rT3 rT2
 have hz : (20000 : Nat) < sizeLine := by decide
 have lu := hB.length
 let Pv8 : Nat → St → Hp → Prop := fun i σ H1 => ∃ (le : Nat) (v5 v6 : Option V), σ = [some (.ref d), some (.ref l), some (.int z), some (.int ((le : Nat) : Int)), v5, v6] ∧ 1 ≤ le ∧ le ≤ B.length ∧ Same H H1
 refine ⟨_, rfl, d, _, rfl, .inl (sqL_new hd), _, rfl, by lia, by lia, for_range (lo := 0) (n := Int.toNat ((us.length : Nat) : Int)) Pv8 ⟨1, none, none, rfl, Nat.le_refl _, b1, Same.refl _⟩ ?_ ?_⟩
 ·rintro i σ H1 hi ⟨le, v5, v6, rfl, e1, e2, s1⟩
  have hi' : i < us.length := by lia
  obtain ⟨q0, lr, er, ev, hr⟩ := (hB.same s1).get (gE hi')
  have ai : atI us (0 + (i : Int)) = some (.ref lr) := by
   rw [show (0 : Int) + (i : Int) = ((i : Nat) : Int) by lia]
   exact atNat (by rw [gE hi', ev])
  have si : (0 : Int) + (i : Int) + 1 = ((i + 1 : Nat) : Int) := by lia
  refine seq_cut (fun σ' H' => ∃ (le' : Nat) (v6 : Option V), σ' = [some (.ref d), some (.ref l), some (.int z), some (.int ((le' : Nat) : Int)), some (.int (0 + (i : Int))), v6] ∧ 1 ≤ le' ∧ le' ≤ B.length ∧ Same H1 H') ?_ fun REST => ?_
  ·rintro σ' H2 ⟨le', v6', rfl, e1', e2', s2⟩
   have hr2 := s2 _ _ hr
   have hd2 := (s1.trans s2) _ _ hd
   have hl2 := (s1.trans s2) _ _ hl
   refine ⟨_, rfl, _, rfl, d, _, _, _, rfl, rfl, sqL_new hd2, ai, lr, _, _, _, rfl, rfl, sqL_new hr2, at_word _, rfl, _, rfl, ite2 (fun _ => ?_) (fun _ => ?_)⟩
   ·refine ⟨_, rfl, _, rfl, d, _, _, _, rfl, rfl, sqL_new hd2, ai, _, rfl, _, rfl, lr, _, rfl, sqL_new hr2, fun p hp => ?_⟩
    obtain ⟨ks, ek⟩ := cut_keys q0.cells (some 1) (some 3)
    rw [ek]
    have s3 := same_new' hp (.lst (ks.map kV))
    refine ⟨_, rfl, _, rfl, _, rfl, l, _, rfl, sqL_new (s3 _ _ hl2), fun p' hp' => ?_⟩
    obtain ⟨ls, el⟩ := cut_keys r.cells (some 1) (some 3)
    rw [el]
    have s4 := same_new' hp' (.lst (ls.map kV))
    refine ⟨p, p', ks, ls, rfl, rfl, sqL_new (s4 _ _ upd_same), sqL_new upd_same, fun c hc => ⟨_, rfl, ite2 (fun _ => ?_) (fun _ => ?_)⟩⟩
    ·refine ⟨_, rfl, _, _, rfl, rfl, ?_⟩
     dsimp only
     rw [si]
     exact ⟨i + 1, _, _, rfl, by lia, by lia, ((s1.trans s2).trans s3).trans s4⟩
    ·exact ⟨le', _, _, rfl, e1', e2', ((s1.trans s2).trans s3).trans s4⟩
   ·exact ⟨le', _, _, rfl, e1', e2', s1.trans s2⟩
  ·refine ⟨_, rfl, _, rfl, d, _, _, _, rfl, rfl, sqL_new (s1 _ _ hd), ai, lr, _, _, _, rfl, rfl, sqL_new hr, at_word _, by show 3 ≤ sizeLine; decide, fun p hp => ?_⟩
   have s3 := same_new' hp (.lst [.str "bench", .str "store", .str "work"])
   have hr3 := s3 _ _ hr
   have hd3 := (s1.trans s3) _ _ hd
   have hl3 := (s1.trans s3) _ _ hl
   refine ⟨p, _, rfl, .inl (sqL_new upd_same), rfl, rfl, _, rfl, ite2 (fun y => ?_) (fun _ => ?_)⟩
   ·obtain ⟨x, ex⟩ := cell1 (in3 y)
    refine ⟨_, rfl, _, rfl, d, _, _, _, rfl, rfl, sqL_new hd3, ai, lr, _, _, _, rfl, rfl, sqL_new hr3, ex, _, rfl, _, rfl, l, _, rfl, sqL_new hl3, fun p' hp' => ?_⟩
    obtain ⟨ls, el⟩ := cut_keys r.cells (some 1) none
    rw [el]
    have s4 := s3.trans (same_new' hp' (.lst (ls.map kV)))
    refine ⟨p', _, rfl, .inl (sqL_new upd_same), rfl, flat_keys ls, _, rfl, ite2 (fun _ => ?_) (fun _ => ?_)⟩
    ·refine ⟨_, rfl, _, _, rfl, rfl, ?_⟩
     dsimp only
     rw [si]
     exact REST _ _ ⟨i + 1, _, rfl, by lia, by lia, s4⟩
    ·exact REST _ _ ⟨le, _, rfl, e1, e2, s4⟩
   ·exact REST _ _ ⟨le, _, rfl, e1, e2, s3⟩
 ·rintro σ H1 ⟨le, v5, v6, rfl, e1, e2, s1⟩
  have hd1 := s1 _ _ hd
  have p0 : (0 : Int) < ((us.length : Nat) : Int) - ((le : Nat) : Int) + 1 := by lia
  have m0 := Int.emod_nonneg z (Int.ne_of_gt p0)
  have m1 := Int.emod_lt_of_pos z p0
  refine ⟨_, rfl, _, rfl, _, rfl, d, _, rfl, .inl (sqL_new hd1), _, rfl, _, _, rfl, rfl, _, _, rfl, rfl, _, _, rfl, rfl, p0, _, _, rfl, rfl, ?_⟩
  obtain ⟨k, ek⟩ : ∃ k : Nat, ((le : Nat) : Int) + z % (((us.length : Nat) : Int) - ((le : Nat) : Int) + 1) = ((k : Nat) : Int) := ⟨(((le : Nat) : Int) + z % (((us.length : Nat) : Int) - ((le : Nat) : Int) + 1)).toNat, by lia⟩
  have k1 : 1 ≤ k ∧ k ≤ us.length := by lia
  dsimp only
  rw [ek]
  have c1 : cutV us none (some ((k : Nat) : Int)) = us.take k := by
   unfold cutV
   rw [HT.sIx_none, HT.sIx_nat, Nat.min_eq_left k1.2, List.drop_zero, Nat.sub_zero]
  have c2 : cutV us (some ((k : Nat) : Int)) none = us.drop k := by
   unfold cutV
   rw [HT.sIx_none, HT.sIx_nat, Nat.min_eq_left k1.2, ← List.length_drop, List.take_length]
  refine ⟨_, rfl, _, rfl, _, rfl, d, _, rfl, sqL_new hd1, fun p hp => ?_⟩
  rw [c1]
  have s2 := same_new' hp (.lst (us.take k))
  refine ⟨_, rfl, by show 1 ≤ sizeLine; decide, fun p2 hp2 => ?_⟩
  have s3 := same_new' hp2 (.lst [.ref l])
  refine ⟨p, p2, _, _, rfl, rfl, s3 _ _ upd_same, upd_same, by rw [List.length_take]; show min k us.length + 1 ≤ _; lia, fun p3 hp3 => ?_⟩
  have s4 := same_new' hp3 (.lst (us.take k ++ [.ref l]))
  have s24 := (s2.trans s3).trans s4
  refine ⟨_, rfl, _, rfl, _, rfl, d, _, rfl, sqL_new (s24 _ _ hd1), fun p4 hp4 => ?_⟩
  rw [c2]
  have s5 := same_new' hp4 (.lst (us.drop k))
  refine ⟨p3, p4, _, _, rfl, rfl, s5 _ _ upd_same, upd_same, by rw [List.length_append, List.length_take, List.length_drop]; show min k us.length + 1 + _ ≤ _; lia, fun g hg => ?_⟩
  have s6 := same_new' hg (.lst (us.take k ++ [.ref l] ++ us.drop k))
  have s16 := s1.trans ((s24.trans s5).trans s6)
  have gH : H g = none := by
   cases e5 : H g with
   | none => rfl
   | some o => rw [(s1.trans (s24.trans s5)) _ _ e5] at hg; cases hg
  exact q g k _ k1.1 (by lia) s16 gH upd_same
end
abbrev sWorks : Stmt := top 25
theorem pick8 {a b c d e f g h z : Int} : ∃ m : Int, atI [V.int a, V.int b, V.int c, V.int d, V.int e, V.int f, V.int g, V.int h] (z % 8) = some (.int m) ∧ (m = a ∨ m = b ∨ m = c ∨ m = d ∨ m = e ∨ m = f ∨ m = g ∨ m = h) := by
 rcases (show z % 8 = 0 ∨ z % 8 = 1 ∨ z % 8 = 2 ∨ z % 8 = 3 ∨ z % 8 = 4 ∨ z % 8 = 5 ∨ z % 8 = 6 ∨ z % 8 = 7 by lia) with q | q | q | q | q | q | q | q <;> rw [q]
 ·exact ⟨a, rfl, by lia⟩
 ·exact ⟨b, rfl, by lia⟩
 ·exact ⟨c, rfl, by lia⟩
 ·exact ⟨d, rfl, by lia⟩
 ·exact ⟨e, rfl, by lia⟩
 ·exact ⟨f, rfl, by lia⟩
 ·exact ⟨g, rfl, by lia⟩
 ·exact ⟨h, rfl, by lia⟩
theorem row_noStrs {r : BR} {nm : List Str} (h : r.nums ≠ []) : r.cells.map kV ≠ nm.map V.str := fun e => by
 obtain ⟨z, zs, ez⟩ : ∃ z zs, r.nums = z :: zs := by
  cases hn : r.nums with
  | nil => exact absurd hn h
  | cons z zs => exact ⟨z, zs, rfl⟩
 have h1 : V.int z ∈ r.cells.map kV := by
  unfold BR.cells
  rw [ez, List.map_append]
  exact List.mem_append_right _ List.mem_cons_self
 rw [e] at h1
 obtain ⟨x, _, e2⟩ := List.mem_map.mp h1
 cases e2
theorem blk_nums {n : Int} {T : List BR} {w v : Str} {R : List BR} (hR : WayBlk n T w v R) : ∀ q ∈ R, q.nums ≠ [] := fun q hq => by
 obtain ⟨l, c, U, rfl, _, _, _, _, hU⟩ := hR.hd
 rcases List.mem_cons.mp hq with e | e
 ·rw [e]; exact fun z => nomatch z
 ·obtain ⟨k, t, m, e1, _⟩ := hU q e
  rw [e1]; exact fun z => nomatch z
theorem RowsB.mem {H : Hp} {vs : List V} {B : List BR} (h : RowsB H vs B) {l : Addr} (hm : V.ref l ∈ vs) : ∃ r ∈ B, H l = some (.lst (r.cells.map kV)) := by
 obtain ⟨i, e⟩ := List.mem_iff_getElem?.mp hm
 obtain ⟨r, l', e1, e2, h1⟩ := h.get e
 cases e2
 exact ⟨r, List.mem_of_getElem? e1, h1⟩
theorem name_cut {t1 t2 : TS} {D : Ends} {i : Nat} {x : V} {σ : St} {H : Hp} (Pv : St → Hp → Prop) (h2 : ∀ σ' H', Pv σ' H' → t2 D σ' H') (h1 : (∀ σ' H', Pv σ' H' → t2 D σ' H') → t1 { D with nx := t2 D } (σ.set i (some x)) H) : gName i x σ H ({ D with nx := tSeq t1 t2 D } : Ends).nx := h1 h2
inductive IspWorks (K : Fg) (vs : List V) (H : Hp) (Q : VK) : Prop
 | mk (a d : Addr) (ns : List Int) (n : Int) (us : List V) (T : List BR) (h1 : vs = [.ref a, .int n, .ref d]) (h2 : SqL K H a (ns.map V.int)) (h3 : 1 ≤ n) (h4 : n ≤ 12) (h5 : SqL K H d us) (h6 : RowsB H us T) (h7 : ThOk n T) (h8 : T.length ≤ 11) (h9 : ∀ (g : Addr) (vs : List V) (nm : List Str) (W : List BR) (H' : Hp), Same H H' → H g = none → H' g = some (.lst vs) → RowsB H' vs W → WkOk n nm W → W.length ≤ 370 → nm.length ≤ 5 → Q (.ref g) H')
def spWorks (K : Fg) : Sp := fun vs H Q _ => IspWorks K vs H Q
section
variable {P : Program} {w : World} {K : Fg} {mg : Str → Option Value} {base : Heap}
theorem scWorks : FnScope ["_law_script", "_law_days", "_law_things_here", "_law_found", "_law_names", "_law_many_here", "_law_k", "_law_work", "_law_number", "_law_j", "_law_rows", "_law_pair"] ["_law_script", "_law_days", "_law_things_here"] (defScope sWorks) := ⟨rfl, rfl, rfl, by decide +kernel, rfl, by decide +kernel, by decide +kernel⟩
theorem okWorks (F : Fn K mg "_law_works" sWorks) (M : Mg mg) (cl_mixed : Cal P w K mg base 2 "_law_mixed" ["_law_script", "_law_k"] (spMixed K)) (cl_name : Cal P w K mg base 3 "_law_name" ["_law_script", "_law_k", "_law_first"] (spName K)) (cl_way : Cal P w K mg base 3 "_law_way" ["_law_script", "_law_start", "_law_days", "_law_work", "_law_way_here", "_law_things_here"] (spWay K)) : Cal P w K mg base 4 "_law_works" ["_law_script", "_law_days", "_law_things_here"] (spWorks K) := by
 refine cal_of F scWorks (fun _ _ _ _ _ _ => bind3 (fun _ _ _ => rfl)) (fun vs H Q E h => ?_) (fun f cdv A outer s H vs Q E hr h => ?_)
 ·obtain ⟨a, d, ns, n, us, T, rfl, _⟩ := h
  rfl
 obtain ⟨a, d, ns, n, us, T, rfl, hS, n1, n12, hd, hT, tT, tl, q⟩ := h
 refine ⟨_, (pss_cons (ps_set (i := 3) scWorks.nd rfl (Or.inl rfl) (pe_lst pa_nil))
  (pss_cons (ps_set (i := 4) scWorks.nd rfl (Or.inl rfl) (pe_lst pa_nil))
  (pss_cons (ps_set (i := 5) scWorks.nd rfl (Or.inl rfl) pe_int)
  (pss_cons (ps_for PassesOwn.never rfl (pi_range1 rfl M.range_ (pa_cons (pe_ix ix_list (pe_lst (pa_cons pe_int (pa_cons pe_int (pa_cons pe_int (pa_cons pe_int (pa_cons pe_int (pa_cons pe_int (pa_cons pe_int (pa_cons pe_int pa_nil))))))))) (pe_op op_mod (pe_fn cl_mixed (hr.mono (by decide)) (pa_cons (pv 0) (pa_cons pe_int pa_nil))) pe_int) (fun _ _ => rfl)) pa_nil)) (pg_name (i := 6) scWorks.nd rfl (Or.inl rfl) (Or.inl rfl)) (pss_cons (ps_set (i := 7) scWorks.nd rfl (Or.inl rfl) (pe_fn cl_name (hr.mono (by decide)) (pa_cons (pv 0) (pa_cons (pe_op op_add pe_int (pe_op op_mul pe_int (pv 6))) (pa_cons (pv 6) pa_nil)))))
  (pss_cons (ps_expr (pe_bm PySem.F.plainAttrs_list PySem.F.slot_list_append PySem.F.type_list_append mt_append (pv 4) (pa_cons (pv 7) pa_nil)))
  (pss_cons (ps_expr (pe_bm PySem.F.plainAttrs_list PySem.F.slot_list_append PySem.F.type_list_append mt_append (pv 3) (pa_cons (pe_lst (pa_cons pe_str (pa_cons (pv 7) pa_nil))) pa_nil)))
  (pss_cons (ps_set (i := 8) scWorks.nd rfl (Or.inl rfl) (pe_fn cl_mixed (hr.mono (by decide)) (pa_cons (pv 0) (pa_cons (pe_op op_add pe_int (pv 6)) pa_nil))))
  (pss_cons (ps_for PassesOwn.never rfl (pi_range1 rfl M.range_ (pa_cons (pe_ix ix_list (pe_lst (pa_cons pe_int (pa_cons pe_int (pa_cons pe_int (pa_cons pe_int (pa_cons pe_int (pa_cons pe_int (pa_cons pe_int (pa_cons pe_int pa_nil))))))))) (pe_op op_mod (pv 8) pe_int) (fun _ _ => rfl)) pa_nil)) (pg_name (i := 9) scWorks.nd rfl (Or.inl rfl) (Or.inl rfl)) (pss_cons (ps_set (i := 10) scWorks.nd rfl (Or.inl rfl) (pe_fn cl_way (hr.mono (by decide)) (pa_cons (pv 0) (pa_cons (pe_op op_add (pe_op op_add pe_int (pe_op op_mul pe_int (pv 6))) (pe_op op_mul pe_int (pv 9))) (pa_cons (pv 1) (pa_cons (pv 7) (pa_cons (pe_fn cl_name (hr.mono (by decide)) (pa_cons (pv 0) (pa_cons (pe_op op_add (pe_op op_add pe_int (pe_op op_mul pe_int (pv 6))) (pe_op op_mul pe_int (pv 9))) (pa_cons (pv 9) pa_nil)))) (pa_cons (pv 2) pa_nil))))))))
  (pss_one (ps_if (pt_cmpR op_le (pe_op op_add (pe_op op_sub (pe_op op_add (pv 5) (pv 1)) (pe_ix ix_list (pe_ix ix_list (pv 10) pe_int (fun _ _ => rfl)) pe_int (fun _ _ => rfl))) pe_int) pe_int (nomark _)) (pss_cons (ps_set (i := 5) scWorks.nd rfl (Or.inl rfl) (pe_op op_add (pe_op op_sub (pe_op op_add (pv 5) (pv 1)) (pe_ix ix_list (pe_ix ix_list (pv 10) pe_int (fun _ _ => rfl)) pe_int (fun _ _ => rfl))) pe_int))
  (pss_one (ps_set (i := 3) scWorks.nd rfl (Or.inl rfl) (pe_op op_cat (pv 3) (pv 10))))) pss_nil))))
  (pss_cons (ps_if (pt_cmpR op_eq (pe_op op_mod (pe_op op_fdiv (pv 8) pe_int) pe_int) pe_int (nomark _)) (pss_one (ps_expr (pe_bm PySem.F.plainAttrs_list PySem.F.slot_list_append PySem.F.type_list_append mt_append (pv 3) (pa_cons (pe_lst (pa_cons pe_str (pa_cons (pv 7) (pa_cons (pe_op op_mod (pe_op op_fdiv (pv 8) pe_int) (pe_op op_add (pv 1) pe_int)) (pa_cons (pe_op op_add pe_int (pe_op op_mod (pe_op op_fdiv (pv 8) pe_int) pe_int)) pa_nil))))) pa_nil)))) pss_nil)
  (pss_one (ps_if (PW.pt (pw_and (pt_cmpR op_gt (pv 6) pe_int (nomark _)) (pw_and1 (pt_cmpR op_gt (pe_op op_mod (pe_op op_fdiv (pv 8) pe_int) pe_int) pe_int (nomark _))))) (pss_cons (ps_set (i := 11) scWorks.nd rfl (Or.inl rfl) (pe_lst (pa_cons (pe_ix ix_list (pv 4) (pe_op op_mod (pe_op op_fdiv (pv 8) pe_int) (pv 6)) (fun _ _ => rfl)) (pa_cons (pv 7) pa_nil))))
  (pss_cons (ps_if (pt_cmpR op_eq (pe_op op_mod (pe_op op_fdiv (pv 8) pe_int) pe_int) pe_int (nomark _)) (pss_one (ps_expr (pe_bm0 PySem.F.plainAttrs_list PySem.F.slot_list_reverse PySem.F.type_list_reverse mt_reverse (pv 11)))) pss_nil)
  (pss_one (ps_expr (pe_bm PySem.F.plainAttrs_list PySem.F.slot_list_append PySem.F.type_list_append mt_append (pv 3) (pa_cons (pe_lst (pa_cons pe_str (pa_cons (pe_ix ix_list (pv 11) pe_int (fun _ _ => rfl)) (pa_cons (pe_ix ix_list (pv 11) pe_int (fun _ _ => rfl)) (pa_cons (pe_op op_mod (pe_op op_fdiv (pv 8) pe_int) (pe_callB (call_min2 rfl) rfl M.min bt_min (pa_cons (pe_op op_add (pv 1) pe_int) (pa_cons pe_int pa_nil)))) pa_nil))))) pa_nil)))))) pss_nil)))))))))
  (pss_one (ps_ret (pv 3))))))), ?_⟩
 refine seq_let5 ?_
 intro rT5 rT4 rT3 rT2
 have hz : (20000 : Nat) < sizeLine := by decide
 have up : ∀ {Hy Hz : Hp} {g : Addr}, Hz g = none → Same Hy Hz → Hy g = none := fun {Hy Hz g} h s => by
  cases e5 : Hy g with
  | none => rfl
  | some o => rw [s _ _ e5] at h; cases h
 refine ⟨by show 0 ≤ sizeLine; decide, fun g0 hg0 => ?_⟩
 have s0a := same_new' hg0 (.lst [])
 have hga : upd H g0 (.lst []) g0 = some (.lst []) := upd_same
 generalize upd H g0 (.lst []) = Ha at s0a hga ⊢
 refine ⟨by show 0 ≤ sizeLine; decide, fun N hN => ?_⟩
 have NH : H N = none := up hN s0a
 have gN0 : g0 ≠ N := ne_of_none hga hN
 have sb := same_new' hN (.lst [])
 have s0 := s0a.trans sb
 have hgb := sb _ _ hga
 have hNb : upd Ha N (.lst []) N = some (.lst []) := upd_same
 generalize upd Ha N (.lst []) = H0 at s0 hgb hNb ⊢
 clear sb
 refine ⟨by show 8 ≤ sizeLine; decide, fun p hp => ?_⟩
 have s1 := same_new' hp (.lst [.int 0, .int 1, .int 2, .int 2, .int 3, .int 3, .int 4, .int 5])
 have hp1 : upd H0 p (.lst [.int 0, .int 1, .int 2, .int 2, .int 3, .int 3, .int 4, .int 5]) p = some (.lst [.int 0, .int 1, .int 2, .int 2, .int 3, .int 3, .int 4, .int 5]) := upd_same
 generalize upd H0 p (.lst [.int 0, .int 1, .int 2, .int 2, .int 3, .int 3, .int 4, .int 5]) = H0p at s1 hp1 ⊢
 refine ⟨_, rfl, a, ns, 2, rfl, (s0.trans s1).seq hS, by decide, by decide, fun z z0 z1 => ?_⟩
 obtain ⟨m, em, hm⟩ := pick8 (a := 0) (b := 1) (c := 2) (d := 2) (e := 3) (f := 3) (g := 4) (h := 5) (z := z)
 have hm' : 0 ≤ m ∧ m ≤ 5 := by lia
 let Pv9 : Nat → St → Hp → Prop := fun i σ H1 => ∃ (v6 v7 v8 v9 v10 v11 : Option V) (g : Addr) (my : Int) (vs : List V) (W : List BR) (nm : List Str), σ = [some (.ref a), some (.int n), some (.ref d), some (.ref g), some (.ref N), some (.int my), v6, v7, v8, v9, v10, v11] ∧ H1 g = some (.lst vs) ∧ H g = none ∧ g ≠ N ∧ RowsB H1 vs W ∧ H1 N = some (.lst (nm.map V.str)) ∧ V.ref N ∉ vs ∧ WkOk n nm W ∧ nm.length = i ∧ (∀ j x, nm[j]? = some x → fl x = 97 + j) ∧ W.length ≤ 73 * i ∧ Same H H1
 refine ⟨_, _, rfl, rfl, (by show (0 : Int) < _; decide +kernel), p, _, _, _, rfl, rfl, sqL_new hp1, em, m, rfl, by lia, by lia, for_range (lo := 0) (n := m.toNat) Pv9 ⟨none, none, none, none, none, none, g0, 0, [], [], [], rfl, s1 _ _ hgb, hg0, gN0, .nil, s1 _ _ hNb, fun h => (nomatch h), ⟨fun _ h => (nomatch h), .nil, fun _ h => (nomatch h), fun _ h => (nomatch h)⟩, rfl, fun _ _ h => (nomatch h), Nat.zero_le _, s0.trans s1⟩ ?_ ?_⟩
 ·rintro i σ H1 hi ⟨v6, v7, v8, v9, v10, v11, g, my, vs, W, nm, rfl, hg1, gH, gN, hB1, hN1, nN1, hW, hnl, hfl, hlen, s1'⟩
  refine seq_let7 ?_
  intro rB7 rB6 rB5 rB4 rB3 rB2
  have hi' : i < 5 := by lia
  have lv := hB1.length
  refine ⟨_, rfl, _, rfl, _, _, rfl, rfl, mulC _ _ (by decide) (by decide), _, _, rfl, rfl, _, rfl, a, ns, _, _, rfl, s1'.seq hS, by lia, by lia, by lia, by lia, fun w H2 hw hwl s2 => ?_⟩
  have hw' : fl w = 97 + i := by rw [hw]; lia
  have wn : w ∉ nm := fun hm => by
   obtain ⟨j, ej⟩ := List.mem_iff_getElem?.mp hm
   have h5 := hfl j w ej
   have h6 := (List.getElem?_eq_some_iff.mp ej).1
   lia
  have hN2 := s2 _ _ hN1
  refine ⟨_, rfl, .inl ⟨rfl, _, sqL_new hN2⟩, _, rfl, N, _, _, rfl, rfl, hN2, by rw [List.length_map]; lia, ?_⟩
  have hN3 : upd H2 N (.lst (nm.map V.str ++ [.str w])) N = some (.lst ((nm ++ [w]).map V.str)) := by rw [upd_same, List.map_append]; rfl
  have hg3 : upd H2 N (.lst (nm.map V.str ++ [.str w])) g = some (.lst vs) := by rw [upd_ne gN]; exact s2 _ _ hg1
  have hB3 : RowsB (upd H2 N (.lst (nm.map V.str ++ [.str w]))) vs W := (hB1.same s2).imp fun l r hm z => by
   rw [upd_ne (fun e => nN1 (by rw [← e]; exact hm))]; exact z
  have s3 : Same H (upd H2 N (.lst (nm.map V.str ++ [.str w]))) := fun c o e => by rw [upd_ne (ne_of_none e NH)]; exact (s1'.trans s2) _ _ e
  generalize upd H2 N (.lst (nm.map V.str ++ [.str w])) = H3 at hN3 hg3 hB3 s3 ⊢
  refine ⟨_, rfl, .inl ⟨rfl, _, sqL_new hg3⟩, _, rfl, by show 2 ≤ sizeLine; decide, fun l hl => ?_⟩
  have lN : l ≠ N := fun e => by rw [e, hN3] at hl; cases hl
  have s4 := same_new' hl (.lst [.str "work", .str w])
  have hl4 : upd H3 l (.lst [.str "work", .str w]) l = some (.lst ((BR.work w).cells.map kV)) := upd_same
  generalize upd H3 l (.lst [.str "work", .str w]) = H4 at s4 hl4 ⊢
  have hg4 := s4 _ _ hg3
  refine ⟨g, _, _, rfl, rfl, hg4, by lia, ?_⟩
  have hB5 : RowsB (upd H4 g (.lst (vs ++ [.ref l]))) (vs ++ [.ref l]) (W ++ [BR.work w]) := ((hB3.same s4).snoc hl4).updL hg4 hB3.noRow
  have hg5 : upd H4 g (.lst (vs ++ [.ref l])) g = some (.lst (vs ++ [.ref l])) := upd_same
  have hN5 : upd H4 g (.lst (vs ++ [.ref l])) N = some (.lst ((nm ++ [w]).map V.str)) := by rw [upd_ne gN.symm]; exact s4 _ _ hN3
  have s5 : Same H (upd H4 g (.lst (vs ++ [.ref l]))) := fun c o e => by rw [upd_ne (ne_of_none e gH)]; exact (s3.trans s4) _ _ e
  have nN5 : V.ref N ∉ vs ++ [.ref l] := fun h => by
   rcases List.mem_append.mp h with h | h
   ·exact nN1 h
   ·have h2 := List.mem_singleton.mp h
    injection h2 with h3
    exact lN h3.symm
  generalize upd H4 g (.lst (vs ++ [.ref l])) = H5 at hB5 hg5 hN5 s5 ⊢
  refine ⟨_, rfl, _, rfl, _, _, rfl, rfl, a, ns, _, rfl, s5.seq hS, by lia, by lia, fun nb nb0 nb1 => ?_⟩
  refine ⟨by show 8 ≤ sizeLine; decide, fun p6 hp6 => ?_⟩
  have s6 := same_new' hp6 (.lst [.int 1, .int 1, .int 2, .int 2, .int 2, .int 3, .int 3, .int 0])
  have hp66 : upd H5 p6 (.lst [.int 1, .int 1, .int 2, .int 2, .int 2, .int 3, .int 3, .int 0]) p6 = some (.lst [.int 1, .int 1, .int 2, .int 2, .int 2, .int 3, .int 3, .int 0]) := upd_same
  generalize upd H5 p6 (.lst [.int 1, .int 1, .int 2, .int 2, .int 2, .int 3, .int 3, .int 0]) = H5p at s6 hp66 ⊢
  obtain ⟨m2, em2, hm2⟩ := pick8 (a := 1) (b := 1) (c := 2) (d := 2) (e := 2) (f := 3) (g := 3) (h := 0) (z := nb)
  have hm2' : 0 ≤ m2 ∧ m2 ≤ 3 := by lia
  let Pv10 : Nat → St → Hp → Prop := fun j σ H6 => ∃ (v9 v10 v11 : Option V) (g : Addr) (my : Int) (vs : List V) (Y : List BR), σ = [some (.ref a), some (.int n), some (.ref d), some (.ref g), some (.ref N), some (.int my), some (.int (0 + (i : Int))), some (.str w), some (.int nb), v9, v10, v11] ∧ H6 g = some (.lst vs) ∧ H g = none ∧ g ≠ N ∧ RowsB H6 vs (W ++ BR.work w :: Y) ∧ H6 N = some (.lst ((nm ++ [w]).map V.str)) ∧ V.ref N ∉ vs ∧ (∀ r ∈ Y, OfWay w j r) ∧ (∀ r ∈ Y, r.ok n) ∧ Y.Pairwise Apart ∧ Y.length ≤ 23 * j ∧ Same H H6
  refine ⟨_, rfl, _, _, rfl, rfl, (by show (0 : Int) < _; decide +kernel), p6, _, _, _, rfl, rfl, sqL_new hp66, em2, m2, rfl, by lia, by lia, for_range (lo := 0) (n := m2.toNat) Pv10 ⟨_, _, _, g, my, _, [], rfl, s6 _ _ hg5, gH, gN, hB5.same s6, s6 _ _ hN5, nN5, fun _ h => (nomatch h), fun _ h => (nomatch h), .nil, Nat.zero_le _, s5.trans s6⟩ ?_ ?_⟩
  ·rintro j σ H6 hj ⟨v9', v10', v11', g6, my6, vs6, Y, rfl, hg6, gH6, gN6, hB6, hN6, nN6, hY, hYo, hYn, hYl, s6'⟩
   have hj' : j < 3 := by lia
   have lv6 := hB6.length
   rw [List.length_append, List.length_cons] at lv6
   refine ⟨_, rfl, _, rfl, _, _, rfl, rfl, mulC _ _ (by decide) (by decide), _, _, rfl, rfl, _, rfl, _, _, rfl, rfl, mulC _ _ (by decide) (by decide), _, _, rfl, rfl, _, rfl, _, rfl, _, rfl, _, rfl, _, _, rfl, rfl, mulC _ _ (by decide) (by decide), _, _, rfl, rfl, _, rfl, _, _, rfl, rfl, mulC _ _ (by decide) (by decide), _, _, rfl, rfl, _, rfl, a, ns, _, _, rfl, s6'.seq hS, by lia, by lia, by lia, by lia, fun v H7 hv hvl s7 => ?_⟩
   have hv' : fl v = 97 + j := by rw [hv]; lia
   refine ⟨_, rfl, a, d, ns, _, n, w, v, us, T, rfl, (s6'.trans s7).seq hS, by lia, by lia, n1, n12, (s6'.trans s7).seq hd, hT.same (s6'.trans s7), tT, tl, fun gr vr R H8 s8 fgr hgr hBr hR => ?_⟩
   have s78 := s7.trans s8
   have s68 := s6'.trans s78
   have hg8 := s78 _ _ hg6
   have hN8 := s78 _ _ hN6
   obtain ⟨L, c, U, eR, _⟩ := hR.hd
   have lvr := hBr.length
   obtain ⟨v0, ev0⟩ : ∃ v0, vr[0]? = some v0 := ⟨_, gE (by rw [lvr, eR]; exact Nat.zero_lt_succ _)⟩
   obtain ⟨r0, lr, er0, rfl, hr0⟩ := hBr.get ev0
   rw [eR] at er0
   cases er0
   have a0 : atI vr 0 = some (.ref lr) := atNat (k := 0) ev0
   have a3 : atI ((BR.way w v L c).cells.map kV) 3 = some (.int L) := rfl
   obtain ⟨bo, bk⟩ := blk_of hv' hR
   refine ⟨_, rfl, _, rfl, _, _, rfl, rfl, _, rfl, gr, _, _, _, rfl, rfl, sqL_new hgr, a0, lr, _, _, _, rfl, rfl, sqL_new hr0, a3, _, _, rfl, rfl, _, _, rfl, rfl, _, _, rfl, rfl, _, rfl, ite2 (fun _ => ?_) (fun _ => ?_)⟩
   ·refine ⟨_, rfl, _, rfl, _, _, rfl, rfl, _, rfl, gr, _, _, _, rfl, rfl, sqL_new hgr, a0, lr, _, _, _, rfl, rfl, sqL_new hr0, a3, _, _, rfl, rfl, _, _, rfl, rfl, ?_⟩
    have lR := hR.len
    refine ⟨_, rfl, _, rfl, g6, gr, _, _, rfl, rfl, hg8, hgr, by rw [lv6, lvr]; lia, fun p8 hp8 => ?_⟩
    have s9 := same_new' hp8 (.lst (vs6 ++ vr))
    have gH9 : H p8 = none := up hp8 s68
    refine ⟨_, _, _, p8, _, vs6 ++ vr, Y ++ R, rfl, upd_same, gH9, (ne_of_none hN8 hp8).symm, ?_, s9 _ _ hN8, fun h => ?_, fun r hr => ?_, fun r hr => ?_, List.pairwise_append.mpr ⟨hYn, hR.nd, fun r hr q hq => blk_apart (hY r hr) hv' hR hq⟩, by rw [List.length_append]; lia, s68.trans s9⟩
    ·have h5 := ((hB6.same s78).same s9).app (hBr.same s9)
     rw [List.append_assoc, List.cons_append] at h5
     exact h5
    ·rcases List.mem_append.mp h with h | h
     ·exact nN6 h
     ·obtain ⟨r, hr, hh⟩ := hBr.mem h
      rw [hN8] at hh
      exact row_noStrs (blk_nums hR r hr) (HO.lst.inj (Option.some.inj hh)).symm
    ·rcases List.mem_append.mp hr with h | h
     ·exact (hY r h).mono (by lia)
     ·exact bo r h
    ·rcases List.mem_append.mp hr with h | h
     ·exact hYo r h
     ·exact bk r h
   ·exact ⟨_, _, _, g6, my6, vs6, Y, rfl, hg8, gH6, gN6, hB6.same s78, hN8, nN6, fun r hr => (hY r hr).mono (by lia), hYo, hYn, by lia, s68⟩
  ·rintro σ H6 ⟨v9', v10', v11', g6, my6, vs6, Y, rfl, hg6, gH6, gN6, hB6, hN6, nN6, hY, hYo, hYn, hYl, s6'⟩
   have lv6 := hB6.length
   rw [List.length_append, List.length_cons] at lv6
   have wk4 : ∀ r ∈ Y, r.kind ≠ 4 ∧ r.kind ≠ 10 ∧ r.kind ≠ 9 := fun r hr => by
    obtain ⟨v, _, ⟨l', c', rfl⟩ | ⟨k', t', m', rfl⟩⟩ := hY r hr
    ·exact ⟨by show (5 : Nat) ≠ 4; decide, by show (5 : Nat) ≠ 10; decide, by show (5 : Nat) ≠ 9; decide⟩
    ·have := k'.isLt
     exact ⟨by show 6 + k'.val ≠ 4; lia, by show 6 + k'.val ≠ 10; lia, by show 6 + k'.val ≠ 9; lia⟩
   have hBk : BlkOk n nm w W (BR.work w :: Y) := by
    refine ⟨fun r hr => ?_, List.pairwise_cons.mpr ⟨fun r hr => apart_kind (fun e => (wk4 r hr).1 e.symm), hYn⟩, fun r hr => ?_⟩
    ·rcases List.mem_cons.mp hr with e | e
     ·rw [e]; exact True.intro
     ·exact hYo r e
    ·rcases List.mem_cons.mp hr with e | e
     ·rw [e]; exact ⟨List.mem_cons_self, fun x hx => by rw [List.mem_singleton.mp hx]; exact List.mem_append_right _ List.mem_cons_self⟩
     ·rw [(hY r e).own]; exact ⟨List.mem_cons_self, fun x hx => by rw [List.mem_singleton.mp hx]; exact List.mem_append_right _ List.mem_cons_self⟩
   have no9 : ∀ r ∈ BR.work w :: Y, r.kind ≠ 9 := fun r hr => by
    rcases List.mem_cons.mp hr with e | e
    ·rw [e]; show (4 : Nat) ≠ 9; decide
    ·exact (wk4 r e).2.2
   have no10 : ∀ r ∈ BR.work w :: Y, r.kind ≠ 10 := fun r hr => by
    rcases List.mem_cons.mp hr with e | e
    ·rw [e]; show (4 : Nat) ≠ 10; decide
    ·exact (wk4 r e).2.1
   dsimp only
   refine seq_cut (fun σ' H' => ∃ (v9 v10 v11 : Option V) (g : Addr) (my : Int) (vs : List V) (Y : List BR), σ' = [some (.ref a), some (.int n), some (.ref d), some (.ref g), some (.ref N), some (.int my), some (.int (0 + (i : Int))), some (.str w), some (.int nb), v9, v10, v11] ∧ H' g = some (.lst vs) ∧ H g = none ∧ g ≠ N ∧ RowsB H' vs (W ++ Y) ∧ H' N = some (.lst ((nm ++ [w]).map V.str)) ∧ V.ref N ∉ vs ∧ BlkOk n nm w W Y ∧ BR.work w ∈ Y ∧ (∀ r ∈ Y, r.kind ≠ 9) ∧ Y.length ≤ 71 ∧ Same H H') ?_ fun REST => ?_
   ·rintro σ' H7 ⟨v9, v10, v11, g7, my7, vs7, Y7, rfl, hg7, gH7, gN7, hB7, hN7, nN7, hY7, hwk7, h97, hl7, s7⟩
    have lv7 := hB7.length
    rw [List.length_append] at lv7
    have fin : ∀ (v9 v10 v11 : Option V) (H8 : Hp) (vs8 : List V) (Y8 : List BR), H8 g7 = some (.lst vs8) → RowsB H8 vs8 (W ++ Y8) → H8 N = some (.lst ((nm ++ [w]).map V.str)) → V.ref N ∉ vs8 → BlkOk n nm w W Y8 → BR.work w ∈ Y8 → Y8.length ≤ 72 → Same H H8 → ∃ (v6 v7 v8 v9' v10' v11' : Option V) (g : Addr) (my : Int) (vs : List V) (W : List BR) (nm : List Str), [some (V.ref a), some (V.int n), some (V.ref d), some (V.ref g7), some (V.ref N), some (V.int my7), some (V.int (0 + (i : Int))), some (V.str w), some (V.int nb), v9, v10, v11] = [some (.ref a), some (.int n), some (.ref d), some (.ref g), some (.ref N), some (.int my), v6, v7, v8, v9', v10', v11'] ∧ H8 g = some (.lst vs) ∧ H g = none ∧ g ≠ N ∧ RowsB H8 vs W ∧ H8 N = some (.lst (nm.map V.str)) ∧ V.ref N ∉ vs ∧ WkOk n nm W ∧ nm.length = i + 1 ∧ (∀ j x, nm[j]? = some x → fl x = 97 + j) ∧ W.length ≤ 73 * (i + 1) ∧ Same H H8 := by
     intro v9 v10 v11 H8 vs8 Y8 f1 f2 f3 f4 f5 f6 f7 f8
     refine ⟨_, _, _, _, _, _, g7, my7, vs8, W ++ Y8, nm ++ [w], rfl, f1, gH7, gN7, f2, f3, f4, hW.join wn f5 f6, by rw [List.length_append]; show nm.length + 1 = _; lia, fun j x e => ?_, by rw [List.length_append]; lia, f8⟩
     by_cases hj : j < nm.length
     ·rw [List.getElem?_append_left hj] at e
      exact hfl j x e
     ·have hj2 := (List.getElem?_eq_some_iff.mp e).1
      rw [List.length_append] at hj2
      have hj3 : j < nm.length + 1 := hj2
      have ej : j = nm.length := by lia
      subst ej
      rw [List.getElem?_append_right (Nat.le_refl _), Nat.sub_self] at e
      cases e
      rw [hw', hnl]
    refine ⟨_, rfl, _, _, rfl, rfl, _, rfl, ite2 (fun yk => ?_) (fun _ => ?_)⟩
    ·have hi0 : 0 < i := by
      have := of_decide_eq_true yk
      lia
     refine ⟨_, rfl, _, _, rfl, rfl, ⟨by decide, by decide⟩, _, _, rfl, rfl, (by show (0 : Int) < _; decide +kernel), _, _, rfl, rfl, _, rfl, ite2 (fun _ => ?_) (fun _ => ?_)⟩
     ·have pi : (0 : Int) < 0 + (i : Int) := by lia
      have x0 := Int.emod_nonneg (nb / 48) (Int.ne_of_gt pi)
      have x1 := Int.emod_lt_of_pos (nb / 48) pi
      obtain ⟨kx, ekx⟩ : ∃ kx : Nat, nb / 48 % (0 + (i : Int)) = ((kx : Nat) : Int) := ⟨(nb / 48 % (0 + (i : Int))).toNat, by lia⟩
      have hkx : kx < nm.length := by lia
      obtain ⟨x, ex⟩ : ∃ x, nm[kx]? = some x := ⟨_, gE hkx⟩
      have hx := hfl kx x ex
      have xw : x ≠ w := fun e => by rw [e, hw'] at hx; lia
      have xm : x ∈ nm := List.mem_of_getElem? ex
      have ax : atI ((nm ++ [w]).map V.str) (nb / 48 % (0 + (i : Int))) = some (.str x) := by
       rw [ekx]
       exact atNat (by rw [List.getElem?_map, List.getElem?_append_left hkx, ex]; rfl)
      refine ⟨_, rfl, _, rfl, _, _, rfl, rfl, ⟨by decide, by decide⟩, _, rfl, _, _, rfl, rfl, pi, N, _, _, _, rfl, rfl, sqL_new hN7, ax, _, rfl, by show 2 ≤ sizeLine; decide, fun pr hpr => ?_⟩
      have s8 := same_new' hpr (.lst [.str x, .str w])
      have hpr8 : upd H7 pr (.lst [.str x, .str w]) pr = some (.lst [.str x, .str w]) := upd_same
      have prg : pr ≠ g7 := fun e => by rw [e, hg7] at hpr; cases hpr
      have prN : pr ≠ N := fun e => by rw [e, hN7] at hpr; cases hpr
      have prH : H pr = none := up hpr s7
      have prv : V.ref pr ∉ vs7 := fun h => by
       obtain ⟨r, _, hh⟩ := hB7.mem h
       rw [hpr] at hh
       cases hh
      generalize upd H7 pr (.lst [.str x, .str w]) = H8 at s8 hpr8 ⊢
      have mn : ∃ mn : Int, (if (3 : Int) < n + 1 then 3 else n + 1) = mn := ⟨_, rfl⟩
      obtain ⟨mn, emn⟩ := mn
      have hmn : 1 ≤ mn ∧ mn ≤ n + 1 := by rw [← emn]; split <;> lia
      have q0 := Int.emod_nonneg (nb / 500) (show mn ≠ 0 by lia)
      have q1 := Int.emod_lt_of_pos (nb / 500) (show 0 < mn by lia)
      refine name_cut (fun σ' H' => ∃ (x1 x2 : Str), σ' = [some (.ref a), some (.int n), some (.ref d), some (.ref g7), some (.ref N), some (.int my7), some (.int (0 + (i : Int))), some (.str w), some (.int nb), v9, v10, some (.ref pr)] ∧ H' pr = some (.lst [.str x1, .str x2]) ∧ H' g7 = some (.lst vs7) ∧ RowsB H' vs7 (W ++ Y7) ∧ H' N = some (.lst ((nm ++ [w]).map V.str)) ∧ Same H H' ∧ x1 ≠ x2 ∧ (w = x1 ∨ w = x2) ∧ x1 ∈ nm ++ [w] ∧ x2 ∈ nm ++ [w]) ?_ fun REST2 => ?_
      ·rintro σ' H9 ⟨x1, x2, rfl, hpr9, hg9, hB9, hN9, s9, x12, hwx, m1, m2⟩
       refine ⟨_, rfl, .inl ⟨rfl, _, sqL_new hg9⟩, _, rfl, pr, _, _, _, rfl, rfl, sqL_new hpr9, at0, _, rfl, pr, _, _, _, rfl, rfl, sqL_new hpr9, at1, _, rfl, _, _, rfl, rfl, ⟨by decide, by decide⟩, _, rfl, _, _, rfl, rfl, _, _, rfl, ?_⟩
       rw [emn]
       refine ⟨_, _, rfl, rfl, (by show 0 < mn; lia), by show 4 ≤ sizeLine; decide, fun l9 hl9 => ?_⟩
       have lN9 : l9 ≠ N := fun e => by rw [e, hN9] at hl9; cases hl9
       have s10 := same_new' hl9 (.lst [.str "after", .str x1, .str x2, .int (nb / 500 % mn)])
       have hl99 : upd H9 l9 (.lst [.str "after", .str x1, .str x2, .int (nb / 500 % mn)]) l9 = some (.lst ((BR.after x1 x2 (nb / 500 % mn)).cells.map kV)) := upd_same
       generalize upd H9 l9 (.lst [.str "after", .str x1, .str x2, .int (nb / 500 % mn)]) = H10 at s10 hl99 ⊢
       have hg10 := s10 _ _ hg9
       refine ⟨g7, _, _, rfl, rfl, hg10, by lia, ?_⟩
       have hB11 := ((hB9.same s10).snoc hl99).updL (zs := vs7 ++ [.ref l9]) hg10 hB9.noRow
       rw [List.append_assoc] at hB11
       refine fin _ _ _ _ _ (Y7 ++ [BR.after x1 x2 (nb / 500 % mn)]) upd_same hB11 (by rw [upd_ne gN7.symm]; exact s10 _ _ hN9) (fun h => ?_) (hY7.snoc ⟨x12, q0, by lia⟩ ?_ (fun y hy => ?_) (fun r hr => apart_kind (h97 r hr))) (List.mem_append_left _ hwk7) (by rw [List.length_append]; show Y7.length + 1 ≤ 72; lia) (fun c o e => by rw [upd_ne (ne_of_none e gH7)]; exact (s9.trans s10) _ _ e)
       ·rcases List.mem_append.mp h with h | h
        ·exact nN7 h
        ·have h2 := List.mem_singleton.mp h
         injection h2 with h3
         exact lN9 h3.symm
       ·rcases hwx with e | e
        ·rw [e]; exact List.mem_cons_self
        ·rw [e]; exact List.mem_cons_of_mem _ List.mem_cons_self
       ·rcases List.mem_cons.mp hy with e | e
        ·rw [e]; exact m1
        ·rw [List.mem_singleton.mp e]; exact m2
      ·have xi : x ∈ nm ++ [w] := List.mem_append_left _ xm
       have wi : w ∈ nm ++ [w] := List.mem_append_right _ List.mem_cons_self
       refine ⟨_, rfl, _, _, rfl, rfl, ⟨by decide, by decide⟩, _, _, rfl, rfl, (by show (0 : Int) < _; decide +kernel), rfl, _, rfl, ite2 (fun _ => ?_) (fun _ => ?_)⟩
       ·refine ⟨_, rfl, .inl ⟨rfl, _, sqL_new hpr8⟩, pr, _, rfl, rfl, hpr8, REST2 _ _ ⟨w, x, rfl, upd_same, ?_, ?_, ?_, fun c o e => ?_, xw.symm, .inl rfl, wi, xi⟩⟩
        ·rw [upd_ne prg.symm]; exact s8 _ _ hg7
        ·exact (hB7.same s8).imp fun l r hm z => by rw [upd_ne (fun e => prv (by rw [← e]; exact hm))]; exact z
        ·rw [upd_ne prN.symm]; exact s8 _ _ hN7
        ·rw [upd_ne (ne_of_none e prH)]; exact (s7.trans s8) _ _ e
       ·exact REST2 _ _ ⟨x, w, rfl, hpr8, s8 _ _ hg7, hB7.same s8, s8 _ _ hN7, s7.trans s8, xw, .inr rfl, xi, wi⟩
     ·exact fin _ _ _ _ _ _ hg7 hB7 hN7 nN7 hY7 hwk7 (by lia) s7
    ·exact fin _ _ _ _ _ _ hg7 hB7 hN7 nN7 hY7 hwk7 (by lia) s7
   ·have e0 := Int.emod_nonneg (nb / 24) (show (n + 1) ≠ 0 by lia)
    have e1 := Int.emod_lt_of_pos (nb / 24) (show 0 < n + 1 by lia)
    have c0 := Int.emod_nonneg (nb / 400) (show (999 : Int) ≠ 0 by decide)
    have c1 := Int.emod_lt_of_pos (nb / 400) (show (0 : Int) < 999 by decide)
    refine ⟨_, rfl, _, _, rfl, rfl, ⟨by decide, by decide⟩, _, _, rfl, rfl, (by show (0 : Int) < _; decide +kernel), rfl, _, rfl, ite2 (fun _ => ?_) (fun _ => ?_)⟩
    ·refine ⟨_, rfl, .inl ⟨rfl, _, sqL_new hg6⟩, _, rfl, _, rfl, _, _, rfl, rfl, ⟨by decide, by decide⟩, _, rfl, _, _, rfl, rfl, _, _, rfl, rfl, (by show 0 < n + 1; lia), _, rfl, _, _, rfl, rfl, ⟨by decide, by decide⟩, _, _, rfl, rfl, (by show (0 : Int) < _; decide +kernel), _, _, rfl, rfl, by show 4 ≤ sizeLine; decide, fun l7 hl7 => ?_⟩
     have lN7 : l7 ≠ N := fun e => by rw [e, hN6] at hl7; cases hl7
     have s7 := same_new' hl7 (.lst [.str "late", .str w, .int (nb / 24 % (n + 1)), .int (1 + nb / 400 % 999)])
     have hl77 : upd H6 l7 (.lst [.str "late", .str w, .int (nb / 24 % (n + 1)), .int (1 + nb / 400 % 999)]) l7 = some (.lst ((BR.late w (nb / 24 % (n + 1)) (1 + nb / 400 % 999)).cells.map kV)) := upd_same
     generalize upd H6 l7 (.lst [.str "late", .str w, .int (nb / 24 % (n + 1)), .int (1 + nb / 400 % 999)]) = H7 at s7 hl77 ⊢
     have hg7 := s7 _ _ hg6
     refine ⟨g6, _, _, rfl, rfl, hg7, by lia, REST _ _ ⟨_, _, _, g6, my6, _, BR.work w :: Y ++ [BR.late w (nb / 24 % (n + 1)) (1 + nb / 400 % 999)], rfl, upd_same, gH6, gN6, ?_, ?_, fun h => ?_, hBk.snoc ⟨e0, by lia, by lia, by lia⟩ List.mem_cons_self (fun x hx => ?_) (fun r hr => apart_kind (no10 r hr)), List.mem_append_left _ List.mem_cons_self, fun r hr => ?_, ?_, fun c o e => ?_⟩⟩
     ·have h5 := ((hB6.same s7).snoc hl77).updL (zs := vs6 ++ [.ref l7]) hg7 hB6.noRow
      rw [List.append_assoc] at h5
      exact h5
     ·rw [upd_ne gN6.symm]; exact s7 _ _ hN6
     ·rcases List.mem_append.mp h with h | h
      ·exact nN6 h
      ·have h2 := List.mem_singleton.mp h
       injection h2 with h3
       exact lN7 h3.symm
     ·rw [List.mem_singleton.mp hx]; exact List.mem_append_right _ List.mem_cons_self
     ·rcases List.mem_append.mp hr with h | h
      ·exact no9 r h
      ·rw [List.mem_singleton.mp h]; show (10 : Nat) ≠ 9; decide
     ·rw [List.length_append, List.length_cons]; show Y.length + 1 + 1 ≤ 71; lia
     ·rw [upd_ne (ne_of_none e gH6)]; exact (s6'.trans s7) _ _ e
    ·exact REST _ _ ⟨_, _, _, g6, my6, vs6, BR.work w :: Y, rfl, hg6, gH6, gN6, hB6, hN6, nN6, hBk, List.mem_cons_self, no9, by rw [List.length_cons]; lia, s6'⟩
 ·rintro σ H1 ⟨v6, v7, v8, v9, v10, v11, g, my, vs, W, nm, rfl, hg1, gH, gN, hB1, hN1, nN1, hW, hnl, hfl, hlen, s1'⟩
  exact ⟨_, rfl, q g vs nm W H1 s1' gH hg1 hB1 hW (by lia) (by lia)⟩
end
abbrev sBook : Stmt := top 27
theorem thing_own {r : BR} (h : Thing r) : r.own = [] := by cases h <;> rfl
theorem thing_kind {r : BR} (h : Thing r) : r.kind ≠ 0 := by
 cases h with
 | bench b r => show (1 : Nat) ≠ 0; decide
 | shut b f t => show (2 : Nat) ≠ 0; decide
 | store b m f => show (3 : Nat) ≠ 0; decide
theorem book_wb {n : Int} {nm : List Str} {T W : List BR} (tT : ThOk n T) (hW : WkOk n nm W) (tl : T.length ≤ 11) (wl : W.length ≤ 370) (nl : nm.length ≤ 5) : WB n (.days n :: (T ++ W)) := by
 refine ⟨fun r hr => ?_, List.pairwise_cons.mpr ⟨fun r hr => ?_, List.pairwise_append.mpr ⟨tT.nd, hW.nd, fun r hr q hq => ?_⟩⟩, fun r hr w hw => ?_, ?_, nm, nl, fun r hr w hw => ?_⟩
 ·rcases List.mem_cons.mp hr with e | e
  ·rw [e]; rfl
  ·rcases List.mem_append.mp e with e | e
   ·exact tT.ok r e
   ·exact hW.ok r e
 ·rcases List.mem_append.mp hr with e | e
  ·exact apart_kind (fun z => thing_kind (tT.th r e) z.symm)
  ·refine .inr (.inr fun z => ?_)
   cases ho : r.own with
   | nil => exact (hW.own r e).1 ho
   | cons w ws =>
    have h5 : w ∈ (BR.days n).own := own_key z (by rw [ho]; exact List.mem_cons_self)
    exact nomatch h5
 ·refine .inr (.inr fun z => ?_)
  cases ho : q.own with
  | nil => exact (hW.own q hq).1 ho
  | cons w ws =>
   have h5 : w ∈ r.own := own_key z (by rw [ho]; exact List.mem_cons_self)
   rw [thing_own (tT.th r hr)] at h5
   exact nomatch h5
 ·rcases List.mem_cons.mp hr with e | e
  ·rw [e] at hw; exact nomatch hw
  ·rcases List.mem_append.mp e with e | e
   ·rw [thing_own (tT.th r e)] at hw; exact nomatch hw
   ·exact List.mem_cons_of_mem _ (List.mem_append_right _ (hW.wk w ((hW.own r e).2 w hw)))
 ·rw [List.length_cons, List.length_append]; lia
 ·rcases List.mem_cons.mp hr with e | e
  ·rw [e] at hw; exact nomatch hw
  ·rcases List.mem_append.mp e with e | e
   ·rw [thing_own (tT.th r e)] at hw; exact nomatch hw
   ·exact (hW.own r e).2 w hw
structure BookOk (n : Int) (B : List BR) : Prop where
 n1 : 1 ≤ n
 n12 : n ≤ 12
 wb : WB n B
 hd : B[0]? = some (.days n)
theorem perm_in {α : Type} (B : List α) (k : Nat) (r : α) : (B.take k ++ [r] ++ B.drop k).Perm (r :: B) := by
 have h := List.perm_middle (a := r) (l₁ := B.take k) (l₂ := B.drop k)
 rw [List.take_append_drop] at h
 rwa [List.append_assoc]
inductive IspBook (K : Fg) (vs : List V) (H : Hp) (Q : VK) : Prop
 | mk (a : Addr) (ns : List Int) (h1 : vs = [.ref a]) (h2 : SqL K H a (ns.map V.int)) (h3 : ∀ (g : Addr) (vs : List V) (n : Int) (B : List BR) (H' : Hp), Same H H' → H' g = some (.lst vs) → RowsB H' vs B → BookOk n B → Q (.ref g) H')
def spBook (K : Fg) : Sp := fun vs H Q _ => IspBook K vs H Q
section
variable {P : Program} {w : World} {K : Fg} {mg : Str → Option Value} {base : Heap}
theorem scBook : FnScope ["_law_script", "_law_days", "_law_things_here", "_law_rows", "_law_mixed_here", "_law_k", "_law_row"] ["_law_script"] (defScope sBook) := ⟨rfl, rfl, rfl, by decide +kernel, rfl, by decide +kernel, by decide +kernel⟩
theorem okBook (F : Fn K mg "_law_book" sBook) (M : Mg mg) (cl_mixed : Cal P w K mg base 2 "_law_mixed" ["_law_script", "_law_k"] (spMixed K)) (cl_things : Cal P w K mg base 4 "_law_things" ["_law_script", "_law_days"] (spThings K)) (cl_works : Cal P w K mg base 4 "_law_works" ["_law_script", "_law_days", "_law_things_here"] (spWorks K)) (cl_put : Cal P w K mg base 1 "_law_put" ["_law_rows", "_law_row", "_law_number"] (spPut K)) : Cal P w K mg base 5 "_law_book" ["_law_script"] (spBook K) := by
 refine cal_of F scBook (fun _ _ _ _ _ _ => bind1 (fun _ => rfl)) (fun vs H Q E h => ?_) (fun f cdv A outer s H vs Q E hr h => ?_)
 ·obtain ⟨a, ns, rfl, _⟩ := h
  rfl
 obtain ⟨a, ns, rfl, hS, q⟩ := h
 refine ⟨_, (pss_cons (ps_set (i := 1) scBook.nd rfl (Or.inl rfl) (pe_op op_add pe_int (pe_op op_mod (pe_fn cl_mixed (hr.mono (by decide)) (pa_cons (pv 0) (pa_cons pe_int pa_nil))) pe_int)))
  (pss_cons (ps_set (i := 2) scBook.nd rfl (Or.inl rfl) (pe_fn cl_things (hr.mono (by decide)) (pa_cons (pv 0) (pa_cons (pv 1) pa_nil))))
  (pss_cons (ps_set (i := 3) scBook.nd rfl (Or.inl rfl) (pe_lst (pa_cons (pe_lst (pa_cons pe_str (pa_cons (pv 1) pa_nil))) pa_nil)))
  (pss_cons (ps_set (i := 4) scBook.nd rfl (Or.inl rfl) (pe_cmpR op_eq (pe_op op_mod (pe_fn cl_mixed (hr.mono (by decide)) (pa_cons (pv 0) (pa_cons pe_int pa_nil))) pe_int) pe_int (nomark _)))
  (pss_cons (ps_for PassesOwn.never rfl (pi_enum true rfl M.enumerate_ (pa_cons (pe_op op_cat (pv 2) (pe_fn cl_works (hr.mono (by decide)) (pa_cons (pv 0) (pa_cons (pv 1) (pa_cons (pv 2) pa_nil))))) pa_nil)) (pg_pair (K := K) (i := 5) (j := 6) rfl rfl scBook.nd rfl rfl rfl rfl) (pss_one (ps_if (pt_val (pv 4)) (pss_one (ps_set (i := 3) scBook.nd rfl (Or.inl rfl) (pe_fn cl_put (hr.mono (by decide)) (pa_cons (pv 3) (pa_cons (pv 6) (pa_cons (pe_fn cl_mixed (hr.mono (by decide)) (pa_cons (pv 0) (pa_cons (pe_op op_add pe_int (pv 5)) pa_nil))) pa_nil)))))) (pss_one (ps_set (i := 3) scBook.nd rfl (Or.inl rfl) (pe_op op_cat (pv 3) (pe_lst (pa_cons (pv 6) pa_nil))))))))
  (pss_one (ps_ret (pv 3)))))))), ?_⟩
 refine seq_let6 ?_
 intro rT6 rT5 rT4 rT3 rT2
 have hz : (20000 : Nat) < sizeLine := by decide
 refine ⟨_, rfl, a, ns, 0, rfl, hS, by decide, by decide, fun z z0 z1 => ?_⟩
 refine ⟨_, _, rfl, rfl, (by show (0 : Int) < _; decide +kernel), _, _, rfl, rfl, ?_⟩
 dsimp only
 generalize hn : 1 + z % 12 = n
 have n1 : 1 ≤ n ∧ n ≤ 12 := by lia
 refine ⟨_, rfl, _, rfl, a, ns, n, rfl, hS, n1.1, n1.2, fun gt vt T H1 s1 fgt hgt hBT tT tl => ?_⟩
 refine ⟨_, rfl, by show 2 ≤ sizeLine; decide, fun l hl => ?_⟩
 have s2 := s1.trans (same_new' hl (.lst [.str "days", .int n]))
 have s12 := same_new' hl (.lst [.str "days", .int n])
 have hl2 : upd H1 l (.lst [.str "days", .int n]) l = some (.lst ((BR.days n).cells.map kV)) := upd_same
 generalize upd H1 l (.lst [.str "days", .int n]) = H2 at s2 s12 hl2 ⊢
 refine ⟨by show 1 ≤ sizeLine; decide, fun g0 hg0 => ?_⟩
 have s23 := same_new' hg0 (.lst [.ref l])
 have s3 := s2.trans s23
 have s13 := s12.trans s23
 have hg3 : upd H2 g0 (.lst [.ref l]) g0 = some (.lst [.ref l]) := upd_same
 have hB3 : RowsB (upd H2 g0 (.lst [.ref l])) [.ref l] [.days n] := RowsB.snoc (vs := []) (B := []) .nil (s23 _ _ hl2)
 generalize upd H2 g0 (.lst [.ref l]) = H3 at s23 s3 s13 hg3 hB3 ⊢
 refine ⟨_, rfl, a, ns, 3, rfl, s3.seq hS, by decide, by decide, fun y y0 y1 => ?_⟩
 refine ⟨_, _, rfl, rfl, (by show (0 : Int) < _; decide +kernel), rfl, ?_⟩
 generalize decide (V.int (y % 2) = V.int 1) = bb
 refine ⟨_, rfl, _, rfl, _, rfl, _, rfl, a, gt, ns, n, vt, T, rfl, s3.seq hS, n1.1, n1.2, sqL_new (s13 _ _ hgt), hBT.same s13, tT, tl, fun gw vw nm W H4 s4 fgw hgw hBW hW wl nl => ?_⟩
 have lvt := hBT.length
 have lvw := hBW.length
 refine ⟨gt, gw, _, _, rfl, rfl, s4 _ _ (s13 _ _ hgt), hgw, by lia, fun p hp => ?_⟩
 have s45 := same_new' hp (.lst (vt ++ vw))
 have hp5 : upd H4 p (.lst (vt ++ vw)) p = some (.lst (vt ++ vw)) := upd_same
 have hX5 : RowsB (upd H4 p (.lst (vt ++ vw))) (vt ++ vw) (T ++ W) := ((hBT.same (s13.trans s4)).same s45).app (hBW.same s45)
 have s5 := (s3.trans s4).trans s45
 have hg5 := (s4.trans s45) _ _ hg3
 have hB5 := hB3.same (s4.trans s45)
 generalize upd H4 p (.lst (vt ++ vw)) = H5 at s45 hp5 hX5 s5 hg5 hB5 ⊢
 have lx := hX5.length
 let Pv11 : Nat → St → Hp → Prop := fun i σ H6 => ∃ (v5 v6 : Option V) (g : Addr) (vs : List V) (B : List BR), σ = [some (.ref a), some (.int n), some (.ref gt), some (.ref g), some (.bl bb), v5, v6] ∧ H6 g = some (.lst vs) ∧ RowsB H6 vs B ∧ B.Perm (BR.days n :: (T ++ W).take i) ∧ B[0]? = some (.days n) ∧ Same H5 H6
 refine ⟨p, rfl, ⟨_, sqL_new hp5⟩, for_enum (K := K) (m := true) (a := p) (xs := vt ++ vw) Pv11 ⟨none, none, g0, _, [.days n], rfl, hg5, hB5, .refl _, rfl, Same.refl _⟩ (fun i σ H6 _ h => ?_) ?_ ?_⟩
 ·obtain ⟨v5, v6, g, vs, B, rfl, hg6, hB6, hpm, hB0, s6⟩ := h
  exact s6.seq (sqL_new hp5)
 ·rintro i x σ H6 T' e1 ⟨v5, v6, g, vs, B, rfl, hg6, hB6, hpm, hB0, s6⟩ hT'
  obtain ⟨r, lr, er, rfl, hr5⟩ := hX5.get e1
  have hi := (List.getElem?_eq_some_iff.mp er).1
  rw [List.length_append] at hi
  have lB : B.length = i + 1 := by
   rw [hpm.length_eq, List.length_cons, List.length_take, List.length_append]
   lia
  have lvs := hB6.length
  have s67 := same_new' hT' (.tup [.int ((i : Nat) : Int), .ref lr])
  refine ⟨T', _, rfl, sqT_new upd_same, rfl, _, _, rfl, _, _, rfl, rfl, ?_⟩
  generalize upd H6 T' (.tup [.int ((i : Nat) : Int), .ref lr]) = H7 at s67 ⊢
  have s57 := s6.trans s67
  have hr7 := s57 _ _ hr5
  have hg7 := s67 _ _ hg6
  have hB7 := hB6.same s67
  have tk : (T ++ W).take (i + 1) = (T ++ W).take i ++ [r] := takeS er
  have fin : ∀ {B' : List BR}, B'.Perm (r :: B) → B'.Perm (BR.days n :: (T ++ W).take (i + 1)) := fun h => by
   rw [tk]
   refine h.trans ((List.Perm.cons r hpm).trans ?_)
   refine (List.Perm.swap _ _ _).trans (.cons _ ?_)
   have h5 := List.perm_append_comm (l₁ := [r]) (l₂ := (T ++ W).take i)
   exact h5
  refine ⟨_, rfl, _, rfl, ite2 (fun _ => ?_) (fun _ => ?_)⟩
  ·refine ⟨_, rfl, _, rfl, _, rfl, _, rfl, _, _, rfl, rfl, a, ns, _, rfl, (s5.trans s57).seq hS, by lia, by lia, fun y' y0' y1' => ?_⟩
   refine ⟨g, lr, _, vs, B, r, rfl, hg7, hB7, by lia, by lia, hr7, fun g8 k H8 k1 k2 s8 fg8 hg8 => ?_⟩
   refine ⟨_, _, g8, _, B.take k ++ [r] ++ B.drop k, rfl, hg8, (((hB7.same s8).take k).snoc (s8 _ _ hr7)).app ((hB7.same s8).drop k), fin (perm_in B k r), ?_, s57.trans s8⟩
   rw [List.append_assoc, List.getElem?_append_left (by rw [List.length_take]; lia), List.getElem?_take]
   rw [if_pos (by lia)]
   exact hB0
  ·refine ⟨_, rfl, _, rfl, by show 1 ≤ sizeLine; decide, fun p9 hp9 => ?_⟩
   have s9 := same_new' hp9 (.lst [.ref lr])
   refine ⟨g, p9, _, _, rfl, rfl, s9 _ _ hg7, upd_same, by show vs.length + 1 ≤ _; lia, fun g8 hg8 => ?_⟩
   have s10 := s9.trans (same_new' hg8 (.lst (vs ++ [.ref lr])))
   refine ⟨_, _, g8, _, B ++ [r], rfl, upd_same, (hB7.same s10).snoc (s10 _ _ hr7), fin (List.perm_append_comm (l₁ := B) (l₂ := [r])), ?_, s57.trans s10⟩
   rw [List.getElem?_append_left (by lia)]
   exact hB0
 ·rintro σ H6 ⟨v5, v6, g, vs, B, rfl, hg6, hB6, hpm, hB0, s6⟩
  rw [lx, List.take_length] at hpm
  exact ⟨_, rfl, q g vs n B H6 (s5.trans s6) hg6 hB6 ⟨n1.1, n1.2, (book_wb tT hW tl wl nl).perm hpm.symm, hB0⟩⟩
end
abbrev sWays : Stmt := top 28
abbrev sLength : Stmt := top 30
theorem sl_listK {X : Cx} {K : Fg} (hK : X.K = K) : SlR X (rSlL K) := by subst hK; exact sl_list
def isWay (w : Str) : BR → Bool
 | .way w' _ _ _ => decide (w' = w)
 | _ => false
theorem isWay_no {w : Str} {r : BR} (h : r.word ≠ "way") : isWay w r = false := by
 cases r with
 | way w' v l c => exact absurd rfl h
 | _ => rfl
theorem filter_next {α : Type} {B : List α} {i : Nat} {r : α} (p : α → Bool) (h : B[i]? = some r) : (B.take (i + 1)).filter p = (B.take i).filter p ++ (if p r = true then [r] else []) := by
 rw [takeS h, List.filter_append]
 by_cases c : p r = true
 ·rw [if_pos c, List.filter_cons_of_pos c, List.filter_nil]
 ·rw [if_neg c, List.filter_cons_of_neg c, List.filter_nil]
inductive IspWays (vs : List V) (H : Hp) (Q : VK) : Prop
 | mk (d : Addr) (w : Str) (us : List V) (B : List BR) (h1 : vs = [.ref d, .str w]) (h2 : H d = some (.lst us)) (h3 : RowsB H us B) (h4 : B.length ≤ 1000) (h5 : ∀ (D : Addr) (ys : List V) (H' : Hp), Same H H' → H D = none → H' D = some (.lst ys) → RowsB H' ys (B.filter (isWay w)) → Q (.ref D) H')
def spWays (_ : Fg) : Sp := fun vs H Q _ => IspWays vs H Q
def lenOf (w v : Str) : BR → Option Int
 | .way w' v' l _ => if w' = w ∧ v' = v then some l else none
 | _ => none
def cut3 (ks : List Key) : cutV (ks.map kV) none (some 3) = (ks.take 3).map kV := by
 unfold cutV
 rw [HT.sIx_none, List.drop_zero, Nat.sub_zero, List.length_map, show (3 : Int) = ((3 : Nat) : Int) from rfl, HT.sIx_nat, ← List.map_take]
 by_cases h : 3 ≤ ks.length
 ·rw [Nat.min_eq_left h]
 ·rw [Nat.min_eq_right (by lia), List.take_length, List.take_of_length_le (by lia)]
theorem way3 {r : BR} {w v : Str} : r.cells.take 3 = [Sum.inr ("way" : Str), Sum.inr w, Sum.inr v] ↔ ∃ l c, r = .way w v l c := by
 constructor
 ·intro h
  have hw : r.word = "way" := by
   have h1 : (r.cells.take 3).head? = some (Sum.inr ("way" : Str)) := by rw [h]; rfl
   have h2 : (r.cells.take 3).head? = some (Sum.inr r.word) := by cases r <;> rfl
   rw [h2] at h1
   exact Sum.inr.inj (Option.some.inj h1)
  obtain ⟨w', v', l, c, rfl⟩ := word_way hw
  have h' : [(Sum.inr ("way" : Str) : Key), Sum.inr w', Sum.inr v'] = [Sum.inr ("way" : Str), Sum.inr w, Sum.inr v] := h
  injection h' with _ h2
  injection h2 with h3 h4
  injection h4 with h5
  cases h3
  cases h5
  exact ⟨l, c, rfl⟩
 ·rintro ⟨l, c, rfl⟩
  rfl
theorem lenOf_some {w v : Str} {r : BR} {x : Int} : lenOf w v r = some x ↔ ∃ c, r = .way w v x c := by
 constructor
 ·intro h
  cases r with
  | way w' v' l c =>
   have h' : (if w' = w ∧ v' = v then some l else none) = some x := h
   by_cases e : w' = w ∧ v' = v
   ·rw [if_pos e] at h'
    cases h'
    rw [e.1, e.2]
    exact ⟨c, rfl⟩
   ·rw [if_neg e] at h'; cases h'
  | _ => cases h
 ·rintro ⟨c, rfl⟩
  exact if_pos ⟨rfl, rfl⟩
theorem fmap_next {α β : Type} {B : List α} {i : Nat} {r : α} (p : α → Option β) (h : B[i]? = some r) : (B.take (i + 1)).filterMap p = (B.take i).filterMap p ++ (p r).toList := by
 rw [takeS h, List.filterMap_append]
 congr 1
theorem WB.uniq {n : Int} {B : List BR} (h : WB n B) {r q : BR} (hr : r ∈ B) (hq : q ∈ B) (hk : r.key = q.key) (hs : r.word ≠ "shut") : r = q := by
 obtain ⟨i, ei⟩ := List.mem_iff_getElem?.mp hr
 obtain ⟨j, ej⟩ := List.mem_iff_getElem?.mp hq
 have hs' : q.word ≠ "shut" := by
  have h1 : ((Sum.inr r.word : Key) :: r.names.map Sum.inr) = Sum.inr q.word :: q.names.map Sum.inr := hk
  injection h1 with h2
  rw [← Sum.inr.inj h2]; exact hs
 rcases Nat.lt_trichotomy i j with c | c | c
 ·rcases pw_at h.nd c ei ej with z | z | z
  ·exact absurd z hs
  ·exact absurd z hs'
  ·exact absurd hk z
 ·subst c
  exact Option.some.inj (ei.symm.trans ej)
 ·rcases pw_at h.nd c ej ei with z | z | z
  ·exact absurd z hs'
  ·exact absurd z hs
  ·exact absurd hk.symm z
theorem WB.way1 {n : Int} {B : List BR} (h : WB n B) {w v : Str} {l c l' c' : Int} (h1 : .way w v l c ∈ B) (h2 : .way w v l' c' ∈ B) : l = l' ∧ c = c' := by
 have := h.uniq h1 h2 rfl (by show ¬ (("way" : Str) = "shut"); decide +kernel)
 cases this
 exact ⟨rfl, rfl⟩
inductive IspLength (vs : List V) (H : Hp) (Q : VK) : Prop
 | mk (d : Addr) (w v : Str) (n : Int) (us : List V) (B : List BR) (l c : Int) (h1 : vs = [.ref d, .str w, .str v]) (h2 : H d = some (.lst us)) (h3 : RowsB H us B) (h4 : WB n B) (h5 : .way w v l c ∈ B) (h6 : ∀ (H' : Hp), Same H H' → Q (.int l) H')
def spLength (_ : Fg) : Sp := fun vs H Q _ => IspLength vs H Q
section
variable {P : Program} {w : World} {K : Fg} {mg : Str → Option Value} {base : Heap}
theorem scWays : FnScope ["_law_book_here", "_law_work"] ["_law_book_here", "_law_work"] (defScope sWays) := ⟨rfl, rfl, rfl, by decide +kernel, rfl, by decide +kernel, by decide +kernel⟩
theorem okWays (F : Fn K mg "_law_ways" sWays) (M : Mg mg) : Cal P w K mg base 1 "_law_ways" ["_law_book_here", "_law_work"] (spWays K) := by
 refine cal_of F scWays (fun _ _ _ _ _ _ => bind2 (fun _ _ => rfl)) (fun vs H Q E h => ?_) (fun f cdv A outer s H vs Q E hr h => ?_)
 ·obtain ⟨d, w, us, B, rfl, _⟩ := h
  rfl
 obtain ⟨d, w, us, B, rfl, hd, hB, bl, q⟩ := h
 refine ⟨_, (pss_one (ps_ret (pe_lc ["_law_row", "_law_work"] [none, some 1] rfl (pi_list (pv 0)) (fun _ _ _ => (pg_name (i := 0) (show (["_law_row", "_law_work"] : List Str).Nodup by decide +kernel) rfl (Or.inl rfl) (Or.inr rfl))) (fun _ _ _ => (pf_one (PW.pt (pw_and (pt_cmpR op_eq (pe_ix (ix_listK (K := K) rfl) (pv 0) pe_int (fun _ _ => rfl)) pe_str (nomark _)) (pw_and1 (pt_cmpR op_eq (pe_ix (ix_listK (K := K) rfl) (pv 0) pe_int (fun _ _ => rfl)) (pv 1) (nomark _))))))) (fun _ _ _ => (pv 0))))), ?_⟩
 have hz : (20000 : Nat) < sizeLine := by decide
 have lu := hB.length
 refine ⟨_, rfl, d, rfl, ⟨_, sqL_new hd⟩, fun D hD => ?_⟩
 let Pv12 : Nat → St → List V → Hp → Prop := fun m τ ys H1 => ∃ v : Option V, τ = [v, some (.str w)] ∧ RowsB H1 ys ((B.take m).filter (isWay w)) ∧ ys.length ≤ m ∧ H1 D = some (.lst ys) ∧ Same H H1
 refine lc_any (n := B.length) Pv12 ?_ (fun m τ ys H1 hm h => ?_) (fun m τ ys H1 hm h => ?_) (fun τ ys H1 h => ?_) ?_ ?_
 ·exact ⟨none, rfl, .nil, Nat.le_refl _, upd_same, same_new' hD _⟩
 ·obtain ⟨v, rfl, hY, hl, hE, s1⟩ := h
  exact ⟨hE, by lia⟩
 ·obtain ⟨v, rfl, hY, hl, hE, s1⟩ := h
  exact ⟨us, us[m]'(by lia), s1.seq (sqL_new hd), gE (by lia)⟩
 ·obtain ⟨v, rfl, hY, hl, hE, s1⟩ := h
  exact ⟨us, s1.seq (sqL_new hd), by lia⟩
 ·rintro m τ ys H1 x H2 hm ⟨v, rfl, hY, hl, hE, s1⟩ ⟨rfl, e1⟩
  obtain ⟨r, lr, er, rfl, hr⟩ := (hB.same s1).get (e1 _ (s1.seq (sqL_new hd)))
  have no : isWay w r = false → ∃ v : Option V, ([some (.ref lr), some (.str w)] : St) = [v, some (.str w)] ∧ RowsB H2 ys ((B.take (m + 1)).filter (isWay w)) ∧ ys.length ≤ m + 1 ∧ H2 D = some (.lst ys) ∧ Same H H2 := fun h => by
   refine ⟨_, rfl, ?_, by lia, hE, s1⟩
   rw [filter_next (isWay w) er, h, if_neg (by decide), List.append_nil]
   exact hY
  refine ⟨_, rfl, lr, _, _, _, rfl, rfl, sqL_new hr, at_word r, rfl, _, rfl, ite2 (fun y => ?_) (fun y => iteF (no (isWay_no fun e => y (by rw [e]; exact yesS _))))⟩
  obtain ⟨w', v', l', c', rfl⟩ := word_way (eqS y)
  refine ⟨_, rfl, lr, _, _, _, rfl, rfl, sqL_new hr, (show atI ((BR.way w' v' l' c').cells.map kV) 1 = some (.str w') from rfl), _, rfl, rfl, _, rfl, ite2 (fun y2 => ?_) (fun y2 => no ?_)⟩
  ·have ew := eqS y2
   refine ⟨_, rfl, hE, _, rfl, ?_, by rw [List.length_append]; exact Nat.succ_le_succ hl, upd_same, fun b o e => ?_⟩
   ·rw [filter_next (isWay w) er, show isWay w (.way w' v' l' c') = true from decide_eq_true ew, if_pos rfl]
    exact (hY.snoc hr).updL hE hY.noRow
   ·rw [upd_ne (ne_of_none e hD)]; exact s1 _ _ e
  ·exact decide_eq_false fun e => y2 (by rw [e]; exact yesS _)
 ·rintro τ ys H1 ⟨v, rfl, hY, hl, hE, s1⟩
  rw [List.take_length] at hY
  exact q D ys H1 s1 hD hE hY
theorem scLength : FnScope ["_law_book_here", "_law_work", "_law_way_here"] ["_law_book_here", "_law_work", "_law_way_here"] (defScope sLength) := ⟨rfl, rfl, rfl, by decide +kernel, rfl, by decide +kernel, by decide +kernel⟩
theorem okLength (F : Fn K mg "_law_length" sLength) (M : Mg mg) : Cal P w K mg base 1 "_law_length" ["_law_book_here", "_law_work", "_law_way_here"] (spLength K) := by
 refine cal_of F scLength (fun _ _ _ _ _ _ => bind3 (fun _ _ _ => rfl)) (fun vs H Q E h => ?_) (fun f cdv A outer s H vs Q E hr h => ?_)
 ·obtain ⟨d, w, v, n, us, B, l, c, rfl, _⟩ := h
  rfl
 obtain ⟨d, w, v, n, us, B, l, c, rfl, hd, hB, wb, hmem, q⟩ := h
 have hu6 : (A.deeper (PyProof.Rows.envOfC "_law_length" (defScope sLength) s.heap.objs.size f cdv)).units + 6 < cLine := Nat.lt_of_le_of_lt (Nat.add_le_add_left (by decide) _) hr.un
 refine ⟨_, (pss_one (ps_ret (pe_ix ix_list (pe_lc ["_law_row", "_law_work", "_law_way_here"] [none, some 1, some 2] rfl (pi_list (pv 0)) (fun _ _ _ => (pg_name (i := 0) (show (["_law_row", "_law_work", "_law_way_here"] : List Str).Nodup by decide +kernel) rfl (Or.inl rfl) (Or.inr rfl))) (fun _ _ _ => (pf_one (pt_cmpR (op_eqK (K := K) (n := 6) rfl hu6) (pe_slice (sl_listK (K := K) rfl) (pv 0) po_none (po_some pe_int)) (pe_lst (pa_cons pe_str (pa_cons (pv 1) (pa_cons (pv 2) pa_nil)))) (nomark _)))) (fun _ _ _ => (pe_ix (ix_listK (K := K) rfl) (pv 0) pe_int (fun _ _ => rfl)))) pe_int (fun _ _ => rfl)))), ?_⟩
 have hz : (20000 : Nat) < sizeLine := by decide
 have lu := hB.length
 have bl := wb.len
 refine ⟨_, rfl, d, rfl, ⟨_, sqL_new hd⟩, fun D hD => ?_⟩
 let Pv13 : Nat → St → List V → Hp → Prop := fun m τ ys H1 => ∃ v' : Option V, τ = [v', some (.str w), some (.str v)] ∧ ys = ((B.take m).filterMap (lenOf w v)).map V.int ∧ ys.length ≤ m ∧ H1 D = some (.lst ys) ∧ Same H H1
 refine lc_any (n := B.length) Pv13 ?_ (fun m τ ys H1 hm h => ?_) (fun m τ ys H1 hm h => ?_) (fun τ ys H1 h => ?_) ?_ ?_
 ·exact ⟨none, rfl, rfl, Nat.le_refl _, upd_same, same_new' hD _⟩
 ·obtain ⟨v', rfl, ey, hl, hE, s1⟩ := h
  exact ⟨hE, by lia⟩
 ·obtain ⟨v', rfl, ey, hl, hE, s1⟩ := h
  exact ⟨us, us[m]'(by lia), s1.seq (sqL_new hd), gE (by lia)⟩
 ·obtain ⟨v', rfl, ey, hl, hE, s1⟩ := h
  exact ⟨us, s1.seq (sqL_new hd), by lia⟩
 ·rintro m τ ys H1 x H2 hm ⟨v', rfl, ey, hl, hE, s1⟩ ⟨rfl, e1⟩
  obtain ⟨r, lr, er, rfl, hr⟩ := (hB.same s1).get (e1 _ (s1.seq (sqL_new hd)))
  refine ⟨_, rfl, _, rfl, lr, _, rfl, sqL_new hr, fun p hp => ?_⟩
  rw [cut3]
  have s2 := same_new' hp (.lst ((r.cells.take 3).map kV))
  refine ⟨_, rfl, _, rfl, by show 3 ≤ sizeLine; decide, fun p2 hp2 => ?_⟩
  have s3 := same_new' hp2 (.lst [.str "way", .str w, .str v])
  have s23 := s2.trans s3
  refine ⟨p, p2, r.cells.take 3, [Sum.inr ("way" : Str), Sum.inr w, Sum.inr v], rfl, rfl, sqL_new (s3 _ _ upd_same), sqL_new upd_same, fun b hb => ⟨_, rfl, ite2 (fun y => ?_) (fun y => ?_)⟩⟩
  ·obtain ⟨l', c', rfl⟩ := way3.mp (hb.mp y)
   refine ⟨_, rfl, lr, _, _, _, rfl, rfl, sqL_new (s23 _ _ hr), (show atI ((BR.way w v l' c').cells.map kV) 3 = some (.int l') from rfl), s23 _ _ hE, _, rfl, ?_, by rw [List.length_append]; exact Nat.succ_le_succ hl, upd_same, fun b o e => ?_⟩
   ·rw [fmap_next (lenOf w v) er, show lenOf w v (.way w v l' c') = some l' from lenOf_some.mpr ⟨c', rfl⟩, List.map_append, ey]
    rfl
   ·rw [upd_ne (ne_of_none e hD)]; exact s23 _ _ (s1 _ _ e)
  ·refine ⟨_, rfl, ?_, by lia, s23 _ _ hE, s1.trans s23⟩
   have hn : lenOf w v r = none := by
    cases e : lenOf w v r with
    | none => rfl
    | some x =>
     obtain ⟨c', e2⟩ := lenOf_some.mp e
     exact absurd (hb.mpr (way3.mpr ⟨x, c', e2⟩)) y
   rw [fmap_next (lenOf w v) er, hn, ey]
   simp
 ·rintro τ ys H1 ⟨v', rfl, ey, hl, hE, s1⟩
  rw [List.take_length] at ey
  have hx : ∀ x ∈ B.filterMap (lenOf w v), x = l := fun x hx => by
   obtain ⟨r, hr, e⟩ := List.mem_filterMap.mp hx
   obtain ⟨c', rfl⟩ := lenOf_some.mp e
   exact (wb.way1 hr hmem).1
  have hne : l ∈ B.filterMap (lenOf w v) := List.mem_filterMap.mpr ⟨_, hmem, lenOf_some.mpr ⟨c, rfl⟩⟩
  obtain ⟨x0, xs0, e0⟩ : ∃ x0 xs0, B.filterMap (lenOf w v) = x0 :: xs0 := by
   cases e : B.filterMap (lenOf w v) with
   | nil => rw [e] at hne; exact nomatch hne
   | cons a b => exact ⟨a, b, rfl⟩
  have ex : x0 = l := hx x0 (by rw [e0]; exact List.mem_cons_self)
  rw [e0, ex] at ey
  refine ⟨D, _, _, _, rfl, rfl, sqL_new hE, ?_, q H1 s1⟩
  rw [ey]
  exact atNat (k := 0) rfl
end
abbrev sMany : Stmt := top 31
def manyOf (k : Fin 3) (w v t : Str) : BR → Option Int
 | .use k' w' v' t' m => if k' = k ∧ w' = w ∧ v' = v ∧ t' = t then some m else none
 | _ => none
def manyB (B : List BR) (k : Fin 3) (w v t : Str) : Int := (B.filterMap (manyOf k w v t)).sum
def cut4 (ks : List Key) : cutV (ks.map kV) none (some 4) = (ks.take 4).map kV := by
 unfold cutV
 rw [HT.sIx_none, List.drop_zero, Nat.sub_zero, List.length_map, show (4 : Int) = ((4 : Nat) : Int) from rfl, HT.sIx_nat, ← List.map_take]
 by_cases h : 4 ≤ ks.length
 ·rw [Nat.min_eq_left h]
 ·rw [Nat.min_eq_right (by lia), List.take_length, List.take_of_length_le (by lia)]
theorem word_use {r : BR} {k : Fin 3} (h : r.word = useW k) : ∃ w v t m, r = .use k w v t m := by
 have hk : r.kind = 6 + k.val := by
  have e : useW k = wordOf (6 + k.val) := by match k with | 0 => rfl | 1 => rfl | 2 => rfl
  exact (word_iff r (by have := k.isLt; lia)).mp (h.trans e)
 cases r with
 | use k' w v t m =>
  have e : 6 + k'.val = 6 + k.val := hk
  have e2 : k' = k := Fin.ext (by lia)
  subst e2
  exact ⟨w, v, t, m, rfl⟩
 | days n => exact absurd (show (0 : Nat) = 6 + k.val from hk) (by lia)
 | bench b r => exact absurd (show (1 : Nat) = 6 + k.val from hk) (by lia)
 | shut b f t => exact absurd (show (2 : Nat) = 6 + k.val from hk) (by lia)
 | store b m f => exact absurd (show (3 : Nat) = 6 + k.val from hk) (by lia)
 | work w => exact absurd (show (4 : Nat) = 6 + k.val from hk) (by lia)
 | way w v l c => exact absurd (show (5 : Nat) = 6 + k.val from hk) (by lia)
 | after w x g => exact absurd (show (9 : Nat) = 6 + k.val from hk) (by have := k.isLt; lia)
 | late w d c => exact absurd (show (10 : Nat) = 6 + k.val from hk) (by have := k.isLt; lia)
theorem use4 {r : BR} {k : Fin 3} {w v t : Str} : r.cells.take 4 = [Sum.inr (useW k), Sum.inr w, Sum.inr v, Sum.inr t] ↔ ∃ m, r = .use k w v t m := by
 constructor
 ·intro h
  have hw : r.word = useW k := by
   have h1 : (r.cells.take 4).head? = some (Sum.inr (useW k)) := by rw [h]; rfl
   have h2 : (r.cells.take 4).head? = some (Sum.inr r.word) := by cases r <;> rfl
   rw [h2] at h1
   exact Sum.inr.inj (Option.some.inj h1)
  obtain ⟨w', v', t', m, rfl⟩ := word_use hw
  have h' : [(Sum.inr (useW k) : Key), Sum.inr w', Sum.inr v', Sum.inr t'] = [Sum.inr (useW k), Sum.inr w, Sum.inr v, Sum.inr t] := h
  injection h' with _ h2
  injection h2 with h3 h4
  injection h4 with h5 h6
  injection h6 with h7
  cases h3
  cases h5
  cases h7
  exact ⟨m, rfl⟩
 ·rintro ⟨m, rfl⟩
  rfl
theorem manyOf_some {k : Fin 3} {w v t : Str} {r : BR} {x : Int} : manyOf k w v t r = some x ↔ r = .use k w v t x := by
 constructor
 ·intro h
  cases r with
  | use k' w' v' t' m =>
   have h' : (if k' = k ∧ w' = w ∧ v' = v ∧ t' = t then some m else none) = some x := h
   by_cases e : k' = k ∧ w' = w ∧ v' = v ∧ t' = t
   ·rw [if_pos e] at h'
    cases h'
    obtain ⟨rfl, rfl, rfl, rfl⟩ := e
    rfl
   ·rw [if_neg e] at h'; cases h'
  | _ => cases h
 ·rintro rfl
  exact if_pos ⟨rfl, rfl, rfl, rfl⟩
inductive IspMany (vs : List V) (H : Hp) (Q : VK) : Prop
 | mk (d : Addr) (k : Fin 3) (w v t : Str) (us : List V) (B : List BR) (h1 : vs = [.ref d, .str (useW k), .str w, .str v, .str t]) (h2 : H d = some (.lst us)) (h3 : RowsB H us B) (h4 : B.length ≤ 1000) (h5 : ∀ (H' : Hp), Same H H' → Q (.int (manyB B k w v t)) H')
def spMany (_ : Fg) : Sp := fun vs H Q _ => IspMany vs H Q
section
variable {P : Program} {w : World} {K : Fg} {mg : Str → Option Value} {base : Heap}
theorem scMany : FnScope ["_law_book_here", "_law_word", "_law_work", "_law_way_here", "_law_thing"] ["_law_book_here", "_law_word", "_law_work", "_law_way_here", "_law_thing"] (defScope sMany) := ⟨rfl, rfl, rfl, by decide +kernel, rfl, by decide +kernel, by decide +kernel⟩
theorem okMany (F : Fn K mg "_law_many" sMany) (M : Mg mg) : Cal P w K mg base 1 "_law_many" ["_law_book_here", "_law_word", "_law_work", "_law_way_here", "_law_thing"] (spMany K) := by
 refine cal_of F scMany (fun _ _ _ _ _ _ => bind5 (fun _ _ _ _ _ => rfl)) (fun vs H Q E h => ?_) (fun f cdv A outer s H vs Q E hr h => ?_)
 ·obtain ⟨d, k, w, v, t, us, B, rfl, _⟩ := h
  rfl
 obtain ⟨d, k, w, v, t, us, B, rfl, hd, hB, bl, q⟩ := h
 have hu6 : (A.deeper (PyProof.Rows.envOfC "_law_many" (defScope sMany) s.heap.objs.size f cdv)).units + 6 < cLine := Nat.lt_of_le_of_lt (Nat.add_le_add_left (by decide) _) hr.un
 refine ⟨_, (pss_one (ps_ret (pe_callB (call_sumI rfl) rfl M.sum bt_sum (pa_cons (pe_lc ["_law_row", "_law_word", "_law_work", "_law_way_here", "_law_thing"] [none, some 1, some 2, some 3, some 4] rfl (pi_list (pv 0)) (fun _ _ _ => (pg_name (i := 0) (show (["_law_row", "_law_word", "_law_work", "_law_way_here", "_law_thing"] : List Str).Nodup by decide +kernel) rfl (Or.inl rfl) (Or.inr rfl))) (fun _ _ _ => (pf_one (pt_cmpR (op_eqK (K := K) (n := 6) rfl hu6) (pe_slice (sl_listK (K := K) rfl) (pv 0) po_none (po_some pe_int)) (pe_lst (pa_cons (pv 1) (pa_cons (pv 2) (pa_cons (pv 3) (pa_cons (pv 4) pa_nil))))) (nomark _)))) (fun _ _ _ => (pe_ix (ix_listK (K := K) rfl) (pv 0) pe_int (fun _ _ => rfl)))) pa_nil)))), ?_⟩
 have hz : (20000 : Nat) < sizeLine := by decide
 have lu := hB.length
 refine ⟨_, rfl, d, rfl, ⟨_, sqL_new hd⟩, fun D hD => ?_⟩
 let Pv14 : Nat → St → List V → Hp → Prop := fun m τ ys H1 => ∃ v' : Option V, τ = [v', some (.str (useW k)), some (.str w), some (.str v), some (.str t)] ∧ ys = ((B.take m).filterMap (manyOf k w v t)).map V.int ∧ ys.length ≤ m ∧ H1 D = some (.lst ys) ∧ Same H H1
 refine lc_any (n := B.length) Pv14 ?_ (fun m τ ys H1 hm h => ?_) (fun m τ ys H1 hm h => ?_) (fun τ ys H1 h => ?_) ?_ ?_
 ·exact ⟨none, rfl, rfl, Nat.le_refl _, upd_same, same_new' hD _⟩
 ·obtain ⟨v', rfl, ey, hl, hE, s1⟩ := h
  exact ⟨hE, by lia⟩
 ·obtain ⟨v', rfl, ey, hl, hE, s1⟩ := h
  exact ⟨us, us[m]'(by lia), s1.seq (sqL_new hd), gE (by lia)⟩
 ·obtain ⟨v', rfl, ey, hl, hE, s1⟩ := h
  exact ⟨us, s1.seq (sqL_new hd), by lia⟩
 ·rintro m τ ys H1 x H2 hm ⟨v', rfl, ey, hl, hE, s1⟩ ⟨rfl, e1⟩
  obtain ⟨r, lr, er, rfl, hr⟩ := (hB.same s1).get (e1 _ (s1.seq (sqL_new hd)))
  refine ⟨_, rfl, _, rfl, lr, _, rfl, sqL_new hr, fun p hp => ?_⟩
  rw [cut4]
  have s2 := same_new' hp (.lst ((r.cells.take 4).map kV))
  refine ⟨_, rfl, _, rfl, _, rfl, _, rfl, by show 4 ≤ sizeLine; decide, fun p2 hp2 => ?_⟩
  have s3 := same_new' hp2 (.lst [.str (useW k), .str w, .str v, .str t])
  have s23 := s2.trans s3
  refine ⟨p, p2, r.cells.take 4, [Sum.inr (useW k), Sum.inr w, Sum.inr v, Sum.inr t], rfl, rfl, sqL_new (s3 _ _ upd_same), sqL_new upd_same, fun b hb => ⟨_, rfl, ite2 (fun y => ?_) (fun y => ?_)⟩⟩
  ·obtain ⟨m', rfl⟩ := use4.mp (hb.mp y)
   refine ⟨_, rfl, lr, _, _, _, rfl, rfl, sqL_new (s23 _ _ hr), (show atI ((BR.use k w v t m').cells.map kV) 4 = some (.int m') from rfl), s23 _ _ hE, _, rfl, ?_, by rw [List.length_append]; exact Nat.succ_le_succ hl, upd_same, fun b o e => ?_⟩
   ·rw [fmap_next (manyOf k w v t) er, show manyOf k w v t (.use k w v t m') = some m' from manyOf_some.mpr rfl, List.map_append, ey]
    rfl
   ·rw [upd_ne (ne_of_none e hD)]; exact s23 _ _ (s1 _ _ e)
  ·refine ⟨_, rfl, ?_, by lia, s23 _ _ hE, s1.trans s23⟩
   have hn : manyOf k w v t r = none := by
    cases e : manyOf k w v t r with
    | none => rfl
    | some x => exact absurd (hb.mpr (use4.mpr ⟨x, manyOf_some.mp e⟩)) y
   rw [fmap_next (manyOf k w v t) er, hn, ey]
   simp
 ·rintro τ ys H1 ⟨v', rfl, ey, hl, hE, s1⟩
  rw [List.take_length] at ey
  subst ey
  exact ⟨D, _, rfl, sqL_new hE, q H1 s1⟩
end
end Nb
namespace L2
open PySem PySem.Spec PyProof.Rows
theorem sub_ri_reversed : isSubtype (.type "range_iterator") (.type "reversed") = pure false := by rw [isSubtype_type]; kernel_rfl
def rrObj (n : Int) : Obj := { cls := .type "range_iterator", data := .fields #[rawInt (0 + (n - 1) * 1), rawInt n, rawInt (-1)] }
section
variable {prog : Program} {w : World} {A : Around} {E : Value → Shared → Prop} {s : Shared}
theorem rr_size {n : Int} (h0 : 0 ≤ n) : Builtin.Range.rangeSize 0 n 1 = n := by
 rw [rangeSize_one]
 split <;> lia
theorem call_range_reversed {r : Addr} {n : Int} {t u v : Tok} {Q : Value → Shared → Prop} (hr : s.heap.get? r = some { cls := .type "range", data := .fields #[.int 0 t, .int n u, .int 1 v] }) (h0 : 0 ≤ n) (h1 : n < 1000000)
  (h : Q (.ref s.heap.objs.size) { s with heap := s.heap.push (rrObj n) }) : wpAny (model prog w) A (call (.builtin "range.__reversed__") [.ref r]) Q E s := by
 refine wpAny_call_entry F.slot_range_reversed ⟨_, hr, rfl⟩ F.entry_range_reversed ?_ (F.args_range_reversed_1 _)
 unfold Builtin.«range.__reversed__»
 refine wpAny_bind (wpAny_of_eq (a := Value.ref r) rfl ?_)
 refine wpAny_bind ?_
 unfold Builtin.Range.rangeFields
 refine wpAny_bind (wpAny_field hr rfl (x := .int 0 t) rfl ?_)
 refine wpAny_bind (wpAny_of_eq (a := some 0) rfl ?_)
 refine wpAny_bind (wpAny_field hr rfl (x := .int n u) rfl ?_)
 refine wpAny_bind (wpAny_of_eq (a := some n) rfl ?_)
 refine wpAny_bind (wpAny_field hr rfl (x := .int 1 v) rfl ?_)
 refine wpAny_bind (wpAny_of_eq (a := some 1) rfl ?_)
 refine wpAny_pure ?_
 have hs : (Builtin.Range.rangeFitsLong 0 && Builtin.Range.rangeFitsLong n && Builtin.Range.rangeFitsLong 1 && Builtin.Range.rangeFitsLong (-1) && Builtin.Range.rangeFitsLong (0 - 1) && Builtin.Range.rangeFitsLong (Builtin.Range.rangeSize 0 n 1)) = true := by
  rw [rr_size h0]
  simp only [Builtin.Range.rangeFitsLong, Bool.and_eq_true, decide_eq_true_eq]
  lia
 dsimp only
 rw [hs, rr_size h0]
 rw [if_neg (by decide), if_pos rfl]
 unfold newFields
 exact wpAny_bind (wpAny_newObj_type (wpAny_pure ⟨_, rfl, h⟩))
theorem code_reversed_range {r : Addr} {n : Int} {t u v : Tok} {Q₁ : Value → Shared → Prop} (hr : s.heap.get? r = some { cls := .type "range", data := .fields #[.int 0 t, .int n u, .int 1 v] }) (h0 : 0 ≤ n) (h1 : n < 1000000)
  (h : Q₁ (.ref s.heap.objs.size) { s with heap := s.heap.push (rrObj n) }) :
  codeAny (model prog w) A (.call (.builtin "reversed.__new__") ⟨[.type "reversed", .ref r], []⟩) (wants Q₁ E) s := by
 refine codeAny_of_tree ?_
 show wpAny _ A.in1 (do checkBuiltinCall "reversed.__new__" ⟨[.type "reversed", .ref r], []⟩; again (.builtin "reversed.__new__" ⟨[.type "reversed", .ref r], []⟩)) _ _ s
 refine wpAny_bind (wpAny_of_eq (F.newCall_reversed_1 _) (wpAny_pure ⟨plainId_quiet F.plain_reversed_new _, codeAny_builtin F.entry_reversed_new ?_⟩))
 rw [Around.under_plainId F.plain_reversed_new _]
 unfold Builtin.«reversed.__new__»
 refine wpAny_bind (wpAny_of_eq (newClass_reversed _) ?_)
 try dsimp only
 refine wpAny_bind (wpAny_of_eq (a := ()) (by first | rfl | kernel_rfl) ?_)
 refine wpAny_bind (wpAny_of_eq (a := ()) (by first | rfl | kernel_rfl) ?_)
 try dsimp only
 refine wpAny_bind (wpAny_specialOf (T := "range") ⟨_, hr, rfl⟩ F.slot_range_reversed.lookup ?_)
 try dsimp only
 refine wpAny_bind (wpAny_of_eq (F.slot_range_reversed.bind _) ?_)
 try dsimp only
 first
 | rw [if_neg (show ¬ ((Value.builtin "range.__reversed__" == Value.none) = true) from Bool.false_ne_true)]
 | (show wpAny _ _ (if (Value.builtin "range.__reversed__" == Value.none) = true then _ else _) _ _ _; rw [if_neg (show ¬ ((Value.builtin "range.__reversed__" == Value.none) = true) from Bool.false_ne_true)])
 refine wpAny_bind (wpAny_rule ?_)
 refine wpAny_bind (m := runValue (.call (.builtin "range.__reversed__") ⟨[.ref r], []⟩)) (show wpAny _ _ (call (.builtin "range.__reversed__") [.ref r]) _ _ _ from call_range_reversed hr h0 h1 ?_)
 first
 | exact wpAny_pure h
 | exact wpAny_bind (wpAny_pure (wpAny_pure h))
theorem call_reversed_range {r : Addr} {n : Int} {t u v : Tok} {Q : Value → Shared → Prop} (hr : s.heap.get? r = some { cls := .type "range", data := .fields #[.int 0 t, .int n u, .int 1 v] }) (h0 : 0 ≤ n) (h1 : n < 1000000)
  (h : Q (.ref s.heap.objs.size) { s with heap := s.heap.push (rrObj n) }) : wpAny (model prog w) A (call (.type "reversed") [.ref r]) Q E s := by
 refine callType_other (U := "range_iterator") (Q₁ := fun obj s₁ => obj = .ref s.heap.objs.size ∧ s₁ = { s with heap := s.heap.push (rrObj n) }) (by decide +kernel) F.create_reversed ⟨_, _, F.mro_reversed⟩ F.made_reversed sub_ri_reversed (F.typeCall_reversed_1 _) (code_reversed_range hr h0 h1 ⟨rfl, rfl⟩) ?_
 rintro obj s₁ ⟨rfl, rfl⟩
 exact ⟨⟨_, Heap.get?_push_size _ rfl, rfl⟩, h⟩
end
section
variable {X : Cx} {tg : Expr}
inductive IiRevR (R : (It → Hp → Prop)) (vs : List V) (H1 : Hp) : Prop
 | mk (p : Addr) (n : Nat) (h1 : vs = [.ref p]) (h2 : H1 p = some (.rng 0 ((n : Nat) : Int))) (h3 : n < 1000000) (h4 : R (Itr3 (((n : Nat) : Int) - 1) (-1) n) H1)
def iRevR (ta : TA) : TI := fun σ H R => ta σ H fun vs H1 => IiRevR R vs H1
theorem pi_revr {a : Expr} {ta : TA} {p pos : Pos} (hg : Gl X "reversed") (hm : X.mg "reversed" = none) (ha : PA X [a] ta) (hs : autoParam (starEach [a] X.env = [(false, eval a X.env)]) L2.aRfl._auto_1) :
  PI X tg (.Call (.Name "reversed" p) [a] [] pos) (iRevR ta) := by
 intro pins s σ H R I h
 refine Call_ (ld_blt I hg hm bt_reversed (PyProof.Rows.callWith_type1 (thn (ha pos pins s σ H _ I h) fun us s1 hqP => ?_) hs rfl))
 obtain ⟨vs, H1, I1, r1, q1⟩ := hqP
 obtain ⟨l, n, e, hl, hn, q⟩ := q1
 subst e
 obtain ⟨u, rfl, ru⟩ := r1.one
 cases ru
 obtain ⟨t, u, v, hr⟩ := (show ObjOk X.prog X.w H1 s1.heap l (.rng 0 ((n : Nat) : Int)) from I1.hok l _ hl)
 refine call_reversed_range hr (by lia) (by lia) ?_
 have g : (s1.heap.push (rrObj ((n : Nat) : Int))).get? s1.heap.objs.size = some (rrObj ((n : Nat) : Int)) := Heap.get?_push_size _ rfl
 have st : IsRangeIter (s1.heap.push (rrObj ((n : Nat) : Int))) s1.heap.objs.size ((((n : Nat) : Int) - 1) + ((0 : Nat) : Int) * (-1)) (((n : Nat) : Int) - ((0 : Nat) : Int)) (-1) := by
  have e1 : (((n : Nat) : Int) - 1) + ((0 : Nat) : Int) * (-1) = 0 + (((n : Nat) : Int) - 1) * 1 := by lia
  have e2 : ((n : Nat) : Int) - ((0 : Nat) : Int) = ((n : Nat) : Int) := by lia
  rw [e1, e2]
  exact g
 refine wpAny_pyIter_rangeiter (s := { s1 with heap := s1.heap.push (rrObj ((n : Nat) : Int)) }) st ?_
 have I2 : Inv X pins σ H1 { s1 with heap := s1.heap.push (rrObj ((n : Nat) : Int)) } := I1.kept (t' := s1.toks) fun b o e => Heap.get?_push_of_some _ e
 refine ⟨s1.heap.objs.size, [s1.heap.objs.size], _, _, H1, rfl, I2, turn_range3 _ (((n : Nat) : Int) - 1) (-1) n, st, fun b hb => ?_, q⟩
 have e : b = s1.heap.objs.size := by simpa using hb
 subst e
 exact I1.fpOk (Nat.le_refl _) (I1.hok.fresh (Nat.le_refl _))
end
theorem is_kV {P : Program} {w : World} {k : Key} {u : Value} (h : (mixKind P w).is k u = true) : RelV (kV k) u := by
 rw [mixKind_is] at h
 rcases keyIs_shape h with ⟨i, t, rfl, rfl⟩ | ⟨x, t, rfl, rfl⟩
 ·exact ⟨t, rfl⟩
 ·exact ⟨t, rfl⟩
section
variable {X : Cx} {pins : List (Addr × Obj)} {σ : St} {H : Hp} {s : Shared} {d : Addr} {kvs : List (Key × V)} {o : Obj}
def NF (X : Cx) (d : Addr) : Prop := ∀ o u, X.H₀ d ≠ some (.frz o u)
theorem Inv.nf (I : Inv X pins σ H s) (e : H d = some (.dK kvs)) : NF X d := fun o u z => by
 have := I.base.frzs d o u z
 rw [e] at this
 cases this
theorem Inv.freeze (I : Inv X pins σ H s) (e : H d = some (.dK kvs)) : ∃ o, s.heap.get? d = some o ∧ Inv X pins σ (upd H d (.frz o (.dK kvs))) s := by
 obtain ⟨z, hd, vs, rel, dd⟩ := dk_of I.hok e
 obtain ⟨o, es, ep, h1, h2⟩ := id dd
 exact ⟨o, h1, d_write (t' := s.toks) I (by rw [e]; exact True.intro) (Heap.SameBut.refl _ _) ⟨o, h1⟩ ⟨h1, z, hd, vs, rel, dd⟩⟩
theorem Inv.thaw (I : Inv X pins σ H s) (nf : NF X d) (e : H d = some (.frz o (.dK kvs))) : Inv X pins σ (upd H d (.dK kvs)) s := by
 have ne : ∀ b, H b = none → b ≠ d := fun b n z => by rw [z, e] at n; cases n
 have ok : ObjOk X.prog X.w H s.heap d (.frz o (.dK kvs)) := I.hok d _ e
 obtain ⟨_, z, hd, vs, rel, dd⟩ := ok
 refine ⟨I.ok, I.os, I.bare, ⟨I.base.keep, I.base.slot, fun b q e1 n hx => ?_, I.base.there, fun b xs q => ?_, fun b o' u q => ?_, fun b ps q => ?_⟩, I.loc, I.cell, ?_, fun x c q => ?_, fun p hp => ?_, fun b u q => ?_, I.len⟩
 ·have n1 := I.base.free b q e1 n hx
  rw [upd_ne (ne b n1)]; exact n1
 ·have q1 := I.base.tups b xs q
  rw [upd_ne (ne_of q1 e (by intro z; cases z))]; exact q1
 ·have q1 := I.base.frzs b o' u q
  rw [upd_ne (fun z => by subst z; exact nf _ _ q)]; exact q1
 ·obtain ⟨m, q1⟩ := I.base.tbls b ps q
  exact ⟨m, by rw [upd_ne (ne_of q1 e (by intro z; cases z))]; exact q1⟩
 ·rw [upd_ne (ne _ I.free)]; exact I.free
 ·have n1 := I.freeC x c q
  rw [upd_ne (ne _ n1)]; exact n1
 ·obtain ⟨a1, a2, a3⟩ := I.pin p hp
  exact ⟨a1, by rw [upd_ne (ne _ a2)]; exact a2, a3⟩
 ·by_cases hb : b = d
  ·subst hb
   rw [upd_same] at q
   cases q
   exact ⟨z, hd, vs, rel, dd⟩
  ·rw [upd_ne hb] at q
   exact (I.hok b u q).stay (fun _ _ _ r => r) (fun c r => by rw [upd_ne (ne_of r e (by intro z; cases z))]; exact r) fun c xs r => by rw [upd_ne (ne_of r e (by intro z; cases z))]; exact r
end
def Itd (d : Addr) (o : Obj) (kvs : List (Key × V)) : It :=
  ⟨fun i H => H d = some (.frz o (.dK kvs)) ∧ i < kvs.length,
   fun i H v H' => ∃ T k x, v = .ref T ∧ H T = none ∧ H' = upd H T (.tup [kV k, x]) ∧ kvs[i]? = some (k, x),
   fun i H => H d = some (.frz o (.dK kvs)) ∧ kvs.length ≤ i⟩
def dTn (it d : Addr) (o : Obj) (n i : Nat) (h : Heap) : Prop := ∃ es ep ok ov, o.data = .dict es ep ∧ IsItemIter h it d i n ep ok ov
theorem frz_at {P : Program} {w : World} {H : Hp} {h : Heap} {d : Addr} {o : Obj} {kvs : List (Key × V)} {es : Array DictEntry} {ep : Nat} (ok : HOk P w H h) (e : H d = some (.frz o (.dK kvs))) (hd : o.data = .dict es ep) : ∃ vs, KV kvs vs ∧ h.DictAt (mixKind P w) d vs ep := by
 obtain ⟨h0, z, hn, vs, rel, ob, es', ep', h1, h2, h3, h4⟩ := (show ObjOk P w H h d (.frz o (.dK kvs)) from ok d _ e)
 rw [h0] at h1
 cases h1
 rw [hd] at h3
 cases h3
 exact ⟨vs, rel, o, es, h0, h2, hd, h4⟩
theorem turn_items {P : Program} {w : World} {K : Fg} {es : List Expr} {kk : Nat} {tp : Pos} {it d : Addr} {o : Obj} {kvs : List (Key × V)} :
  Turn P w K (.Tuple es kk tp) (Itd d o kvs) [it] it (dTn it d o kvs.length) where
 mem := by simp
 obj := fun i h st c hc => by
  obtain ⟨_, _, ok, ov, _, h1⟩ := st
  simp only [List.mem_cons, List.mem_nil_iff, or_false] at hc
  subst hc
  exact ⟨_, h1, fun v z => by cases z⟩
 keep := fun i h h' st k => by
  obtain ⟨e1, e2, ok, ov, e3, h1⟩ := st
  exact ⟨e1, e2, ok, ov, e3, k it (by simp) _ h1⟩
 item := by
  intro X hP hw hK hc i pins s σ H E I hf st hg
  subst hP hw hK
  obtain ⟨q1, hi⟩ := hg
  obtain ⟨e1, ep, ok, ov, e3, h1⟩ := st
  obtain ⟨vs, rel, da⟩ := frz_at I.hok q1 e3
  have lr := rel.length
  obtain ⟨kx, ek⟩ : ∃ kx, kvs[i]? = some kx := ⟨_, gE hi⟩
  obtain ⟨k, x⟩ := kx
  obtain ⟨⟨k', v⟩, ev, e4, rv⟩ := paired_get rel ek
  have e4' : k = k' := e4
  subst e4'
  rw [lr] at h1
  refine wpAny_pyNext_items_item h1 da ev fun key h' hk a1 a2 a3 a4 => ⟨_, rfl, ?_⟩
  obtain ⟨f0, f1, f2, f3, f4, f5⟩ := hf it (by simp)
  have lte : it < s.heap.objs.size := Heap.lt_size h1
  have I1 : Inv X pins σ (upd H s.heap.objs.size (.tup [kV k, x])) { s with heap := h' } := I.tupNew (ch := [it]) (its := [key, v]) (Nat.le_refl _) (.cons (is_kV hk) (.cons rv .nil)) (by show 2 ≤ sizeLine; decide) a2 hf (fun c q hc e => a4 c q (by simpa using hc) e) (fun c hc => by
   simp only [List.mem_cons, List.mem_nil_iff, or_false] at hc
   subst hc
   exact ⟨_, a1⟩)
  refine wpAny_letOwnedTupleGo_items (s := { s with heap := h' }) a1 fun h2 g1 g2 => ?_
  have I2 : Inv X pins σ (upd H s.heap.objs.size (.tup [kV k, x])) { s with heap := h2 } := I1.turned (h' := h2) (t' := s.toks) (fun c q hc z => g2.extBut c q hc z) (by rw [upd_ne (Nat.ne_of_lt lte)]; exact f0) f1 f3 f4 f5
  refine ⟨.ref s.heap.objs.size, _, I2, rfl, ⟨_, k, x, rfl, I.hok.fresh (Nat.le_refl _), rfl, ek⟩, ⟨e1, ep, _, _, e3, by rw [lr]; exact g1⟩, fun c hc => ?_⟩
  simp only [List.mem_cons, List.mem_nil_iff, or_false] at hc
  subst hc
  rw [upd_ne (Nat.ne_of_lt lte)]
  exact f0
 done := by
  intro X hP hw hK hc i pins s σ H E I hf st hg
  subst hP hw hK
  obtain ⟨q1, hi⟩ := hg
  obtain ⟨e1, ep, ok, ov, e3, h1⟩ := st
  obtain ⟨vs, rel, da⟩ := frz_at I.hok q1 e3
  have lr := rel.length
  rw [lr] at h1
  obtain ⟨f0, f1, f2, f3, f4, f5⟩ := hf it (by simp)
  exact wpAny_pyNext_items_end (I.ok.hd hc) h1 da (List.getElem?_eq_none_iff.mpr (by lia)) fun h' eb => ⟨rfl, I.turned (t' := s.toks) (fun b o hb z => eb b o hb z) f0 f1 f3 f4 f5⟩
 self := fun _ _ _ _ _ st h => by
  obtain ⟨_, _, _, _, _, h1⟩ := st
  exact PySem.W.kcp_self h1 h
section
variable {X : Cx}
inductive IiItems (F : Addr → Prop) (R : (It → Hp → Prop)) (v : V) (H1 : Hp) : Prop
 | mk (d : _) (kvs : _) (h1 : v = .ref d) (h2 : H1 d = some (.dK kvs)) (h3 : (F d → ∀ o, R (Itd d o kvs) (upd H1 d (.frz o (.dK kvs)))))
def iItems (F : Addr → Prop) (td : TE) : TI := fun σ H R => td σ H fun v H1 => IiItems F R v H1
theorem pi_items {a : Expr} {td : TE} {apos cpos tp : Pos} {es : List Expr} {kk : Nat} (ha : PE X a td) (hbase : autoParam (attributeBase a "items" X.env (eval a X.env) = eval a X.env) L2.aRfl._auto_1) (hline : autoParam ((apos.endLine == cpos.line) = true) L2.aRfl._auto_1) :
  PI X (.Tuple es kk tp) (.Call (.Attribute a "items" apos) [] [] cpos) (iItems (NF X) td) := by
 intro pins s σ H R I h
 refine wpAny_Call_method0_late hbase hline (thn (ha pins s σ H _ I h) fun v s1 hqP => ?_)
 obtain ⟨x, H1, I1, r1, q1⟩ := hqP
 obtain ⟨d, kvs, e, hd, q⟩ := q1
 subst e
 obtain rfl : v = Value.ref d := r1
 obtain ⟨t1, t2, t3⟩ := isD_at I1 (.inl ⟨kvs, .inl hd⟩)
 refine ⟨"dict", "dict.items", PySem.F.plainAttrs_dict, PySem.F.slot_dict_items, PySem.F.type_dict_items, t1, t2, Calls.callWith_builtin rfl (PySem.evalArgs_none ?_)⟩
 have nf := I1.nf hd
 obtain ⟨o, ho, I2⟩ := I1.freeze hd
 obtain ⟨z, hd', vs, rel, dd⟩ := dk_of I1.hok hd
 obtain ⟨o', es', ep, h1, h2, h3, h4⟩ := id dd
 rw [ho] at h1
 cases h1
 refine call_meetsIn PySem.F.slot_dict_items t1 PySem.F.entry_dict_items (PySem.F.args_dict_items_1 _) (meets_dict_items (mixKind X.prog X.w) d t3) ⟨⟨vs, dd⟩, ?_⟩
 have z1 : (s1.heap.push { cls := .type "dict_items", data := .fields #[.ref d] }).objs.size = s1.heap.objs.size + 1 := Heap.size_push ..
 have g1 : (s1.heap.push { cls := .type "dict_items", data := .fields #[.ref d] }).get? s1.heap.objs.size = some { cls := .type "dict_items", data := .fields #[.ref d] } := Heap.get?_push_size _ rfl
 have kp : ∀ b o, s1.heap.get? b = some o → (s1.heap.push { cls := .type "dict_items", data := .fields #[.ref d] }).get? b = some o := fun b o z => Heap.get?_push_of_some _ z
 generalize s1.heap.push { cls := .type "dict_items", data := .fields #[.ref d] } = h' at z1 g1 kp
 have I3 : Inv X pins σ (upd H1 d (.frz o (.dK kvs))) { s1 with heap := h' } := I2.kept (t' := s1.toks) kp
 obtain ⟨vs', rel', da⟩ := frz_at I3.hok upd_same h3
 have lr := rel'.length
 refine wpAny_pyIter_items (s := { s1 with heap := h' }) ⟨_, g1, rfl, rfl⟩ da ?_
 have I4 : Inv X pins σ (upd H1 d (.frz o (.dK kvs))) { s1 with heap := h'.push { cls := .type "dict_itemiterator", data := .fields #[.none, .bool false, .ref d, .int 0 0, .int vs'.length 0, .int ep 0, .none, .none] } } := I3.kept (t' := s1.toks) fun b o z => Heap.get?_push_of_some _ z
 refine ⟨h'.objs.size, [h'.objs.size], _, Itd d o kvs, _, rfl, I4, turn_items, ⟨es', ep, .none, .none, h3, ?_⟩, fun c hc => ?_, q nf o⟩
 ·rw [lr]
  exact Heap.get?_push_size _ rfl
 ·simp only [List.mem_cons, List.mem_nil_iff, or_false] at hc
  subst hc
  exact I3.fpOk (Nat.le_refl _) (I3.hok.fresh (Nat.le_refl _))
def Thw (F : Addr → Prop) (D : Ends) : Ends where
 nx := fun σ H => ∃ d o kvs, F d ∧ H d = some (.frz o (.dK kvs)) ∧ D.nx σ (upd H d (.dK kvs))
 rt := fun v H => ∃ d o kvs, F d ∧ H d = some (.frz o (.dK kvs)) ∧ D.rt v (upd H d (.dK kvs))
 bk := fun σ H => ∃ d o kvs, F d ∧ H d = some (.frz o (.dK kvs)) ∧ D.bk σ (upd H d (.dK kvs))
 ct := fun σ H => ∃ d o kvs, F d ∧ H d = some (.frz o (.dK kvs)) ∧ D.ct σ (upd H d (.dK kvs))
def tThw (F : Addr → Prop) (t : TS) : TS := fun D σ H => t (Thw F D) σ H
theorem ps_thaw {st : Stmt} {t : TS} (h : PS X st t) : PS X st (tThw (NF X) t) := by
 intro pins s σ H D I q
 refine thn (h pins s σ H _ I q) fun f s' p => ?_
 cases f with
 | next => obtain ⟨σ', H', I', d, o, kvs, nf, e, r⟩ := p; exact ⟨σ', _, I'.thaw nf e, r⟩
 | brk => obtain ⟨σ', H', I', d, o, kvs, nf, e, r⟩ := p; exact ⟨σ', _, I'.thaw nf e, r⟩
 | cont => obtain ⟨σ', H', I', d, o, kvs, nf, e, r⟩ := p; exact ⟨σ', _, I'.thaw nf e, r⟩
 | ret u => obtain ⟨v, σ', H', I', rv, d, o, kvs, nf, e, r⟩ := p; exact ⟨v, σ', _, I'.thaw nf e, rv, r⟩
end
theorem for_items {d : Addr} {o : Obj} {kvs : List (Key × V)} {g : TG} {tb : TS} {D : Ends} {σ : St} {H : Hp} (Pv : Nat → St → Hp → Prop) (h0 : Pv 0 σ H) (hl : ∀ i σ H, i ≤ kvs.length → Pv i σ H → H d = some (.frz o (.dK kvs)))
  (hs : ∀ i k x σ H T, kvs[i]? = some (k, x) → Pv i σ H → H T = none → g (.ref T) σ (upd H T (.tup [kV k, x])) fun σ2 H2 => tb { D with nx := Pv (i + 1), ct := Pv (i + 1), bk := D.nx } σ2 H2) (hd : ∀ σ H, Pv kvs.length σ H → D.nx σ H) :
  ∃ W : Nat → Nat → St → Hp → Prop, (∃ m, W 0 m σ H) ∧ ∀ i n σ H, W i n σ H →
   ((Itd d o kvs).stop i H ∧ D.nx σ H) ∨ ((Itd d o kvs).go i H ∧ ∃ N : St → Hp → Prop, (∀ σ' H', N σ' H' → ∃ m', m' < n ∧ W (i + 1) m' σ' H') ∧ ∀ x H', (Itd d o kvs).yld i H x H' → g x σ H' fun σ2 H2 => tb { D with nx := N, ct := N, bk := D.nx } σ2 H2) := by
 refine ⟨fun i n σ H => n = kvs.length - i ∧ i ≤ kvs.length ∧ Pv i σ H, ⟨_, rfl, Nat.zero_le _, h0⟩, ?_⟩
 rintro i n σ H ⟨rfl, hi, p⟩
 have q1 := hl i σ H hi p
 by_cases hlt : i < kvs.length
 ·refine .inr ⟨⟨q1, hlt⟩, Pv (i + 1), fun σ' H' p' => ⟨kvs.length - (i + 1), by lia, rfl, hlt, p'⟩, fun x H' y => ?_⟩
  obtain ⟨T, k, u, rfl, hT, rfl, y1⟩ := y
  exact hs i k u σ H T y1 p hT
 ·have e : i = kvs.length := by lia
  subst e
  exact .inl ⟨⟨q1, Nat.le_refl _⟩, hd σ H p⟩
end L2
namespace Nb
open PySem L2
abbrev sPlan : Stmt := top 29
def workOf : BR → Option Str
 | .work w => some w
 | _ => none
def wks (B : List BR) : List Str := B.filterMap workOf
theorem workOf_no {r : BR} (h : r.word ≠ "work") : workOf r = none := by
 cases r with
 | work w => exact absurd rfl h
 | _ => rfl
theorem wks_mem {B : List BR} {w : Str} : w ∈ wks B ↔ BR.work w ∈ B := by
 unfold wks
 rw [List.mem_filterMap]
 constructor
 ·rintro ⟨r, hr, e⟩
  cases r with
  | work w' => cases e; exact hr
  | _ => cases e
 ·exact fun h => ⟨_, h, rfl⟩
theorem wks_nd {n : Int} {B : List BR} (h : WB n B) : (wks B).Nodup := by
 unfold wks List.Nodup
 rw [List.pairwise_filterMap]
 refine h.nd.imp fun {r q} ha w hw w' hw' e => ?_
 cases r with
 | work x =>
  cases hw
  cases q with
  | work y =>
   cases hw'
   subst e
   rcases ha with z | z | z
   ·exact absurd z (by show ¬ (("work" : Str) = "shut"); decide +kernel)
   ·exact absurd z (by show ¬ (("work" : Str) = "shut"); decide +kernel)
   ·exact z rfl
  | _ => cases hw'
 | _ => cases hw
theorem PlanAt.same {K : Fg} {H H' : Hp} {d : Addr} {pl : List (Str × Str × Int)} (h : PlanAt K H d pl) (s : Same H H') : PlanAt K H' d pl := by
 obtain ⟨kvs, h1, h2⟩ := h
 exact ⟨kvs, s _ _ h1, Paired.mapP h2 fun _ _ ⟨e, t, e2, z⟩ => ⟨e, t, e2, s.tup z⟩⟩
theorem sqT_updD {K : Fg} {H : Hp} {P t : Addr} {kvs kvs' : List (Key × V)} {xs : List V} (hP : H P = some (.dK kvs)) (h : SqT K H t xs) : SqT K (upd H P (.dK kvs')) t xs := by
 rcases h with (h | ⟨p, h⟩) | h
 ·exact .inl (.inl (by rw [upd_ne (ne_of h hP (by intro z; cases z))]; exact h))
 ·exact .inl (.inr ⟨p, by rw [upd_ne (ne_of h hP (by intro z; cases z))]; exact h⟩)
 ·exact .inr h
def hasW (B : List BR) (w : Str) : Bool := !(B.filter (isWay w)).isEmpty
theorem hasW_of {B : List BR} {w : Str} {yw : List V} (l : yw.length = (B.filter (isWay w)).length) : hasW B w = !yw.isEmpty := by
 unfold hasW
 generalize B.filter (isWay w) = L at l ⊢
 cases yw with
 | nil => cases L with
  | nil => rfl
  | cons a b => exact nomatch l
 | cons c d => cases L with
  | nil => exact nomatch l
  | cons a b => rfl
structure PlanFor (n : Int) (B : List BR) (pl : List (Str × Str × Int)) : Prop where
 keys : pl.map (·.1) = ((wks B).filter (hasW B)).reverse
 good : ∀ p ∈ pl, ∃ l c, BR.way p.1 p.2.1 l c ∈ B ∧ 0 ≤ p.2.2 ∧ p.2.2 + l ≤ n
theorem plan_keys {K : Fg} {H : Hp} {kvs : List (Key × V)} {pl : List (Str × Str × Int)} (h : Paired (fun (p : Key × V) (q : Str × Str × Int) => p.1 = Sum.inr q.1 ∧ ∃ t, p.2 = .ref t ∧ SqT K H t [.str q.2.1, .int q.2.2]) kvs pl) : kvs.map (·.1) = (pl.map (·.1)).map Sum.inr := by
 induction h with
 | nil => rfl
 | cons z _ ih => rw [List.map_cons, List.map_cons, List.map_cons, ih, z.1]
theorem val_none {κ : Type} [DecidableEq κ] {kvs : List (κ × V)} {k : κ} (h : k ∉ kvs.map (·.1)) : valV kvs k = none := by
 cases e : valV kvs k with
 | none => rfl
 | some v => exact absurd (valV_in e) h
inductive IspPlan (K : Fg) (vs : List V) (H : Hp) (Q : VK) : Prop
 | mk (a d : Addr) (ns : List Int) (st n : Int) (us : List V) (B : List BR) (h1 : vs = [.ref a, .int st, .ref d]) (h2 : SqL K H a (ns.map V.int)) (h3 : 0 ≤ st) (h4 : st ≤ 1000) (h5 : H d = some (.lst us)) (h6 : RowsB H us B) (h7 : BookOk n B) (h8 : ∀ (P : Addr) (pl : List (Str × Str × Int)) (H' : Hp), Same H H' → H P = none → PlanAt K H' P pl → PlanFor n B pl → Q (.ref P) H')
def spPlan (K : Fg) : Sp := fun vs H Q _ => IspPlan K vs H Q
section
variable {P : Program} {w : World} {K : Fg} {mg : Str → Option Value} {base : Heap}
theorem scPlan : FnScope ["_law_script", "_law_start", "_law_book_here", "_law_found", "_law_works_here", "_law_k", "_law_ways_here", "_law_number", "_law_way_here"] ["_law_script", "_law_start", "_law_book_here"] (defScope sPlan) := ⟨rfl, rfl, rfl, by decide +kernel, rfl, by decide +kernel, by decide +kernel⟩
theorem okPlan (F : Fn K mg "_law_plan" sPlan) (M : Mg mg) (cl_mixed : Cal P w K mg base 2 "_law_mixed" ["_law_script", "_law_k"] (spMixed K)) (cl_ways : Cal P w K mg base 1 "_law_ways" ["_law_book_here", "_law_work"] (spWays K)) : Cal P w K mg base 3 "_law_plan" ["_law_script", "_law_start", "_law_book_here"] (spPlan K) := by
 refine cal_of F scPlan (fun _ _ _ _ _ _ => bind3 (fun _ _ _ => rfl)) (fun vs H Q E h => ?_) (fun f cdv A outer s H vs Q E hr h => ?_)
 ·obtain ⟨a, d, ns, st, n, us, B, rfl, _⟩ := h
  rfl
 obtain ⟨a, d, ns, st, n, us, B, rfl, hS, st0, st1, hd, hB, bk, q⟩ := h
 have hu6 : (A.deeper (PyProof.Rows.envOfC "_law_plan" (defScope sPlan) s.heap.objs.size f cdv)).units + 6 < cLine := Nat.lt_of_le_of_lt (Nat.add_le_add_left (by decide) _) hr.un
 have hu : (A.deeper (PyProof.Rows.envOfC "_law_plan" (defScope sPlan) s.heap.objs.size f cdv)).units + 1 < cLine := Nat.lt_of_le_of_lt (Nat.add_le_add_left (by decide) _) hr.un
 refine ⟨_, (pss_cons (ps_set (i := 3) scPlan.nd rfl (Or.inl rfl) pe_dnewK)
  (pss_cons (ps_setC (i := 4) ["_law_row"] [none] rfl scPlan.nd rfl (Or.inl rfl) (pi_list (pv 2)) (fun _ _ _ => (pg_name (i := 0) (show (["_law_row"] : List Str).Nodup by decide +kernel) rfl (Or.inl rfl) (Or.inr rfl))) (fun _ _ _ => (pf_one (pt_cmpR op_eq (pe_ix (ix_listK (K := K) rfl) (pv 0) pe_int (fun _ _ => rfl)) pe_str (nomark _)))) (fun _ _ _ => (pe_ix (ix_listK (K := K) rfl) (pv 0) pe_int (fun _ _ => rfl))))
  (pss_cons (ps_for PassesOwn.never rfl (pi_revr rfl M.reversed_ (pa_cons (pe_range M.range_ (pa_cons (pe_callB call_len_seq rfl M.len bt_len (pa_cons (pv 4) pa_nil)) pa_nil)) pa_nil)) (pg_name (i := 5) scPlan.nd rfl (Or.inl rfl) (Or.inl rfl)) (pss_cons (ps_set (i := 6) scPlan.nd rfl (Or.inl rfl) (pe_fn cl_ways (hr.mono (by decide)) (pa_cons (pv 2) (pa_cons (pe_ix ix_list (pv 4) (pv 5) (fun _ _ => rfl)) pa_nil))))
  (pss_one (ps_if (pt_cmpR (op_neNil (K := K) (n := 6) rfl hu6) (pv 6) (pe_lst pa_nil) (nomark _)) (pss_cons (ps_set (i := 7) scPlan.nd rfl (Or.inl rfl) (pe_fn cl_mixed (hr.mono (by decide)) (pa_cons (pv 0) (pa_cons (pe_op op_add (pv 1) (pv 5)) pa_nil))))
  (pss_cons (ps_set (i := 8) scPlan.nd rfl (Or.inl rfl) (pe_ix ix_list (pv 6) (pe_op op_mod (pv 7) (pe_callB call_len_seq rfl M.len bt_len (pa_cons (pv 6) pa_nil))) (fun _ _ => rfl)))
  (pss_one (ps_dput hu (pv 3) (pe_ix ix_list (pv 4) (pv 5) (fun _ _ => rfl)) (pe_tup (pa_cons (pe_ix ix_list (pv 8) pe_int (fun _ _ => rfl)) (pa_cons (pe_op op_mod (pe_op op_fdiv (pv 7) pe_int) (pe_op op_add (pe_op op_sub (pe_ix ix_list (pe_ix ix_list (pv 2) pe_int (fun _ _ => rfl)) pe_int (fun _ _ => rfl)) (pe_ix ix_list (pv 8) pe_int (fun _ _ => rfl))) pe_int)) pa_nil))) rfl)))) pss_nil))))
  (pss_one (ps_ret (pv 3)))))), ?_⟩
 refine seq_let4 ?_
 intro rT4 rT3 rT2
 have hz : (20000 : Nat) < sizeLine := by decide
 have lu := hB.length
 have bl := bk.wb.len
 intro P hP
 have s0 := same_new' hP (.dK [])
 have hP0 : upd H P (.dK []) P = some (.dK []) := upd_same
 generalize upd H P (.dK []) = H0 at s0 hP0 ⊢
 refine ⟨_, rfl, d, rfl, ⟨_, sqL_new (s0 _ _ hd)⟩, fun D hD => ?_⟩
 let Pv15 : Nat → St → List V → Hp → Prop := fun m τ ys H1 => ∃ v : Option V, τ = [v] ∧ ys = ((B.take m).filterMap workOf).map V.str ∧ ys.length ≤ m ∧ H1 D = some (.lst ys) ∧ Same H0 H1
 refine lc_any (n := B.length) Pv15 ?_ (fun m τ ys H1 hm h => ?_) (fun m τ ys H1 hm h => ?_) (fun τ ys H1 h => ?_) ?_ ?_
 ·exact ⟨none, rfl, rfl, Nat.le_refl _, upd_same, same_new' hD _⟩
 ·obtain ⟨v, rfl, ey, hl, hE, s1⟩ := h
  exact ⟨hE, by lia⟩
 ·obtain ⟨v, rfl, ey, hl, hE, s1⟩ := h
  exact ⟨us, us[m]'(by lia), s1.seq (sqL_new (s0 _ _ hd)), gE (by lia)⟩
 ·obtain ⟨v, rfl, ey, hl, hE, s1⟩ := h
  exact ⟨us, s1.seq (sqL_new (s0 _ _ hd)), by lia⟩
 ·rintro m τ ys H1 x H2 hm ⟨v, rfl, ey, hl, hE, s1⟩ ⟨rfl, e1⟩
  obtain ⟨r, lr, er, rfl, hr⟩ := (hB.same (s0.trans s1)).get (e1 _ (s1.seq (sqL_new (s0 _ _ hd))))
  refine ⟨_, rfl, lr, _, _, _, rfl, rfl, sqL_new hr, at_word r, rfl, _, rfl, ite2 (fun y => ?_) (fun y => ?_)⟩
  ·obtain ⟨w, rfl⟩ := word_work (eqS y)
   refine ⟨_, rfl, lr, _, _, _, rfl, rfl, sqL_new hr, (show atI ((BR.work w).cells.map kV) 1 = some (.str w) from rfl), hE, _, rfl, ?_, by rw [List.length_append]; exact Nat.succ_le_succ hl, upd_same, fun b o e => ?_⟩
   ·rw [fmap_next workOf er, show workOf (.work w) = some w from rfl, List.map_append, ey]
    rfl
   ·rw [upd_ne (ne_of_none e hD)]; exact s1 _ _ e
  ·refine ⟨_, rfl, ?_, by lia, hE, s1⟩
   rw [fmap_next workOf er, workOf_no (fun e => y (by rw [e]; exact yesS _)), ey]
   simp
 ·rintro τ ys H1 ⟨v, rfl, ey, hl, hE, s1⟩
  rw [List.take_length] at ey
  have hL : H1 D = some (.lst ((wks B).map V.str)) := by rw [hE, ey]; rfl
  have s01 := s0.trans s1
  have hD0 : H D = none := by
   cases e5 : H D with
   | none => rfl
   | some o => rw [s0 _ _ e5] at hD; cases hD
  have lw : (wks B).length ≤ B.length := List.length_filterMap_le _ _
  have lm : ((wks B).map V.str).length = (wks B).length := List.length_map ..
  refine ⟨_, rfl, D, _, rfl, .inl (sqL_new hL), _, rfl, fun rr hrr => ?_⟩
  have s2 := same_new' hrr (.rng 0 ((((wks B).map V.str).length : Nat) : Int))
  refine ⟨rr, ((wks B).map V.str).length, rfl, upd_same, by lia, for_range3 (lo := ((((wks B).map V.str).length : Nat) : Int) - 1) (c := -1) (n := ((wks B).map V.str).length) (fun i σ H3 => ∃ (v5 v6 v7 v8 : Option V) (pl : List (Str × Str × Int)), σ = [some (.ref a), some (.int st), some (.ref d), some (.ref P), some (.ref D), v5, v6, v7, v8] ∧ PlanAt K H3 P pl ∧ pl.map (·.1) = (((wks B).drop ((wks B).length - i)).filter (hasW B)).reverse ∧ (∀ p ∈ pl, ∃ l c, BR.way p.1 p.2.1 l c ∈ B ∧ 0 ≤ p.2.2 ∧ p.2.2 + l ≤ n) ∧ H3 D = some (.lst ((wks B).map V.str)) ∧ Same H H3) ⟨none, none, none, none, [], rfl, ⟨[], s2 _ _ (s1 _ _ hP0), .nil⟩, ?_, fun _ h => (nomatch h), s2 _ _ hL, s01.trans s2⟩ ?_ ?_⟩
  ·rw [Nat.sub_zero, List.drop_length]; rfl
  ·rintro i σ H3 hi ⟨v5, v6, v7, v8, pl, rfl, hP3, hk3, hg3, hL3, s3⟩
   rw [lm] at hi
   obtain ⟨k, hk⟩ : ∃ k : Nat, k = (wks B).length - 1 - i := ⟨_, rfl⟩
   have hkl : k < (wks B).length := by lia
   have ek : (((((wks B).map V.str).length : Nat) : Int) - 1) + ((i : Nat) : Int) * (-1) = ((k : Nat) : Int) := by rw [lm]; lia
   rw [ek]
   obtain ⟨w, ew⟩ : ∃ w, (wks B)[k]? = some w := ⟨_, gE hkl⟩
   have aw : atI ((wks B).map V.str) ((k : Nat) : Int) = some (.str w) := atNat (by rw [List.getElem?_map, ew]; rfl)
   have e5 : (wks B)[k] = w := Option.some.inj ((gE hkl).symm.trans ew)
   have ed : (wks B).drop ((wks B).length - (i + 1)) = w :: (wks B).drop ((wks B).length - i) := by
    rw [show (wks B).length - (i + 1) = k by lia, List.drop_eq_getElem_cons hkl, show k + 1 = (wks B).length - i by lia, e5]
   refine ⟨_, rfl, _, rfl, _, rfl, D, _, _, _, rfl, rfl, sqL_new hL3, aw, d, w, us, B, rfl, s3 _ _ hd, hB.same s3, by lia, fun Dw yw H4 s4 fDw hDw hBw => ?_⟩
   have lyw := hBw.length
   have hyw := hasW_of lyw
   have yle : yw.length ≤ B.length := by rw [lyw]; exact List.length_filter_le _ _
   refine ⟨_, rfl, by show 0 ≤ sizeLine; decide, fun p5 hp5 => ?_⟩
   have s5 := same_new' hp5 (.lst [])
   have s45 := s4.trans s5
   have hDw5 := s5 _ _ hDw
   have hBw5 := hBw.same s5
   refine ⟨Dw, p5, yw, rfl, rfl, sqL_new hDw5, sqL_new upd_same, _, rfl, ite2 (fun y => ?_) (fun y => ⟨_, _, _, _, pl, rfl, PlanAt.same hP3 s45, ?_, hg3, s45 _ _ hL3, s3.trans s45⟩)⟩
   rotate_left
   ·rw [ed, List.filter_cons_of_neg (by rw [hyw]; exact y)]; exact hk3
   have hw1 : hasW B w = true := by rw [hyw]; exact y
   have yne : 0 < yw.length := by
    cases yw with
    | nil => exact nomatch y
    | cons a b => exact Nat.succ_pos _
   generalize upd H4 p5 (.lst []) = H5 at s5 s45 hDw5 hBw5 ⊢
   have s35 := s3.trans s45
   refine ⟨_, rfl, _, rfl, _, rfl, _, _, rfl, rfl, a, ns, _, rfl, s35.seq hS, by lia, by lia, fun z z0 z1 => ?_⟩
   have py : (0 : Int) < ((yw.length : Nat) : Int) := by lia
   have j0 := Int.emod_nonneg z (Int.ne_of_gt py)
   have j1 := Int.emod_lt_of_pos z py
   obtain ⟨j, ej⟩ : ∃ j : Nat, z % ((yw.length : Nat) : Int) = ((j : Nat) : Int) := ⟨(z % ((yw.length : Nat) : Int)).toNat, by lia⟩
   have jl : j < yw.length := by lia
   obtain ⟨r, lr, er, ev, hr⟩ := hBw5.get (gE jl)
   obtain ⟨hrB, hrw⟩ := List.mem_filter.mp (List.mem_of_getElem? er)
   obtain ⟨v', l', c', rfl⟩ : ∃ v' l' c', r = .way w v' l' c' := by
    cases r with
    | way w' v' l' c' =>
     have e : w' = w := of_decide_eq_true hrw
     subst e
     exact ⟨v', l', c', rfl⟩
    | _ => cases hrw
   have hok := bk.wb.ok _ hrB
   have hl1 : 1 ≤ l' ∧ l' ≤ n := ⟨hok.1, hok.2.1⟩
   have aj : atI yw (z % ((yw.length : Nat) : Int)) = some (.ref lr) := by
    rw [ej]
    exact atNat (by rw [gE jl, ev])
   refine ⟨_, rfl, _, rfl, _, rfl, Dw, _, rfl, .inl (sqL_new hDw5), _, _, rfl, rfl, py, Dw, _, _, _, rfl, rfl, sqL_new hDw5, aj, ?_⟩
   obtain ⟨u0, eu0⟩ : ∃ u0, us[0]? = some u0 := ⟨_, gE (by
    rw [lu]
    exact (List.getElem?_eq_some_iff.mp bk.hd).1)⟩
   obtain ⟨r0, ld, er0, rfl, hr0⟩ := (hB.same s35).get eu0
   rw [bk.hd] at er0
   cases er0
   have a0 : atI us 0 = some (.ref ld) := atNat (k := 0) eu0
   have b0 := Int.emod_nonneg (z / 3) (show (n - l' + 1) ≠ 0 by lia)
   have b1 := Int.emod_lt_of_pos (z / 3) (show 0 < n - l' + 1 by lia)
   refine ⟨_, rfl, lr, _, _, _, rfl, rfl, sqL_new hr, (show atI ((BR.way w v' l' c').cells.map kV) 2 = some (.str v') from rfl), _, rfl, _, _, rfl, rfl, ⟨by decide, by decide⟩, _, rfl, d, _, _, _, rfl, rfl, sqL_new (s35 _ _ hd), a0, ld, _, _, _, rfl, rfl, sqL_new hr0, (show atI ((BR.days n).cells.map kV) 1 = some (.int n) from rfl), _, rfl, lr, _, _, _, rfl, rfl, sqL_new hr, (show atI ((BR.way w v' l' c').cells.map kV) 3 = some (.int l') from rfl), _, _, rfl, rfl, _, _, rfl, rfl, _, _, rfl, rfl, (by show 0 < n - l' + 1; lia), by show 2 ≤ sizeLine; decide, fun t ht => ?_⟩
   have s6 := same_new' ht (.tup [.str v', .int (z / 3 % (n - l' + 1))])
   have ht6 : upd H5 t (.tup [.str v', .int (z / 3 % (n - l' + 1))]) t = some (.tup [.str v', .int (z / 3 % (n - l' + 1))]) := upd_same
   generalize upd H5 t (.tup [.str v', .int (z / 3 % (n - l' + 1))]) = H6 at s6 ht6 ⊢
   have s36 := s45.trans s6
   obtain ⟨kvs, hk6, hp6⟩ := PlanAt.same hP3 s36
   have wnk : (Sum.inr w : Key) ∉ kvs.map (·.1) := fun h => by
    rw [plan_keys hp6, hk3] at h
    obtain ⟨x, hx, e⟩ := List.mem_map.mp h
    cases e
    have hx' := (List.mem_filter.mp (List.mem_reverse.mp hx)).1
    obtain ⟨j', ej'⟩ := List.mem_iff_getElem?.mp hx'
    rw [List.getElem?_drop] at ej'
    have := (List.getElem?_inj hkl (wks_nd bk.wb)).mp (ew.trans ej'.symm)
    lia
   have lk : kvs.length ≤ 400 := by
    have h5 := congrArg List.length (plan_keys hp6)
    rw [List.length_map, List.length_map, hk3, List.length_reverse] at h5
    have h6 := List.length_filter_le (hasW B) ((wks B).drop ((wks B).length - i))
    rw [List.length_drop] at h6
    lia
   refine ⟨_, rfl, _, rfl, _, rfl, D, _, _, _, rfl, rfl, sqL_new (s36 _ _ hL3), aw, P, _, rfl, DPut.k (k := Sum.inr w) hk6 (by lia), _, _, _, _, pl ++ [(w, v', z / 3 % (n - l' + 1))], rfl, ⟨_, upd_same, ?_⟩, ?_, fun p hp => ?_, ?_, fun b o e => ?_⟩
   ·rw [putK_new _ (val_none wnk)]
    exact Paired.snoc (Paired.mapP hp6 fun _ _ ⟨e, t', e2, z'⟩ => ⟨e, t', e2, sqT_updD hk6 z'⟩) ⟨rfl, t, rfl, sqT_updD hk6 (sqT_new ht6)⟩
   ·rw [List.map_append, hk3, ed, List.filter_cons_of_pos hw1, List.reverse_cons]
    rfl
   ·rcases List.mem_append.mp hp with h | h
    ·exact hg3 p h
    ·rw [List.mem_singleton.mp h]; exact ⟨l', c', hrB, b0, (by show z / 3 % (n - l' + 1) + l' ≤ n; lia)⟩
   ·rw [upd_ne (ne_of (s36 _ _ hL3) hk6 (by intro z'; cases z'))]; exact s36 _ _ hL3
   ·rw [upd_ne (ne_of_none e hP)]; exact (s3.trans s36) _ _ e
  ·rintro σ H3 ⟨v5, v6, v7, v8, pl, rfl, hP3, hk3, hg3, hL3, s3⟩
   rw [lm, Nat.sub_self, List.drop_zero] at hk3
   exact ⟨_, rfl, q P pl H3 s3 hP hP3 ⟨hk3, hg3⟩⟩
end
abbrev sRoom : Stmt := top 32
def lenB (B : List BR) (w v : Str) : Int := (B.filterMap (lenOf w v)).headD 0
def shutOn (b : Str) (day : Int) : BR → Bool
 | .shut b' f t => decide (b' = b ∧ f ≤ day ∧ day < t)
 | _ => false
theorem shutOn_no {b : Str} {day : Int} {r : BR} (h : r.word ≠ "shut") : shutOn b day r = false := by
 cases r with
 | shut b' f t => exact absurd rfl h
 | _ => rfl
theorem word_shut {r : BR} (h : r.word = "shut") : ∃ b f t, r = .shut b f t := by
 have hk : r.kind = 2 := (word_iff r (k := 2) (by decide)).mp h
 cases r with
 | shut b f t => exact ⟨b, f, t, rfl⟩
 | use k _ _ _ _ => exact absurd (show 6 + k.val = 2 from hk) (by lia)
 | _ => exact nomatch hk
def baseR (B : List BR) (b : Str) (r day : Int) : Int := if (B.filter (shutOn b day)).length = 0 then r else 0
def useR (B : List BR) (b : Str) (day : Int) (p : Str × Str × Int) : Int := if p.2.2 ≤ day ∧ day < p.2.2 + lenB B p.1 p.2.1 then manyB B 0 p.1 p.2.1 b else 0
def roomR (B : List BR) (pl : List (Str × Str × Int)) (b : Str) (r day : Int) : Int := baseR B b r day - (pl.map (useR B b day)).sum
def DayIs (f : Int → Prop) (N : Nat) (v : V) : Prop := (v = .non ∧ ∀ d : Nat, d < N → ¬ f d) ∨ ∃ d : Nat, d < N ∧ v = .int d ∧ f d ∧ ∀ d' : Nat, d' < d → ¬ f d'
def wo (H : Hp) (P : Addr) : Hp := fun c => if c = P then none else H c
theorem wo_of {H : Hp} {P c : Addr} {o : HO} (h : H c = some o) (n : c ≠ P) : wo H P c = some o := by
 unfold wo
 rw [if_neg n]; exact h
theorem wo_out {H : Hp} {P c : Addr} {o : HO} (h : wo H P c = some o) : c ≠ P ∧ H c = some o := by
 unfold wo at h
 by_cases e : c = P
 ·rw [if_pos e] at h; cases h
 ·rw [if_neg e] at h; exact ⟨e, h⟩
theorem RowsB.wo {H : Hp} {P : Addr} {kvs : List (Key × V)} {us : List V} {B : List BR} (hP : H P = some (.dK kvs)) (h : RowsB H us B) : RowsB (wo H P) us B := h.imp fun _ _ _ z => wo_of z (ne_of z hP (by intro e; cases e))
theorem sqT_wo {K : Fg} {H : Hp} {P t : Addr} {kvs : List (Key × V)} {xs : List V} (hP : H P = some (.dK kvs)) (h : SqT K H t xs) : SqT K (wo H P) t xs := by
 rcases h with (h | ⟨p, h⟩) | h
 ·exact .inl (.inl (wo_of h (ne_of h hP (by intro z; cases z))))
 ·exact .inl (.inr ⟨p, wo_of h (ne_of h hP (by intro z; cases z))⟩)
 ·exact .inr h
theorem same_back {H H' : Hp} {P : Addr} {kvs : List (Key × V)} (hP : H P = some (.dK kvs)) (s : Same (wo H P) H') : Same H (upd H' P (.dK kvs)) := fun c o h => by
 by_cases e : c = P
 ·subst e
  rw [hP] at h
  cases h
  exact upd_same
 ·rw [upd_ne e]; exact s _ _ (wo_of h e)
theorem same_frz {H H' : Hp} {P : Addr} {u : HO} (s : Same H H') : Same (wo H P) (upd H' P u) := fun c o h => by
 obtain ⟨n, h'⟩ := wo_out h
 rw [upd_ne n]; exact s _ _ h'
theorem rset {N k : Nat} {g : Nat → V} {v : V} : ((List.range N).map g).set k v = (List.range N).map (fun d => if d = k then v else g d) := by
 refine List.ext_getElem (by simp) fun i h1 h2 => ?_
 rw [List.getElem_set]
 by_cases e : k = i
 ·subst e; simp
 ·rw [if_neg e]
  simp [show ¬ i = k from fun z => e z.symm]
theorem rat {N k : Nat} {g : Nat → V} (h : k < N) : atI ((List.range N).map g) ((k : Nat) : Int) = some (g k) := atNat (by
 rw [List.getElem?_map, List.getElem?_range h]; rfl)
theorem rix {N k : Nat} {g : Nat → V} (h : k < N) : ixN ((List.range N).map g).length ((k : Nat) : Int) = some k := by
 unfold ixN
 rw [List.length_map, List.length_range, if_pos (by lia), if_pos (by lia), Int.toNat_natCast]
theorem rcong {N : Nat} {f g : Nat → Int} (h : ∀ d, d < N → f d = g d) : (List.range N).map (fun d => V.int (f d)) = (List.range N).map (fun d => V.int (g d)) := by
 refine List.map_congr_left fun d hd => ?_
 rw [h d (List.mem_range.mp hd)]
def PlanGood (n : Int) (B : List BR) (pl : List (Str × Str × Int)) : Prop := ∀ p ∈ pl, ∃ l c, BR.way p.1 p.2.1 l c ∈ B ∧ 0 ≤ p.2.2 ∧ p.2.2 + l ≤ n
theorem lenB_of {n : Int} {B : List BR} (wb : WB n B) {w v : Str} {l c : Int} (h : BR.way w v l c ∈ B) : lenB B w v = l := by
 have hx : ∀ x ∈ B.filterMap (lenOf w v), x = l := fun x hx => by
  obtain ⟨r, hr, e⟩ := List.mem_filterMap.mp hx
  obtain ⟨c', rfl⟩ := lenOf_some.mp e
  exact (wb.way1 hr h).1
 have hne : l ∈ B.filterMap (lenOf w v) := List.mem_filterMap.mpr ⟨_, h, lenOf_some.mpr ⟨c, rfl⟩⟩
 unfold lenB
 cases e : B.filterMap (lenOf w v) with
 | nil => rw [e] at hne; exact nomatch hne
 | cons a b => exact hx a (by rw [e]; exact List.mem_cons_self)
inductive IspRoomL (K : Fg) (vs : List V) (H : Hp) (Q : VK) : Prop
 | mk (d P lb : Addr) (n : Int) (us : List V) (B : List BR) (pl : List (Str × Str × Int)) (b : Str) (r : Int) (h1 : vs = [.ref d, .ref P, .ref lb]) (h2 : H d = some (.lst us)) (h3 : RowsB H us B) (h4 : BookOk n B) (h5 : PlanAt K H P pl) (h6 : PlanGood n B pl) (h7 : H lb = some (.lst ((BR.bench b r).cells.map kV))) (h8 : ∀ (v : V) (H' : Hp), Same H H' → DayIs (fun day => roomR B pl b r day < 0) n.toNat v → Q v H')
def spRoomL (K : Fg) : Sp := fun vs H Q _ => IspRoomL K vs H Q
section
variable {P : Program} {w : World} {K : Fg} {mg : Str → Option Value} {base : Heap}
theorem scRoom : FnScope ["_law_book_here", "_law_plan_here", "_law_bench", "_law_room_here", "_law_day", "_law_shut", "_law_work", "_law_done", "_law_many_here"] ["_law_book_here", "_law_plan_here", "_law_bench"] (defScope sRoom) := ⟨rfl, rfl, rfl, by decide +kernel, rfl, by decide +kernel, by decide +kernel⟩
theorem okRoom (F : Fn K mg "_law_room" sRoom) (M : Mg mg) (cl_many : Cal P w K mg base 1 "_law_many" ["_law_book_here", "_law_word", "_law_work", "_law_way_here", "_law_thing"] (spMany K)) (cl_length : Cal P w K mg base 1 "_law_length" ["_law_book_here", "_law_work", "_law_way_here"] (spLength K)) : Cal P w K mg base 3 "_law_room" ["_law_book_here", "_law_plan_here", "_law_bench"] (spRoomL K) := by
 refine cal_of F scRoom (fun _ _ _ _ _ _ => bind3 (fun _ _ _ => rfl)) (fun vs H Q E h => ?_) (fun f cdv A outer s H vs Q E hr h => ?_)
 ·obtain ⟨d, P, lb, n, us, B, pl, b, r, rfl, _⟩ := h
  rfl
 obtain ⟨d, P, lb, n, us, B, pl, b, r, rfl, hd, hB, bk, hP, hg, hlb, q⟩ := h
 have hu6 : (A.deeper (PyProof.Rows.envOfC "_law_room" (defScope sRoom) s.heap.objs.size f cdv)).units + 6 < cLine := Nat.lt_of_le_of_lt (Nat.add_le_add_left (by decide) _) hr.un
 refine ⟨_, (pss_cons (ps_set (i := 3) scRoom.nd rfl (Or.inl rfl) (pe_lst pa_nil))
  (pss_cons (ps_for PassesOwn.never rfl (pi_range1 rfl M.range_ (pa_cons (pe_ix ix_list (pe_ix ix_list (pv 0) pe_int (fun _ _ => rfl)) pe_int (fun _ _ => rfl)) pa_nil)) (pg_name (i := 4) scRoom.nd rfl (Or.inr rfl) (Or.inl rfl)) (pss_cons (ps_setC (i := 5) ["_law_row", "_law_bench", "_law_day"] [none, some 2, some 4] rfl scRoom.nd rfl (Or.inl rfl) (pi_list (pv 0)) (fun _ _ _ => (pg_name (i := 0) (show (["_law_row", "_law_bench", "_law_day"] : List Str).Nodup by decide +kernel) rfl (Or.inl rfl) (Or.inr rfl))) (fun _ _ _ => (pf_one (PW.pt (pw_and (pt_cmpR op_eq (pe_ix (ix_listK (K := K) rfl) (pv 0) pe_int (fun _ _ => rfl)) pe_str (nomark _)) (pw_and (pt_cmpR op_eq (pe_ix (ix_listK (K := K) rfl) (pv 0) pe_int (fun _ _ => rfl)) (pe_ix (ix_listK (K := K) rfl) (pv 1) pe_int (fun _ _ => rfl)) (nomark _)) (pw_and (pt_cmpR op_le (pe_ix (ix_listK (K := K) rfl) (pv 0) pe_int (fun _ _ => rfl)) (pv 2) (nomark _)) (pw_and1 (pt_cmpR op_lt (pv 2) (pe_ix (ix_listK (K := K) rfl) (pv 0) pe_int (fun _ _ => rfl)) (nomark _))))))))) (fun _ _ _ => (pv 0)))
  (pss_one (ps_expr (pe_bm PySem.F.plainAttrs_list PySem.F.slot_list_append PySem.F.type_list_append mt_append (pv 3) (pa_cons (pe_ix ix_list (pe_lst (pa_cons (pe_ix ix_list (pv 2) pe_int (fun _ _ => rfl)) (pa_cons pe_int pa_nil))) (pe_callTy call_int1 rfl M.int_ bt_int (pa_cons (pe_cmpR (op_neNil (K := K) (n := 6) rfl hu6) (pv 5) (pe_lst pa_nil) (nomark _)) pa_nil)) (fun _ _ => rfl)) pa_nil))))))
  (pss_cons (ps_thaw (ps_for PassesOwn.never rfl (pi_items (pv 1)) (pg_pair (K := K) (i := 6) (j := 7) rfl rfl scRoom.nd rfl rfl rfl rfl) (pss_cons (ps_set (i := 8) scRoom.nd rfl (Or.inl rfl) (pe_fn cl_many (hr.mono (by decide)) (pa_cons (pv 0) (pa_cons pe_str (pa_cons (pv 6) (pa_cons (pe_ix ix_tup (pv 7) pe_int (fun _ _ => rfl)) (pa_cons (pe_ix ix_list (pv 2) pe_int (fun _ _ => rfl)) pa_nil)))))))
  (pss_one (ps_for PassesOwn.never rfl (pi_range2 rfl M.range_ (pa_cons (pe_ix ix_tup (pv 7) pe_int (fun _ _ => rfl)) (pa_cons (pe_op op_add (pe_ix ix_tup (pv 7) pe_int (fun _ _ => rfl)) (pe_fn cl_length (hr.mono (by decide)) (pa_cons (pv 0) (pa_cons (pv 6) (pa_cons (pe_ix ix_tup (pv 7) pe_int (fun _ _ => rfl)) pa_nil))))) pa_nil))) (pg_name (i := 4) scRoom.nd rfl (Or.inr rfl) (Or.inl rfl)) (pss_one (ps_asg (pe_op op_sub (pe_ix ix_list (pv 3) (pv 4) (fun _ _ => rfl)) (pv 8)) (pg_sub (pv 3) (pv 4) set_list))))))))
  (pss_cons (ps_for PassesOwn.never rfl (pi_range1 rfl M.range_ (pa_cons (pe_callB call_len_seq rfl M.len bt_len (pa_cons (pv 3) pa_nil)) pa_nil)) (pg_name (i := 4) scRoom.nd rfl (Or.inr rfl) (Or.inl rfl)) (pss_one (ps_if (pt_cmpR op_lt (pe_ix ix_list (pv 3) (pv 4) (fun _ _ => rfl)) pe_int (nomark _)) (pss_one (ps_ret (pv 4))) pss_nil)))
  (pss_one (ps_ret pe_non)))))), ?_⟩
 refine seq_let5 ?_
 intro rT5 rT4 rT3 rT2
 have hz : (20000 : Nat) < sizeLine := by decide
 have lu := hB.length
 have bl := bk.wb.len
 have n1 := bk.n1
 have n12 := bk.n12
 obtain ⟨kvs, hPk, hPp⟩ := id hP
 refine ⟨by show 0 ≤ sizeLine; decide, fun R hR => ?_⟩
 have s0 := same_new' hR (.lst [])
 obtain ⟨u0, eu0⟩ : ∃ u0, us[0]? = some u0 := ⟨_, gE (by
  rw [lu]
  exact (List.getElem?_eq_some_iff.mp bk.hd).1)⟩
 obtain ⟨r0, ld, er0, rfl, hr0⟩ := hB.get eu0
 rw [bk.hd] at er0
 cases er0
 have a0 : atI us 0 = some (.ref ld) := atNat (k := 0) eu0
 let Pv16 : Nat → St → Hp → Prop := fun i σ H1 => ∃ v4 v5 : Option V, σ = [some (.ref d), some (.ref P), some (.ref lb), some (.ref R), v4, v5, none, none, none] ∧ H1 R = some (.lst ((List.range i).map fun dd : Nat => V.int (baseR B b r dd))) ∧ Same H H1
 refine ⟨_, rfl, d, _, _, _, rfl, rfl, sqL_new (s0 _ _ hd), a0, ld, _, _, _, rfl, rfl, sqL_new (s0 _ _ hr0), (show atI ((BR.days n).cells.map kV) 1 = some (.int n) from rfl), n, rfl, by lia, by lia, for_range (lo := 0) (n := n.toNat) Pv16 ⟨none, none, rfl, upd_same, s0⟩ ?_ ?_⟩
 ·rintro i σ H1 hi ⟨v4, v5, rfl, hR1, s1⟩
  rw [Int.zero_add]
  have hd1 := s1 _ _ hd
  have hB1 := hB.same s1
  refine ⟨_, rfl, d, rfl, ⟨_, sqL_new hd1⟩, fun D hD => ?_⟩
  let Pv17 : Nat → St → List V → Hp → Prop := fun m τ ys H2 => ∃ v : Option V, τ = [v, some (.ref lb), some (.int i)] ∧ ys.length = ((B.take m).filter (shutOn b i)).length ∧ ys.length ≤ m ∧ H2 D = some (.lst ys) ∧ Same H1 H2
  refine lc_any (n := B.length) Pv17 ?_ (fun m τ ys H2 hm h => ?_) (fun m τ ys H2 hm h => ?_) (fun τ ys H2 h => ?_) ?_ ?_
  ·exact ⟨none, rfl, rfl, Nat.le_refl _, upd_same, same_new' hD _⟩
  ·obtain ⟨v, rfl, el, hl, hE, s2⟩ := h
   exact ⟨hE, by lia⟩
  ·obtain ⟨v, rfl, el, hl, hE, s2⟩ := h
   exact ⟨us, us[m]'(by lia), s2.seq (sqL_new hd1), gE (by lia)⟩
  ·obtain ⟨v, rfl, el, hl, hE, s2⟩ := h
   exact ⟨us, s2.seq (sqL_new hd1), by lia⟩
  ·rintro m τ ys H2 x H3 hm ⟨v, rfl, el, hl, hE, s2⟩ ⟨rfl, e1⟩
   obtain ⟨r', lr, er, rfl, hr'⟩ := (hB1.same s2).get (e1 _ (s2.seq (sqL_new hd1)))
   have no : shutOn b i r' = false → ∃ v : Option V, ([some (.ref lr), some (.ref lb), some (.int i)] : St) = [v, some (.ref lb), some (.int i)] ∧ ys.length = ((B.take (m + 1)).filter (shutOn b i)).length ∧ ys.length ≤ m + 1 ∧ H3 D = some (.lst ys) ∧ Same H1 H3 := fun h => by
    refine ⟨_, rfl, ?_, by lia, hE, s2⟩
    rw [filter_next (shutOn b i) er, h, if_neg (by decide), List.append_nil]
    exact el
   have hlb2 := s2 _ _ (s1 _ _ hlb)
   refine ⟨_, rfl, lr, _, _, _, rfl, rfl, sqL_new hr', at_word r', rfl, _, rfl, ite2 (fun y => ?_) (fun y => iteF (no (shutOn_no fun e => y (by rw [e]; exact yesS _))))⟩
   obtain ⟨b', f, t, rfl⟩ := word_shut (eqS y)
   refine ⟨_, rfl, lr, _, _, _, rfl, rfl, sqL_new hr', (show atI ((BR.shut b' f t).cells.map kV) 1 = some (.str b') from rfl), _, rfl, lb, _, _, _, rfl, rfl, sqL_new hlb2, (show atI ((BR.bench b r).cells.map kV) 1 = some (.str b) from rfl), rfl, _, rfl, ite2 (fun y2 => ?_) (fun y2 => iteF (no (decide_eq_false fun e => y2 (by rw [e.1]; exact yesS _))))⟩
   refine ⟨_, rfl, lr, _, _, _, rfl, rfl, sqL_new hr', (show atI ((BR.shut b' f t).cells.map kV) 2 = some (.int f) from rfl), _, rfl, _, _, rfl, rfl, _, rfl, ite2 (fun y3 => ?_) (fun y3 => iteF (no (decide_eq_false fun e => y3 (decide_eq_true e.2.1))))⟩
   refine ⟨_, rfl, _, rfl, lr, _, _, _, rfl, rfl, sqL_new hr', (show atI ((BR.shut b' f t).cells.map kV) 3 = some (.int t) from rfl), _, _, rfl, rfl, _, rfl, ite2 (fun y4 => ?_) (fun y4 => no (decide_eq_false fun e => y4 (decide_eq_true e.2.2)))⟩
   refine ⟨_, rfl, hE, _, rfl, ?_, by rw [List.length_append]; exact Nat.succ_le_succ hl, upd_same, fun c o e => ?_⟩
   ·rw [filter_next (shutOn b i) er, show shutOn b i (.shut b' f t) = true from decide_eq_true ⟨eqS y2, of_decide_eq_true y3, of_decide_eq_true y4⟩, if_pos rfl, List.length_append, List.length_append, el]
    rfl
   ·rw [upd_ne (ne_of_none e hD)]; exact s2 _ _ e
  ·rintro τ ys H2 ⟨v, rfl, el, hl, hE, s2⟩
   rw [List.take_length] at el
   have hR2 := s2 _ _ hR1
   have s12 := s1.trans s2
   refine ⟨_, rfl, .inl ⟨rfl, _, sqL_new hR2⟩, ?_⟩
   refine ⟨_, rfl, lb, _, _, _, rfl, rfl, sqL_new (s12 _ _ hlb), (show atI ((BR.bench b r).cells.map kV) 2 = some (.int r) from rfl), by show 2 ≤ sizeLine; decide, fun p1 hp1 => ?_⟩
   have s3 := same_new' hp1 (.lst [.int r, .int 0])
   have hp11 : upd H2 p1 (.lst [.int r, .int 0]) p1 = some (.lst [.int r, .int 0]) := upd_same
   generalize upd H2 p1 (.lst [.int r, .int 0]) = H3 at s3 hp11 ⊢
   refine ⟨_, rfl, by show 0 ≤ sizeLine; decide, fun p2 hp2 => ?_⟩
   have s4 := same_new' hp2 (.lst [])
   have hp22 : upd H3 p2 (.lst []) p2 = some (.lst []) := upd_same
   generalize upd H3 p2 (.lst []) = H4 at s4 hp22 ⊢
   have s34 := s3.trans s4
   refine ⟨D, p2, ys, rfl, rfl, sqL_new (s34 _ _ hE), sqL_new hp22, .inr ⟨_, rfl, ?_⟩⟩
   have hR4 := s34 _ _ hR2
   have s14 := s12.trans s34
   have fin : ∀ H5 : Hp, H5 = upd H4 R (.lst (((List.range i).map fun dd : Nat => V.int (baseR B b r dd)) ++ [V.int (baseR B b r i)])) → H5 R = some (.lst ((List.range (i + 1)).map fun dd : Nat => V.int (baseR B b r dd))) ∧ Same H H5 := fun H5 e5 => by
    subst e5
    refine ⟨?_, fun c o e => ?_⟩
    ·rw [upd_same, List.range_succ, List.map_append]; rfl
    ·rw [upd_ne (ne_of_none e hR)]; exact s14 _ _ e
   have ll : ((List.range i).map fun dd : Nat => V.int (baseR B b r dd)).length < sizeLine := by rw [List.length_map, List.length_range]; lia
   cases ys with
   | nil =>
    have eb : baseR B b r i = r := if_pos el.symm
    rw [eb] at fin
    obtain ⟨f1, f2⟩ := fin _ rfl
    exact ⟨p1, _, _, _, rfl, rfl, sqL_new (s4 _ _ hp11), at0, R, _, _, rfl, rfl, hR4, ll, _, _, rfl, f1, f2⟩
   | cons y0 ys0 =>
    have eb : baseR B b r i = 0 := if_neg (by rw [← el]; exact Nat.succ_ne_zero _)
    rw [eb] at fin
    obtain ⟨f1, f2⟩ := fin _ rfl
    exact ⟨p1, _, _, _, rfl, rfl, sqL_new (s4 _ _ hp11), at1, R, _, _, rfl, rfl, hR4, ll, _, _, rfl, f1, f2⟩
 ·rintro σ H1 ⟨v4, v5, rfl, hR1, s1⟩
  have hP1 := s1 _ _ hPk
  have nRP : R ≠ P := ne_of hR1 hP1 (by intro z; cases z)
  have nRw : wo H P R = none := by unfold wo; rw [if_neg nRP]; exact hR
  have hdw : wo H P d = some (.lst us) := wo_of hd (ne_of hd hPk (by intro z; cases z))
  have hBw : RowsB (wo H P) us B := hB.wo hPk
  have hlw : wo H P lb = some (.lst ((BR.bench b r).cells.map kV)) := wo_of hlb (ne_of hlb hPk (by intro z; cases z))
  have lp := Paired.length hPp
  refine ⟨_, rfl, P, kvs, rfl, hP1, fun nf o => for_items (fun i σ H2 => ∃ v4 v5 v6 v7 v8 : Option V, σ = [some (.ref d), some (.ref P), some (.ref lb), some (.ref R), v4, v5, v6, v7, v8] ∧ H2 P = some (.frz o (.dK kvs)) ∧ H2 R = some (.lst ((List.range n.toNat).map fun dd : Nat => V.int (baseR B b r dd - ((pl.take i).map (useR B b dd)).sum))) ∧ Same (wo H P) H2) ⟨_, _, _, _, _, rfl, upd_same, ?_, same_frz s1⟩ (fun i σ H2 _ h => ?_) ?_ ?_⟩
  ·rw [upd_ne nRP, hR1]
   congr 2
   refine rcong fun dd _ => ?_
   show _ = baseR B b r dd - 0
   lia
  ·obtain ⟨v4, v5, v6, v7, v8, rfl, hF, hR2, s2⟩ := h
   exact hF
  ·rintro i k x σ H2 T' ek ⟨v4, v5, v6, v7, v8, rfl, hF, hR2, s2⟩ hT'
   obtain ⟨⟨w, v, bq⟩, eq, e1, t, e2, hT⟩ := paired_get hPp ek
   have e1' : k = Sum.inr w := e1
   have e2' : x = .ref t := e2
   subst e1' e2'
   obtain ⟨l, c, hway, b0, b1⟩ := hg _ (List.mem_of_getElem? eq)
   have hok := bk.wb.ok _ hway
   have l1 : 1 ≤ l ∧ l ≤ n := ⟨hok.1, hok.2.1⟩
   have b0' : 0 ≤ bq := b0
   have b1' : bq + l ≤ n := b1
   have hTw := sqT_wo hPk hT
   have s3 := same_new' hT' (.tup [.str w, .ref t])
   refine ⟨T', _, rfl, sqT_new upd_same, rfl, _, _, rfl, _, _, rfl, rfl, ?_⟩
   show tSeq _ _ _ _ (upd H2 T' (.tup [.str w, .ref t]))
   generalize upd H2 T' (.tup [.str w, .ref t]) = H3 at s3 ⊢
   have s23 := s2.trans s3
   refine ⟨_, rfl, _, rfl, _, rfl, t, _, _, _, rfl, rfl, s23.tup hTw, at0, _, rfl, lb, _, _, _, rfl, rfl, sqL_new (s23 _ _ hlw), (show atI ((BR.bench b r).cells.map kV) 1 = some (.str b) from rfl), d, 0, w, v, b, us, B, rfl, s23 _ _ hdw, hBw.same s23, by lia, fun H4 s4 => ?_⟩
   have s24 := s23.trans s4
   have s34 := s3.trans s4
   refine ⟨_, rfl, t, _, _, _, rfl, rfl, s24.tup hTw, at1, _, rfl, t, _, _, _, rfl, rfl, s24.tup hTw, at1, _, rfl, _, rfl, _, rfl, t, _, _, _, rfl, rfl, s24.tup hTw, at0, d, w, v, n, us, B, l, c, rfl, s24 _ _ hdw, hBw.same s24, bk.wb, hway, fun H5 s5 => ⟨_, _, rfl, rfl, bq, bq + l, rfl, ⟨by lia, by lia, by lia, by lia⟩, ?_⟩⟩
   have s25 := s24.trans s5
   have s35 := s34.trans s5
   let Pv18 : Nat → St → Hp → Prop := fun j σ H6 => ∃ v4 : Option V, σ = [some (.ref d), some (.ref P), some (.ref lb), some (.ref R), v4, v5, some (.str w), some (.ref t), some (.int (manyB B 0 w v b))] ∧ H6 P = some (.frz o (.dK kvs)) ∧ H6 R = some (.lst ((List.range n.toNat).map fun dd : Nat => V.int (baseR B b r dd - ((pl.take i).map (useR B b dd)).sum - (if bq ≤ dd ∧ (dd : Int) < bq + j then manyB B 0 w v b else 0)))) ∧ Same (wo H P) H6
   refine for_range (lo := bq) (n := (bq + l - bq).toNat) Pv18 ⟨_, rfl, s35 _ _ hF, ?_, s25⟩ ?_ ?_
   ·rw [s35 _ _ hR2]
    congr 2
    refine rcong fun dd _ => ?_
    rw [if_neg (by lia)]
    lia
   ·rintro j σ H6 hj ⟨v4, rfl, hF6, hR6, s6⟩
    obtain ⟨kk, ekk⟩ : ∃ kk : Nat, bq + ((j : Nat) : Int) = ((kk : Nat) : Int) := ⟨(bq + j).toNat, by lia⟩
    have hkk : kk < n.toNat := by lia
    rw [ekk]
    refine ⟨_, rfl, _, rfl, R, _, _, _, rfl, rfl, sqL_new hR6, rat hkk, _, rfl, _, _, rfl, rfl, _, rfl, _, rfl, R, _, _, kk, rfl, rfl, hR6, rix hkk, _, rfl, ?_, ?_, fun c o e => ?_⟩
    ·rw [upd_ne nRP.symm]; exact hF6
    ·rw [upd_same, rset]
     congr 2
     refine List.map_congr_left fun dd hdd => ?_
     by_cases e : dd = kk
     ·subst e
      rw [if_pos rfl, if_neg (by lia), if_pos (by lia)]
      congr 1
      lia
     ·rw [if_neg e]
      congr 2
      by_cases h5 : bq ≤ dd ∧ (dd : Int) < bq + j
      ·rw [if_pos h5, if_pos (by lia)]
      ·rw [if_neg h5, if_neg (by lia)]
    ·rw [upd_ne (ne_of_none e nRw)]; exact s6 _ _ e
   ·rintro σ H6 ⟨v4, rfl, hF6, hR6, s6⟩
    refine ⟨_, _, _, _, _, rfl, hF6, ?_, s6⟩
    rw [hR6]
    congr 2
    refine rcong fun dd _ => ?_
    have ht : (pl.take (i + 1)) = pl.take i ++ [(w, v, bq)] := takeS eq
    rw [ht, List.map_append, List.sum_append]
    have hu1 : useR B b dd (w, v, bq) = if bq ≤ dd ∧ (dd : Int) < bq + (((bq + l - bq).toNat : Nat) : Int) then manyB B 0 w v b else 0 := by
     show (if bq ≤ (dd : Int) ∧ (dd : Int) < bq + lenB B w v then manyB B 0 w v b else 0) = _
     rw [lenB_of bk.wb hway, show (((bq + l - bq).toNat : Nat) : Int) = l by lia]
    rw [← hu1]
    show _ = baseR B b r dd - (((pl.take i).map (useR B b dd)).sum + (useR B b dd (w, v, bq) + 0))
    lia
  ·rintro σ H2 ⟨v4, v5, v6, v7, v8, rfl, hF, hR2, s2⟩
   rw [lp, List.take_length] at hR2
   refine ⟨P, o, kvs, nf, hF, ?_⟩
   have sb := same_back hPk s2
   have hR3 : upd H2 P (.dK kvs) R = some (.lst ((List.range n.toNat).map fun dd : Nat => V.int (roomR B pl b r dd))) := by rw [upd_ne nRP]; exact hR2
   generalize upd H2 P (.dK kvs) = H3 at sb hR3 ⊢
   refine ⟨_, rfl, R, _, rfl, .inl (sqL_new hR3), ?_⟩
   have lr : (((List.range n.toNat).map fun dd : Nat => V.int (roomR B pl b r dd)).length : Nat) = n.toNat := by rw [List.length_map, List.length_range]
   rw [lr]
   refine ⟨((n.toNat : Nat) : Int), rfl, by lia, by lia, ?_⟩
   rw [Int.toNat_natCast]
   let Pv19 : Nat → St → Hp → Prop := fun i σ H4 => ∃ v4 : Option V, σ = [some (.ref d), some (.ref P), some (.ref lb), some (.ref R), v4, v5, v6, v7, v8] ∧ H4 = H3 ∧ ∀ dd : Nat, dd < i → ¬ roomR B pl b r dd < 0
   refine for_range (lo := 0) (n := n.toNat) Pv19 ⟨_, rfl, rfl, fun dd h => absurd h (Nat.not_lt_zero _)⟩ ?_ ?_
   ·rintro i σ H4 hi ⟨v4, rfl, rfl, hno⟩
    rw [Int.zero_add]
    refine ⟨_, rfl, _, rfl, R, _, _, _, rfl, rfl, sqL_new hR3, rat hi, _, _, rfl, rfl, _, rfl, ite2 (fun y => ?_) (fun y => ?_)⟩
    ·exact ⟨_, rfl, q _ _ sb (.inr ⟨i, hi, rfl, of_decide_eq_true y, hno⟩)⟩
    ·refine ⟨_, rfl, rfl, fun dd hdd => ?_⟩
     by_cases e : dd = i
     ·subst e; exact fun z => y (decide_eq_true z)
     ·exact hno dd (by lia)
   ·rintro σ H4 ⟨v4, rfl, rfl, hno⟩
    exact q _ _ sb (.inl ⟨rfl, hno⟩)
end
abbrev sStore : Stmt := top 33
def chP (B : List BR) (st : Str) (day : Int) (p : Str × Str × Int) : Int := (if p.2.2 + lenB B p.1 p.2.1 = day then manyB B 2 p.1 p.2.1 st else 0) - (if p.2.2 = day then manyB B 1 p.1 p.2.1 st else 0)
def chR (B : List BR) (pl : List (Str × Str × Int)) (st : Str) (day : Int) : Int := (pl.map (chP B st day)).sum
def storeR (B : List BR) (pl : List (Str × Str × Int)) (st : Str) (f : Int) (day : Nat) : Int := f + ((List.range (day + 1)).map fun dd : Nat => chR B pl st dd).sum
theorem sum_range1 (f : Nat → Int) (i : Nat) : ((List.range (i + 1)).map f).sum = ((List.range i).map f).sum + f i := by
 rw [List.range_succ, List.map_append, List.sum_append]
 show _ + (f i + 0) = _
 lia
inductive IspStoreL (K : Fg) (vs : List V) (H : Hp) (Q : VK) : Prop
 | mk (d P ls : Addr) (n : Int) (us : List V) (B : List BR) (pl : List (Str × Str × Int)) (st : Str) (mo fi : Int) (h1 : vs = [.ref d, .ref P, .ref ls]) (h2 : H d = some (.lst us)) (h3 : RowsB H us B) (h4 : BookOk n B) (h5 : PlanAt K H P pl) (h6 : PlanGood n B pl) (h7 : H ls = some (.lst ((BR.store st mo fi).cells.map kV))) (h8 : ∀ (v : V) (H' : Hp), Same H H' → DayIs (fun day => storeR B pl st fi day.toNat < 0 ∨ mo < storeR B pl st fi day.toNat) (n.toNat + 1) v → Q v H')
def spStoreL (K : Fg) : Sp := fun vs H Q _ => IspStoreL K vs H Q
section
variable {P : Program} {w : World} {K : Fg} {mg : Str → Option Value} {base : Heap}
theorem scStore : FnScope ["_law_book_here", "_law_plan_here", "_law_store_here", "_law_changes", "_law_work", "_law_done", "_law_end", "_law_here", "_law_day"] ["_law_book_here", "_law_plan_here", "_law_store_here"] (defScope sStore) := ⟨rfl, rfl, rfl, by decide +kernel, rfl, by decide +kernel, by decide +kernel⟩
theorem okStore (F : Fn K mg "_law_store" sStore) (M : Mg mg) (cl_many : Cal P w K mg base 1 "_law_many" ["_law_book_here", "_law_word", "_law_work", "_law_way_here", "_law_thing"] (spMany K)) (cl_length : Cal P w K mg base 1 "_law_length" ["_law_book_here", "_law_work", "_law_way_here"] (spLength K)) : Cal P w K mg base 3 "_law_store" ["_law_book_here", "_law_plan_here", "_law_store_here"] (spStoreL K) := by
 refine cal_of F scStore (fun _ _ _ _ _ _ => bind3 (fun _ _ _ => rfl)) (fun vs H Q E h => ?_) (fun f cdv A outer s H vs Q E hr h => ?_)
 ·obtain ⟨d, P, ls, n, us, B, pl, st, mo, fi, rfl, _⟩ := h
  rfl
 obtain ⟨d, P, ls, n, us, B, pl, st, mo, fi, rfl, hd, hB, bk, hP, hg, hls, q⟩ := h
 refine ⟨_, (pss_cons (ps_setC (i := 3) ["_law_day"] [none] rfl scStore.nd rfl (Or.inl rfl) (pi_range1 rfl M.range_ (pa_cons (pe_op op_add (pe_ix ix_list (pe_ix ix_list (pv 0) pe_int (fun _ _ => rfl)) pe_int (fun _ _ => rfl)) pe_int) pa_nil)) (fun _ _ _ => (pg_name (i := 0) (show (["_law_day"] : List Str).Nodup by decide +kernel) rfl (Or.inl rfl) (Or.inr rfl))) (fun _ _ _ => pf_nil) (fun _ _ _ => pe_int))
  (pss_cons (ps_thaw (ps_for PassesOwn.never rfl (pi_items (pv 1)) (pg_pair (K := K) (i := 4) (j := 5) rfl rfl scStore.nd rfl rfl rfl rfl) (pss_cons (ps_set (i := 6) scStore.nd rfl (Or.inl rfl) (pe_op op_add (pe_ix ix_tup (pv 5) pe_int (fun _ _ => rfl)) (pe_fn cl_length (hr.mono (by decide)) (pa_cons (pv 0) (pa_cons (pv 4) (pa_cons (pe_ix ix_tup (pv 5) pe_int (fun _ _ => rfl)) pa_nil))))))
  (pss_cons (ps_asg (pe_op op_sub (pe_ix ix_list (pv 3) (pe_ix ix_tup (pv 5) pe_int (fun _ _ => rfl)) (fun _ _ => rfl)) (pe_fn cl_many (hr.mono (by decide)) (pa_cons (pv 0) (pa_cons pe_str (pa_cons (pv 4) (pa_cons (pe_ix ix_tup (pv 5) pe_int (fun _ _ => rfl)) (pa_cons (pe_ix ix_list (pv 2) pe_int (fun _ _ => rfl)) pa_nil))))))) (pg_sub (pv 3) (pe_ix ix_tup (pv 5) pe_int (fun _ _ => rfl)) set_list))
  (pss_one (ps_asg (pe_op op_add (pe_ix ix_list (pv 3) (pv 6) (fun _ _ => rfl)) (pe_fn cl_many (hr.mono (by decide)) (pa_cons (pv 0) (pa_cons pe_str (pa_cons (pv 4) (pa_cons (pe_ix ix_tup (pv 5) pe_int (fun _ _ => rfl)) (pa_cons (pe_ix ix_list (pv 2) pe_int (fun _ _ => rfl)) pa_nil))))))) (pg_sub (pv 3) (pv 6) set_list)))))))
  (pss_cons (ps_set (i := 7) scStore.nd rfl (Or.inl rfl) (pe_ix ix_list (pv 2) pe_int (fun _ _ => rfl)))
  (pss_cons (ps_for PassesOwn.never rfl (pi_range1 rfl M.range_ (pa_cons (pe_callB call_len_seq rfl M.len bt_len (pa_cons (pv 3) pa_nil)) pa_nil)) (pg_name (i := 8) scStore.nd rfl (Or.inl rfl) (Or.inl rfl)) (pss_cons (ps_set (i := 7) scStore.nd rfl (Or.inl rfl) (pe_op op_add (pv 7) (pe_ix ix_list (pv 3) (pv 8) (fun _ _ => rfl))))
  (pss_one (ps_if (PW.pt (pw_or (pt_cmpR op_lt (pv 7) pe_int (nomark _)) (pw_or1 (pt_cmpR op_gt (pv 7) (pe_ix ix_list (pv 2) pe_int (fun _ _ => rfl)) (nomark _))))) (pss_one (ps_ret (pv 8))) pss_nil))))
  (pss_one (ps_ret pe_non)))))), ?_⟩
 refine seq_let5 ?_
 intro rT5 rT4 rT3 rT2
 have hz : (20000 : Nat) < sizeLine := by decide
 have lu := hB.length
 have bl := bk.wb.len
 have n1 := bk.n1
 have n12 := bk.n12
 obtain ⟨kvs, hPk, hPp⟩ := id hP
 obtain ⟨u0, eu0⟩ : ∃ u0, us[0]? = some u0 := ⟨_, gE (by
  rw [lu]
  exact (List.getElem?_eq_some_iff.mp bk.hd).1)⟩
 obtain ⟨r0, ld, er0, rfl, hr0⟩ := hB.get eu0
 rw [bk.hd] at er0
 cases er0
 have a0 : atI us 0 = some (.ref ld) := atNat (k := 0) eu0
 refine ⟨_, rfl, d, _, _, _, rfl, rfl, sqL_new hd, a0, ld, _, _, _, rfl, rfl, sqL_new hr0, (show atI ((BR.days n).cells.map kV) 1 = some (.int n) from rfl), _, _, rfl, rfl, n + 1, rfl, by lia, by lia, fun R hR => ?_⟩
 have eN : (n + 1).toNat = n.toNat + 1 := by lia
 rw [eN]
 let Pv20 : Nat → St → List V → Hp → Prop := fun m τ ys H1 => ∃ v : Option V, τ = [v] ∧ ys = (List.range m).map (fun dd : Nat => V.int 0) ∧ H1 R = some (.lst ys) ∧ Same H H1
 refine lc_any (n := n.toNat + 1) Pv20 ?_ (fun m τ ys H1 hm h => ?_) (fun m τ ys H1 hm h => hm) (fun τ ys H1 h => Nat.le_refl _) ?_ ?_
 ·exact ⟨none, rfl, rfl, upd_same, same_new' hR _⟩
 ·obtain ⟨v, rfl, ey, hE, s1⟩ := h
  exact ⟨hE, by rw [ey, List.length_map, List.length_range]; lia⟩
 ·rintro m τ ys H1 x H2 hm ⟨v, rfl, ey, hE, s1⟩ ⟨rfl, ex⟩
  refine ⟨hE, _, rfl, ?_, upd_same, fun c o e => ?_⟩
  ·rw [ey, List.range_succ, List.map_append]; rfl
  ·rw [upd_ne (ne_of_none e hR)]; exact s1 _ _ e
 ·rintro τ ys H1 ⟨v, rfl, ey, hR1, s1⟩
  rw [ey] at hR1
  clear ey
  have hP1 := s1 _ _ hPk
  have nRP : R ≠ P := ne_of hR1 hP1 (by intro z; cases z)
  have nRw : wo H P R = none := by unfold wo; rw [if_neg nRP]; exact hR
  have hdw : wo H P d = some (.lst us) := wo_of hd (ne_of hd hPk (by intro z; cases z))
  have hBw : RowsB (wo H P) us B := hB.wo hPk
  have hlw : wo H P ls = some (.lst ((BR.store st mo fi).cells.map kV)) := wo_of hls (ne_of hls hPk (by intro z; cases z))
  have lp := Paired.length hPp
  refine ⟨_, rfl, P, kvs, rfl, hP1, fun nf o => for_items (fun i σ H2 => ∃ v4 v5 v6 : Option V, σ = [some (.ref d), some (.ref P), some (.ref ls), some (.ref R), v4, v5, v6, none, none] ∧ H2 P = some (.frz o (.dK kvs)) ∧ H2 R = some (.lst ((List.range (n.toNat + 1)).map fun dd : Nat => V.int ((pl.take i).map (chP B st dd)).sum)) ∧ Same (wo H P) H2) ⟨_, _, _, rfl, upd_same, ?_, same_frz s1⟩ (fun i σ H2 _ h => ?_) ?_ ?_⟩
  ·rw [upd_ne nRP, hR1]
   rfl
  ·obtain ⟨v4, v5, v6, rfl, hF, hR2, s2⟩ := h
   exact hF
  ·rintro i k x σ H2 T' ek ⟨v4, v5, v6, rfl, hF, hR2, s2⟩ hT'
   obtain ⟨⟨w, v, bq⟩, eq, e1, t, e2, hT⟩ := paired_get hPp ek
   have e1' : k = Sum.inr w := e1
   have e2' : x = .ref t := e2
   subst e1' e2'
   obtain ⟨l, c, hway, b0, b1⟩ := hg _ (List.mem_of_getElem? eq)
   have hok := bk.wb.ok _ hway
   have l1 : 1 ≤ l ∧ l ≤ n := ⟨hok.1, hok.2.1⟩
   have b0' : 0 ≤ bq := b0
   have b1' : bq + l ≤ n := b1
   have hTw := sqT_wo hPk hT
   have s3 := same_new' hT' (.tup [.str w, .ref t])
   refine ⟨T', _, rfl, sqT_new upd_same, rfl, _, _, rfl, _, _, rfl, rfl, ?_⟩
   show tSeq _ _ _ _ (upd H2 T' (.tup [.str w, .ref t]))
   generalize upd H2 T' (.tup [.str w, .ref t]) = H3 at s3 ⊢
   have s23 := s2.trans s3
   refine ⟨_, rfl, t, _, _, _, rfl, rfl, s23.tup hTw, at1, _, rfl, _, rfl, _, rfl, t, _, _, _, rfl, rfl, s23.tup hTw, at0, d, w, v, n, us, B, l, c, rfl, s23 _ _ hdw, hBw.same s23, bk.wb, hway, fun H4 s4 => ⟨_, _, rfl, rfl, ?_⟩⟩
   have s24 := s23.trans s4
   have s34 := s3.trans s4
   obtain ⟨kb, ekb⟩ : ∃ kb : Nat, bq = ((kb : Nat) : Int) := ⟨bq.toNat, by lia⟩
   obtain ⟨ke, eke⟩ : ∃ ke : Nat, bq + l = ((ke : Nat) : Int) := ⟨(bq + l).toNat, by lia⟩
   have hkb : kb < n.toNat + 1 := by lia
   have hke : ke < n.toNat + 1 := by lia
   have hR4 := s34 _ _ hR2
   have aB : atI ((List.range (n.toNat + 1)).map fun dd : Nat => V.int ((pl.take i).map (chP B st dd)).sum) bq = some (.int ((pl.take i).map (chP B st kb)).sum) := by rw [ekb]; exact rat hkb
   refine ⟨_, rfl, _, rfl, t, _, _, _, rfl, rfl, s24.tup hTw, at1, R, _, _, _, rfl, rfl, sqL_new hR4, aB, _, rfl, _, rfl, _, rfl, t, _, _, _, rfl, rfl, s24.tup hTw, at0, _, rfl, ls, _, _, _, rfl, rfl, sqL_new (s24 _ _ hlw), (show atI ((BR.store st mo fi).cells.map kV) 1 = some (.str st) from rfl), d, 1, w, v, st, us, B, rfl, s24 _ _ hdw, hBw.same s24, by lia, fun H5 s5 => ⟨_, _, rfl, rfl, ?_⟩⟩
   have s25 := s24.trans s5
   have s35 := s34.trans s5
   have iB : ixN ((List.range (n.toNat + 1)).map fun dd : Nat => V.int ((pl.take i).map (chP B st dd)).sum).length bq = some kb := by rw [ekb]; exact rix hkb
   have key : ∀ H6, H6 = upd H5 R (.lst (((List.range (n.toNat + 1)).map fun dd : Nat => V.int ((pl.take i).map (chP B st dd)).sum).set kb (V.int (((pl.take i).map (chP B st kb)).sum - manyB B 1 w v st)))) → Same (wo H P) H6 ∧ H6 P = some (.frz o (.dK kvs)) ∧ H6 R = some (.lst ((List.range (n.toNat + 1)).map fun dd : Nat => V.int (((pl.take i).map (chP B st dd)).sum - (if bq = dd then manyB B 1 w v st else 0)))) := fun H6 e6 => by
    subst e6
    refine ⟨fun c o e => ?_, ?_, ?_⟩
    ·rw [upd_ne (ne_of_none e nRw)]; exact s25 _ _ e
    ·rw [upd_ne nRP.symm]; exact s35 _ _ hF
    ·rw [upd_same, rset]
     congr 2
     refine List.map_congr_left fun dd _ => ?_
     by_cases e : dd = kb
     ·subst e; rw [if_pos rfl, if_pos ekb]
     ·rw [if_neg e, if_neg (by lia), Int.sub_zero]
   obtain ⟨s6, hF6, hR6⟩ := key _ rfl
   refine ⟨_, rfl, _, rfl, t, _, _, _, rfl, rfl, s25.tup hTw, at1, R, _, _, kb, rfl, rfl, s35 _ _ hR2, iB, ?_⟩
   have aE : atI ((List.range (n.toNat + 1)).map fun dd : Nat => V.int (((pl.take i).map (chP B st dd)).sum - (if bq = dd then manyB B 1 w v st else 0))) (bq + l) = some (.int (((pl.take i).map (chP B st ke)).sum - (if bq = ke then manyB B 1 w v st else 0))) := by rw [eke]; exact rat hke
   have iE : ixN ((List.range (n.toNat + 1)).map fun dd : Nat => V.int (((pl.take i).map (chP B st dd)).sum - (if bq = dd then manyB B 1 w v st else 0))).length (bq + l) = some ke := by rw [eke]; exact rix hke
   refine ⟨_, rfl, _, rfl, R, _, _, _, rfl, rfl, sqL_new hR6, aE, _, rfl, _, rfl, _, rfl, t, _, _, _, rfl, rfl, s6.tup hTw, at0, _, rfl, ls, _, _, _, rfl, rfl, sqL_new (s6 _ _ hlw), (show atI ((BR.store st mo fi).cells.map kV) 1 = some (.str st) from rfl), d, 2, w, v, st, us, B, rfl, s6 _ _ hdw, hBw.same s6, by lia, fun H7 s7 => ⟨_, _, rfl, rfl, ?_⟩⟩
   have s67 := s6.trans s7
   refine ⟨_, rfl, _, rfl, R, _, _, ke, rfl, rfl, s7 _ _ hR6, iE, _, _, _, rfl, ?_, ?_, fun c o e => ?_⟩
   ·rw [upd_ne nRP.symm]; exact s7 _ _ hF6
   ·rw [upd_same, rset]
    congr 2
    refine List.map_congr_left fun dd _ => ?_
    have ht : (pl.take (i + 1)) = pl.take i ++ [(w, v, bq)] := takeS eq
    rw [ht, List.map_append, List.sum_append]
    have hu1 : chP B st dd (w, v, bq) = (if bq + l = dd then manyB B 2 w v st else 0) - (if bq = dd then manyB B 1 w v st else 0) := by
     show (if bq + lenB B w v = (dd : Int) then manyB B 2 w v st else 0) - (if bq = (dd : Int) then manyB B 1 w v st else 0) = _
     rw [lenB_of bk.wb hway]
    have hu2 : ([(w, v, bq)].map (chP B st dd)).sum = chP B st dd (w, v, bq) := by
     show chP B st dd (w, v, bq) + 0 = _
     lia
    rw [hu2, hu1]
    by_cases e : dd = ke
    ·subst e
     rw [if_pos rfl, if_pos eke, if_neg (show ¬ bq = (dd : Int) by lia)]
     refine congrArg V.int ?_
     lia
    ·rw [if_neg e, if_neg (show ¬ bq + l = (dd : Int) by lia)]
     refine congrArg V.int ?_
     lia
   ·rw [upd_ne (ne_of_none e nRw)]; exact s67 _ _ e
  ·rintro σ H2 ⟨v4, v5, v6, rfl, hF, hR2, s2⟩
   rw [lp, List.take_length] at hR2
   refine ⟨P, o, kvs, nf, hF, ?_⟩
   have sb := same_back hPk s2
   have hR3 : upd H2 P (.dK kvs) R = some (.lst ((List.range (n.toNat + 1)).map fun dd : Nat => V.int (chR B pl st dd))) := by rw [upd_ne nRP]; exact hR2
   generalize upd H2 P (.dK kvs) = H3 at sb hR3 ⊢
   have hls3 := sb _ _ hls
   refine ⟨_, rfl, ls, _, _, _, rfl, rfl, sqL_new hls3, (show atI ((BR.store st mo fi).cells.map kV) 3 = some (.int fi) from rfl), ?_⟩
   refine ⟨_, rfl, R, _, rfl, .inl (sqL_new hR3), ?_⟩
   have lr : (((List.range (n.toNat + 1)).map fun dd : Nat => V.int (chR B pl st dd)).length : Nat) = n.toNat + 1 := by rw [List.length_map, List.length_range]
   rw [lr]
   refine ⟨((n.toNat + 1 : Nat) : Int), rfl, by lia, by lia, ?_⟩
   rw [Int.toNat_natCast]
   let Pv21 : Nat → St → Hp → Prop := fun i σ H4 => ∃ v8 : Option V, σ = [some (.ref d), some (.ref P), some (.ref ls), some (.ref R), v4, v5, v6, some (.int (fi + ((List.range i).map fun dd : Nat => chR B pl st dd).sum)), v8] ∧ H4 = H3 ∧ ∀ dd : Nat, dd < i → ¬ (storeR B pl st fi dd < 0 ∨ mo < storeR B pl st fi dd)
   refine for_range (lo := 0) (n := n.toNat + 1) Pv21 ⟨none, by
    show _ = [some (.ref d), some (.ref P), some (.ref ls), some (.ref R), v4, v5, v6, some (V.int (fi + 0)), none]
    rw [Int.add_zero]
    rfl, rfl, fun dd h => absurd h (Nat.not_lt_zero _)⟩ ?_ ?_
   ·rintro i σ H4 hi ⟨v8, rfl, rfl, hno⟩
    rw [Int.zero_add]
    refine ⟨_, rfl, _, rfl, _, rfl, R, _, _, _, rfl, rfl, sqL_new hR3, rat hi, _, _, rfl, rfl, ?_⟩
    have eS : fi + ((List.range i).map fun dd : Nat => chR B pl st dd).sum + chR B pl st i = storeR B pl st fi i := by
     unfold storeR
     rw [sum_range1]
     lia
    dsimp only
    rw [eS]
    have nxt : ¬ (storeR B pl st fi i < 0 ∨ mo < storeR B pl st fi i) → ∃ v8' : Option V, ([some (.ref d), some (.ref P), some (.ref ls), some (.ref R), v4, v5, v6, some (.int (storeR B pl st fi i)), some (.int i)] : St) = [some (.ref d), some (.ref P), some (.ref ls), some (.ref R), v4, v5, v6, some (.int (fi + ((List.range (i + 1)).map fun dd : Nat => chR B pl st dd).sum)), v8'] ∧ H4 = H4 ∧ ∀ dd : Nat, dd < i + 1 → ¬ (storeR B pl st fi dd < 0 ∨ mo < storeR B pl st fi dd) := fun hn => by
     refine ⟨_, rfl, rfl, fun dd hdd => ?_⟩
     by_cases e : dd = i
     ·subst e; exact hn
     ·exact hno dd (by lia)
    refine ⟨_, rfl, _, _, rfl, rfl, _, rfl, ite2 (fun y => iteT ?_) (fun y => ?_)⟩
    ·exact ⟨_, rfl, q _ _ sb (.inr ⟨i, hi, rfl, .inl (of_decide_eq_true y), hno⟩)⟩
    ·refine ⟨_, rfl, _, rfl, ls, _, _, _, rfl, rfl, sqL_new hls3, (show atI ((BR.store st mo fi).cells.map kV) 2 = some (.int mo) from rfl), _, _, rfl, rfl, _, rfl, ite2 (fun y2 => ?_) (fun y2 => ?_)⟩
     ·exact ⟨_, rfl, q _ _ sb (.inr ⟨i, hi, rfl, .inr (of_decide_eq_true y2), hno⟩)⟩
     ·exact nxt fun z => z.elim (fun z => y (decide_eq_true z)) fun z => y2 (decide_eq_true z)
   ·rintro σ H4 ⟨v8, rfl, rfl, hno⟩
    exact q _ _ sb (.inl ⟨rfl, hno⟩)
end
abbrev sDue : Stmt := top 34
def hasK (pl : List (Str × Str × Int)) (w : Str) : Bool := pl.any fun p => decide (p.1 = w)
theorem plan_some {K : Fg} {H : Hp} {kvs : List (Key × V)} {pl : List (Str × Str × Int)} {w : Str} (h : Paired (fun (p : Key × V) (q : Str × Str × Int) => p.1 = Sum.inr q.1 ∧ ∃ t, p.2 = .ref t ∧ SqT K H t [.str q.2.1, .int q.2.2]) kvs pl) : (valV kvs (Sum.inr w)).isSome = hasK pl w := by
 induction h with
 | nil => rfl
 | @cons p q ps qs z _ ih =>
  unfold hasK at ih ⊢
  rw [List.any_cons]
  by_cases e : q.1 = w
  ·rw [valV_pos (z.1.trans (by rw [e])), decide_eq_true e]
   rfl
  ·rw [valV_neg (fun h => e (Sum.inr.inj (z.1.symm.trans h))), decide_eq_false e, ih]
   rfl
theorem hasK_iff {pl : List (Str × Str × Int)} {w : Str} : hasK pl w = true ↔ w ∈ pl.map (·.1) := by
 unfold hasK
 rw [List.any_eq_true]
 constructor
 ·rintro ⟨p, hp, e⟩
  exact List.mem_map.mpr ⟨p, hp, of_decide_eq_true e⟩
 ·intro h
  obtain ⟨p, hp, e⟩ := List.mem_map.mp h
  exact ⟨p, hp, decide_eq_true e⟩
def look (pl : List (Str × Str × Int)) (w : Str) : Str × Int := ((pl.find? fun p => decide (p.1 = w)).map (·.2)).getD ("", 0)
theorem look_of {pl : List (Str × Str × Int)} {w v : Str} {b : Int} (nd : (pl.map (·.1)).Nodup) (h : (w, v, b) ∈ pl) : look pl w = (v, b) := by
 have e : pl.find? (fun p => decide (p.1 = w)) = some (w, v, b) := by
  induction pl with
  | nil => exact nomatch h
  | cons p pl ih =>
   have nd' : (p.1 :: pl.map (·.1)).Nodup := nd
   obtain ⟨n1, n2⟩ := List.nodup_cons.mp nd'
   rcases List.mem_cons.mp h with e | e
   ·rw [List.find?_cons_of_pos (by rw [← e]; exact decide_eq_true rfl), e]
   ·have ne : ¬ p.1 = w := fun z => n1 (by rw [z]; exact List.mem_map.mpr ⟨_, e, rfl⟩)
    rw [List.find?_cons_of_neg (by simpa using ne)]
    exact ih n2 e
 unfold look
 rw [e]
 rfl
theorem PlanFor.nd {n : Int} {B : List BR} {pl : List (Str × Str × Int)} (h : PlanFor n B pl) (wb : WB n B) : (pl.map (·.1)).Nodup := by
 rw [h.keys]
 exact ((List.reverse_perm _).nodup_iff).mpr ((wks_nd wb).filter _)
theorem PlanFor.get {n : Int} {B : List BR} {pl : List (Str × Str × Int)} (h : PlanFor n B pl) (wb : WB n B) {w : Str} (hw : hasK pl w = true) : ∃ l c, (w, (look pl w).1, (look pl w).2) ∈ pl ∧ BR.way w (look pl w).1 l c ∈ B ∧ 0 ≤ (look pl w).2 ∧ (look pl w).2 + l ≤ n := by
 obtain ⟨⟨w', v, b⟩, hp, e⟩ := List.mem_map.mp (hasK_iff.mp hw)
 have e' : w' = w := e
 subst e'
 rw [look_of (h.nd wb) hp]
 obtain ⟨l, c, h1, h2, h3⟩ := h.good _ hp
 exact ⟨l, c, hp, h1, h2, h3⟩
theorem paired_getB {α β : Type} {R : α → β → Prop} {xs : List α} {ys : List β} (h : Paired R xs ys) : ∀ {i : Nat} {y : β}, ys[i]? = some y → ∃ x, xs[i]? = some x ∧ R x y := by
 induction h with
 | nil => intro i x e; exact nomatch e
 | cons z _ ih =>
  intro i x e
  match i with
  | 0 => cases e; exact ⟨_, rfl, z⟩
  | i + 1 => exact ih (show _ = some x from e)
theorem plan_get {K : Fg} {H : Hp} {P : Addr} {pl : List (Str × Str × Int)} {w v : Str} {b : Int} (h : PlanAt K H P pl) (nd : (pl.map (·.1)).Nodup) (hm : (w, v, b) ∈ pl) : ∃ t, DGet H P (.str w) (some (.ref t)) ∧ SqT K H t [.str v, .int b] := by
 obtain ⟨kvs, h1, h2⟩ := h
 obtain ⟨i, ei⟩ := List.mem_iff_getElem?.mp hm
 obtain ⟨⟨k, x⟩, ex, ek, t, et, hT⟩ := paired_getB h2 ei
 have ek' : k = Sum.inr w := ek
 have et' : x = .ref t := et
 subst ek' et'
 have ndk : (kvs.map (·.1)).Nodup := by
  rw [plan_keys h2]
  exact List.Pairwise.map Sum.inr (fun a b (hab : a ≠ b) e => hab (Sum.inr.inj e)) nd
 have hv : valV kvs (Sum.inr w) = some (.ref t) := val_at ndk ex
 have hg := DGet.k (k := Sum.inr w) h1
 rw [hv] at hg
 exact ⟨t, hg, hT⟩
def gW (pl : List (Str × Str × Int)) : BR → List (List Key)
 | .work w => if hasK pl w = true then [] else [[Sum.inr ("work" : Str), Sum.inr w]]
 | _ => []
def daysOf (f : Int → Prop) [DecidablePred f] (N : Nat) : List Nat := (List.range N).filter fun d => decide (f d)
def gR (n : Int) (B : List BR) (pl : List (Str × Str × Int)) : BR → List (List Key)
 | .bench b r => (daysOf (fun day => roomR B pl b r day < 0) n.toNat).map fun d : Nat => [Sum.inr ("room" : Str), Sum.inr b, Sum.inl (d : Int)]
 | _ => []
def gS (n : Int) (B : List BR) (pl : List (Str × Str × Int)) : BR → List (List Key)
 | .store st mo fi => (daysOf (fun day => storeR B pl st fi day.toNat < 0 ∨ mo < storeR B pl st fi day.toNat) (n.toNat + 1)).map fun d : Nat => [Sum.inr ("store" : Str), Sum.inr st, Sum.inl (d : Int)]
 | _ => []
def gA (B : List BR) (pl : List (Str × Str × Int)) : BR → List (List Key)
 | .after w x g => if (look pl x).2 - (look pl w).2 - lenB B w (look pl w).1 < g then [[Sum.inr ("after" : Str), Sum.inr w, Sum.inr x]] else []
 | _ => []
def dueF (n : Int) (B : List BR) (pl : List (Str × Str × Int)) : Option (List Key) := (B.flatMap (gW pl) ++ (B.flatMap (gR n B pl) ++ (B.flatMap (gS n B pl) ++ B.flatMap (gA B pl)))).head?
def DueIs (H : Hp) : Option (List Key) → V → Prop
 | none, v => v = .non
 | some ks, v => ∃ T, v = .ref T ∧ H T = some (.tup (ks.map kV))
theorem days_head {f : Int → Prop} [DecidablePred f] {N : Nat} {v : V} (h : DayIs f N v) : (v = .non ∧ daysOf f N = []) ∨ ∃ (d : Nat) (r : List Nat), v = .int d ∧ daysOf f N = d :: r := by
 rcases h with ⟨e, hn⟩ | ⟨d, hd, e, hf, hn⟩
 ·refine .inl ⟨e, List.filter_eq_nil_iff.mpr fun x hx => ?_⟩
  intro z
  exact hn x (List.mem_range.mp hx) (of_decide_eq_true z)
 ·refine .inr ⟨d, ((List.range N).drop (d + 1)).filter fun d => decide (f d), e, ?_⟩
  unfold daysOf
  have e1 : List.range N = (List.range N).take d ++ (d :: (List.range N).drop (d + 1)) := by
   have h1 : d < (List.range N).length := by rw [List.length_range]; exact hd
   have h2 := List.drop_eq_getElem_cons h1
   rw [List.getElem_range] at h2
   rw [← h2, List.take_append_drop]
  have key : ∀ L1 L2 : List Nat, (∀ x ∈ L1, ¬ f (x : Int)) → (L1 ++ d :: L2).filter (fun d : Nat => decide (f d)) = d :: L2.filter (fun d : Nat => decide (f d)) := fun L1 L2 h1 => by
   rw [List.filter_append, List.filter_eq_nil_iff.mpr (fun x hx z => h1 x hx (of_decide_eq_true z)), List.nil_append]
   simp [List.filter_cons, hf]
  refine (congrArg (List.filter fun d : Nat => decide (f d)) e1).trans (key _ _ fun x hx => ?_)
  rw [List.take_range] at hx
  exact hn x (by have := List.mem_range.mp hx; lia)
theorem fm_next {α β : Type} {B : List α} {i : Nat} {r : α} (g : α → List β) (h : B[i]? = some r) : (B.take (i + 1)).flatMap g = (B.take i).flatMap g ++ g r := by
 rw [takeS h, List.flatMap_append]
 congr 1
 show g r ++ [] = _
 rw [List.append_nil]
theorem fm_head {α β : Type} {B : List α} {i : Nat} {r : α} {g : α → List β} {x : β} {xs : List β} (h : B[i]? = some r) (h0 : (B.take i).flatMap g = []) (h1 : g r = x :: xs) (C : List β) : (B.flatMap g ++ C).head? = some x := by
 have e : B.flatMap g = (B.take (i + 1)).flatMap g ++ (B.drop (i + 1)).flatMap g := by rw [← List.flatMap_append, List.take_append_drop]
 rw [e, fm_next g h, h0, h1]
 rfl
theorem hasK_of_gW {B : List BR} {pl : List (Str × Str × Int)} (h : B.flatMap (gW pl) = []) {w : Str} (hw : BR.work w ∈ B) : hasK pl w = true := by
 have h1 := List.flatMap_eq_nil_iff.mp h _ hw
 have h2 : (if hasK pl w = true then [] else [[(Sum.inr ("work" : Str) : Key), Sum.inr w]]) = [] := h1
 by_cases e : hasK pl w = true
 ·exact e
 ·rw [if_neg e] at h2; cases h2
theorem gW_no {pl : List (Str × Str × Int)} {r : BR} (h : r.word ≠ "work") : gW pl r = [] := by
 cases r with
 | work w => exact absurd rfl h
 | _ => rfl
theorem gR_no {n : Int} {B : List BR} {pl : List (Str × Str × Int)} {r : BR} (h : r.word ≠ "bench") : gR n B pl r = [] := by
 cases r with
 | bench b r => exact absurd rfl h
 | _ => rfl
theorem gS_no {n : Int} {B : List BR} {pl : List (Str × Str × Int)} {r : BR} (h : r.word ≠ "store") : gS n B pl r = [] := by
 cases r with
 | store b m f => exact absurd rfl h
 | _ => rfl
theorem gA_no {B : List BR} {pl : List (Str × Str × Int)} {r : BR} (h : r.word ≠ "after") : gA B pl r = [] := by
 cases r with
 | after w x g => exact absurd rfl h
 | _ => rfl
theorem word_bench {r : BR} (h : r.word = "bench") : ∃ b c, r = .bench b c := by
 have hk : r.kind = 1 := (word_iff r (k := 1) (by decide)).mp h
 cases r with
 | bench b c => exact ⟨b, c, rfl⟩
 | use k _ _ _ _ => exact absurd (show 6 + k.val = 1 from hk) (by lia)
 | _ => exact nomatch hk
theorem word_store {r : BR} (h : r.word = "store") : ∃ b m f, r = .store b m f := by
 have hk : r.kind = 3 := (word_iff r (k := 3) (by decide)).mp h
 cases r with
 | store b m f => exact ⟨b, m, f, rfl⟩
 | use k _ _ _ _ => exact absurd (show 6 + k.val = 3 from hk) (by lia)
 | _ => exact nomatch hk
inductive IspDue (K : Fg) (vs : List V) (H : Hp) (Q : VK) : Prop
 | mk (d P : Addr) (n : Int) (us : List V) (B : List BR) (pl : List (Str × Str × Int)) (h1 : vs = [.ref d, .ref P]) (h2 : H d = some (.lst us)) (h3 : RowsB H us B) (h4 : BookOk n B) (h5 : PlanAt K H P pl) (h6 : PlanFor n B pl) (h7 : ∀ (v : V) (H' : Hp), Same H H' → DueIs H' (dueF n B pl) v → Q v H')
def spDue (K : Fg) : Sp := fun vs H Q _ => IspDue K vs H Q
section
variable {P : Program} {w : World} {K : Fg} {mg : Str → Option Value} {base : Heap}
theorem scDue : FnScope ["_law_book_here", "_law_plan_here", "_law_row", "_law_day", "_law_way_here", "_law_begin"] ["_law_book_here", "_law_plan_here"] (defScope sDue) := ⟨rfl, rfl, rfl, by decide +kernel, rfl, by decide +kernel, by decide +kernel⟩
theorem okDue (F : Fn K mg "_law_due" sDue) (M : Mg mg) (cl_room : Cal P w K mg base 3 "_law_room" ["_law_book_here", "_law_plan_here", "_law_bench"] (spRoomL K)) (cl_store : Cal P w K mg base 3 "_law_store" ["_law_book_here", "_law_plan_here", "_law_store_here"] (spStoreL K)) (cl_length : Cal P w K mg base 1 "_law_length" ["_law_book_here", "_law_work", "_law_way_here"] (spLength K)) : Cal P w K mg base 4 "_law_due" ["_law_book_here", "_law_plan_here"] (spDue K) := by
 refine cal_of F scDue (fun _ _ _ _ _ _ => bind2 (fun _ _ => rfl)) (fun vs H Q E h => ?_) (fun f cdv A outer s H vs Q E hr h => ?_)
 ·obtain ⟨d, P, n, us, B, pl, rfl, _⟩ := h
  rfl
 obtain ⟨d, P, n, us, B, pl, rfl, hd, hB, bk, hP, hpf, q⟩ := h
 have hu : (A.deeper (PyProof.Rows.envOfC "_law_due" (defScope sDue) s.heap.objs.size f cdv)).units + 1 < cLine := Nat.lt_of_le_of_lt (Nat.add_le_add_left (by decide) _) hr.un
 refine ⟨_, (pss_cons (ps_for PassesOwn.never rfl (pi_list (pv 0)) (pg_name (i := 2) scDue.nd rfl (Or.inl rfl) (Or.inl rfl)) (pss_one (ps_if (PW.pt (pw_and (pt_cmpR op_eq (pe_ix ix_list (pv 2) pe_int (fun _ _ => rfl)) pe_str (nomark _)) (pw_and1 (pt_cmp (pc_dnotin hu (pe_ix ix_list (pv 2) pe_int (fun _ _ => rfl)) (pv 1)))))) (pss_one (ps_ret (pe_tup (pa_cons pe_str (pa_cons (pe_ix ix_list (pv 2) pe_int (fun _ _ => rfl)) pa_nil))))) pss_nil)))
  (pss_cons (ps_for PassesOwn.never rfl (pi_list (pv 0)) (pg_name (i := 2) scDue.nd rfl (Or.inl rfl) (Or.inl rfl)) (pss_one (ps_if (pt_cmpR op_eq (pe_ix ix_list (pv 2) pe_int (fun _ _ => rfl)) pe_str (nomark _)) (pss_cons (ps_set (i := 3) scDue.nd rfl (Or.inl rfl) (pe_fn cl_room (hr.mono (by decide)) (pa_cons (pv 0) (pa_cons (pv 1) (pa_cons (pv 2) pa_nil)))))
  (pss_one (ps_if (pt_cmpR op_notN (pv 3) pe_non (nomark _)) (pss_one (ps_ret (pe_tup (pa_cons pe_str (pa_cons (pe_ix ix_list (pv 2) pe_int (fun _ _ => rfl)) (pa_cons (pv 3) pa_nil)))))) pss_nil))) pss_nil)))
  (pss_cons (ps_for PassesOwn.never rfl (pi_list (pv 0)) (pg_name (i := 2) scDue.nd rfl (Or.inl rfl) (Or.inl rfl)) (pss_one (ps_if (pt_cmpR op_eq (pe_ix ix_list (pv 2) pe_int (fun _ _ => rfl)) pe_str (nomark _)) (pss_cons (ps_set (i := 3) scDue.nd rfl (Or.inl rfl) (pe_fn cl_store (hr.mono (by decide)) (pa_cons (pv 0) (pa_cons (pv 1) (pa_cons (pv 2) pa_nil)))))
  (pss_one (ps_if (pt_cmpR op_notN (pv 3) pe_non (nomark _)) (pss_one (ps_ret (pe_tup (pa_cons pe_str (pa_cons (pe_ix ix_list (pv 2) pe_int (fun _ _ => rfl)) (pa_cons (pv 3) pa_nil)))))) pss_nil))) pss_nil)))
  (pss_cons (ps_for PassesOwn.never rfl (pi_list (pv 0)) (pg_name (i := 2) scDue.nd rfl (Or.inl rfl) (Or.inl rfl)) (pss_one (ps_if (pt_cmpR op_eq (pe_ix ix_list (pv 2) pe_int (fun _ _ => rfl)) pe_str (nomark _)) (pss_cons (ps_asg (pe_dget hu (pv 1) (pe_ix ix_list (pv 2) pe_int (fun _ _ => rfl)) (fun _ _ => rfl)) (pg_pair (K := K) (i := 4) (j := 5) rfl rfl scDue.nd rfl rfl rfl rfl))
  (pss_one (ps_if (pt_cmpR op_lt (pe_op op_sub (pe_op op_sub (pe_ix ix_tup (pe_dget hu (pv 1) (pe_ix ix_list (pv 2) pe_int (fun _ _ => rfl)) (fun _ _ => rfl)) pe_int (fun _ _ => rfl)) (pv 5)) (pe_fn cl_length (hr.mono (by decide)) (pa_cons (pv 0) (pa_cons (pe_ix ix_list (pv 2) pe_int (fun _ _ => rfl)) (pa_cons (pv 4) pa_nil))))) (pe_ix ix_list (pv 2) pe_int (fun _ _ => rfl)) (nomark _)) (pss_one (ps_ret (pe_tup (pa_cons pe_str (pa_cons (pe_ix ix_list (pv 2) pe_int (fun _ _ => rfl)) (pa_cons (pe_ix ix_list (pv 2) pe_int (fun _ _ => rfl)) pa_nil)))))) pss_nil))) pss_nil)))
  (pss_one (ps_ret pe_non)))))), ?_⟩
 refine seq_let5 ?_
 intro rT5 rT4 rT3 rT2
 have hz : (20000 : Nat) < sizeLine := by decide
 have lu := hB.length
 have bl := bk.wb.len
 have n1 := bk.n1
 have n12 := bk.n12
 have nd := hpf.nd bk.wb
 obtain ⟨kvs, hPk, hPp⟩ := id hP
 let Pv22 : Nat → St → Hp → Prop := fun i σ H1 => ∃ v2 : Option V, σ = [some (.ref d), some (.ref P), v2, none, none, none] ∧ (B.take i).flatMap (gW pl) = [] ∧ Same H H1
 refine ⟨_, rfl, d, rfl, ⟨_, sqL_new hd⟩, for_list (K := K) (a := d) (xs := us) Pv22 ⟨none, rfl, rfl, Same.refl _⟩ (fun i σ H1 _ h => ?_) ?_ ?_⟩
 ·obtain ⟨v2, rfl, h0, s1⟩ := h
  exact s1.seq (sqL_new hd)
 ·rintro i x σ H1 e1 ⟨v2, rfl, h0, s1⟩
  obtain ⟨r, lr, er, rfl, hr⟩ := (hB.same s1).get e1
  refine ⟨_, rfl, lr, _, _, _, rfl, rfl, sqL_new hr, at_word r, rfl, _, rfl, ite2 (fun y => ?_) (fun y => iteF ⟨_, rfl, by rw [fm_next _ er, h0, gW_no (fun e => y (by rw [e]; exact yesS _))]; rfl, s1⟩)⟩
  obtain ⟨w, rfl⟩ := word_work (eqS y)
  have a1 : atI ((BR.work w).cells.map kV) 1 = some (.str w) := rfl
  have hk := plan_some (w := w) hPp
  have egW : gW pl (.work w) = if hasK pl w = true then [] else [[Sum.inr ("work" : Str), Sum.inr w]] := rfl
  refine ⟨_, rfl, lr, _, _, _, rfl, rfl, sqL_new hr, a1, _, rfl, P, _, rfl, DGet.k (k := Sum.inr w) (s1 _ _ hPk), _, rfl, ite2 (fun y2 => ?_) (fun y2 => ?_)⟩
  ·rw [hk] at y2
   have hno : ¬ hasK pl w = true := fun z => by rw [z] at y2; cases y2
   rw [if_neg hno] at egW
   refine ⟨_, rfl, lr, _, _, _, rfl, rfl, sqL_new hr, a1, by show 2 ≤ sizeLine; decide, fun T hT => q _ _ (s1.trans (same_new' hT _)) ?_⟩
   unfold dueF
   rw [fm_head er h0 egW]
   exact ⟨T, rfl, upd_same⟩
  ·rw [hk] at y2
   have hyes : hasK pl w = true := by
    cases e : hasK pl w with
    | true => rfl
    | false => rw [e] at y2; exact absurd rfl y2
   rw [if_pos hyes] at egW
   exact ⟨_, rfl, by rw [fm_next _ er, h0, egW]; rfl, s1⟩
 rintro σ H0 ⟨v2, rfl, hW, s0⟩
 rw [lu, List.take_length] at hW
 have eD : dueF n B pl = (B.flatMap (gR n B pl) ++ (B.flatMap (gS n B pl) ++ B.flatMap (gA B pl))).head? := by
  unfold dueF
  rw [hW]; rfl
 have hd0 := s0 _ _ hd
 have hB0 := hB.same s0
 have hP0 := PlanAt.same hP s0
 let Pv23 : Nat → St → Hp → Prop := fun i σ H1 => ∃ v2 v3 : Option V, σ = [some (.ref d), some (.ref P), v2, v3, none, none] ∧ (B.take i).flatMap (gR n B pl) = [] ∧ Same H0 H1
 refine ⟨_, rfl, d, rfl, ⟨_, sqL_new hd0⟩, for_list (K := K) (a := d) (xs := us) Pv23 ⟨_, none, rfl, rfl, Same.refl _⟩ (fun i σ H1 _ h => ?_) ?_ ?_⟩
 ·obtain ⟨v2, v3, rfl, h0, s1⟩ := h
  exact s1.seq (sqL_new hd0)
 ·rintro i x σ H1 e1 ⟨v2, v3, rfl, h0, s1⟩
  obtain ⟨r, lr, er, rfl, hr⟩ := (hB0.same s1).get e1
  refine ⟨_, rfl, lr, _, _, _, rfl, rfl, sqL_new hr, at_word r, rfl, _, rfl, ite2 (fun y => ?_) (fun y => ⟨_, _, rfl, by rw [fm_next _ er, h0, gR_no (fun e => y (by rw [e]; exact yesS _))]; rfl, s1⟩)⟩
  obtain ⟨b, c, rfl⟩ := word_bench (eqS y)
  refine ⟨_, rfl, _, rfl, _, rfl, d, P, lr, n, us, B, pl, b, c, rfl, s1 _ _ hd0, hB0.same s1, bk, PlanAt.same hP0 s1, hpf.good, hr, fun v H2 s2 hday => ?_⟩
  have eg : gR n B pl (.bench b c) = (daysOf (fun day => roomR B pl b c day < 0) n.toNat).map fun d : Nat => [Sum.inr ("room" : Str), Sum.inr b, Sum.inl (d : Int)] := rfl
  rcases days_head hday with ⟨rfl, e5⟩ | ⟨dd, rest, rfl, e5⟩
  ·refine ⟨_, rfl, rfl, _, rfl, ite2 (fun y2 => absurd y2 (by simp)) (fun y2 => ⟨_, _, rfl, by rw [fm_next _ er, h0, eg, e5]; rfl, s1.trans s2⟩)⟩
  ·refine ⟨_, rfl, rfl, _, rfl, ite2 (fun y2 => ?_) (fun y2 => absurd (by simp) y2)⟩
   rw [e5, List.map_cons] at eg
   refine ⟨_, rfl, lr, _, _, _, rfl, rfl, sqL_new (s2 _ _ hr), (show atI ((BR.bench b c).cells.map kV) 1 = some (.str b) from rfl), _, rfl, by show 3 ≤ sizeLine; decide, fun T hT => q _ _ (((s0.trans s1).trans s2).trans (same_new' hT _)) ?_⟩
   rw [eD, fm_head er h0 eg]
   exact ⟨T, rfl, upd_same⟩
 rintro σ H1 ⟨v2, v3, rfl, hR, s1⟩
 rw [lu, List.take_length] at hR
 rw [hR] at eD
 have s01 := s0.trans s1
 clear s0 s1 hd0 hB0 hP0
 have hd0 := s01 _ _ hd
 have hB0 := hB.same s01
 have hP0 := PlanAt.same hP s01
 let Pv24 : Nat → St → Hp → Prop := fun i σ H2 => ∃ v2 v3 : Option V, σ = [some (.ref d), some (.ref P), v2, v3, none, none] ∧ (B.take i).flatMap (gS n B pl) = [] ∧ Same H1 H2
 refine ⟨_, rfl, d, rfl, ⟨_, sqL_new hd0⟩, for_list (K := K) (a := d) (xs := us) Pv24 ⟨_, _, rfl, rfl, Same.refl _⟩ (fun i σ H2 _ h => ?_) ?_ ?_⟩
 ·obtain ⟨v2, v3, rfl, h0, s1⟩ := h
  exact s1.seq (sqL_new hd0)
 ·rintro i x σ H2 e1 ⟨v2, v3, rfl, h0, s1⟩
  obtain ⟨r, lr, er, rfl, hr⟩ := (hB0.same s1).get e1
  refine ⟨_, rfl, lr, _, _, _, rfl, rfl, sqL_new hr, at_word r, rfl, _, rfl, ite2 (fun y => ?_) (fun y => ⟨_, _, rfl, by rw [fm_next _ er, h0, gS_no (fun e => y (by rw [e]; exact yesS _))]; rfl, s1⟩)⟩
  obtain ⟨st, mo, fi, rfl⟩ := word_store (eqS y)
  refine ⟨_, rfl, _, rfl, _, rfl, d, P, lr, n, us, B, pl, st, mo, fi, rfl, s1 _ _ hd0, hB0.same s1, bk, PlanAt.same hP0 s1, hpf.good, hr, fun v H3 s3 hday => ?_⟩
  have eg : gS n B pl (.store st mo fi) = (daysOf (fun day => storeR B pl st fi day.toNat < 0 ∨ mo < storeR B pl st fi day.toNat) (n.toNat + 1)).map fun d : Nat => [Sum.inr ("store" : Str), Sum.inr st, Sum.inl (d : Int)] := rfl
  rcases days_head hday with ⟨rfl, e5⟩ | ⟨dd, rest, rfl, e5⟩
  ·refine ⟨_, rfl, rfl, _, rfl, ite2 (fun y2 => absurd y2 (by simp)) (fun y2 => ⟨_, _, rfl, by rw [fm_next _ er, h0, eg, e5]; rfl, s1.trans s3⟩)⟩
  ·refine ⟨_, rfl, rfl, _, rfl, ite2 (fun y2 => ?_) (fun y2 => absurd (by simp) y2)⟩
   rw [e5, List.map_cons] at eg
   refine ⟨_, rfl, lr, _, _, _, rfl, rfl, sqL_new (s3 _ _ hr), (show atI ((BR.store st mo fi).cells.map kV) 1 = some (.str st) from rfl), _, rfl, by show 3 ≤ sizeLine; decide, fun T hT => q _ _ (((s01.trans s1).trans s3).trans (same_new' hT _)) ?_⟩
   rw [eD, List.nil_append, fm_head er h0 eg]
   exact ⟨T, rfl, upd_same⟩
 rintro σ H2 ⟨v2, v3, rfl, hS, s2⟩
 rw [lu, List.take_length] at hS
 rw [hS, List.nil_append, List.nil_append] at eD
 have s02 := s01.trans s2
 clear s01 s2 hd0 hB0 hP0
 have hd0 := s02 _ _ hd
 have hB0 := hB.same s02
 have hP0 := PlanAt.same hP s02
 let Pv25 : Nat → St → Hp → Prop := fun i σ H3 => ∃ v2 v4 v5 : Option V, σ = [some (.ref d), some (.ref P), v2, v3, v4, v5] ∧ (B.take i).flatMap (gA B pl) = [] ∧ Same H2 H3
 refine ⟨_, rfl, d, rfl, ⟨_, sqL_new hd0⟩, for_list (K := K) (a := d) (xs := us) Pv25 ⟨_, none, none, rfl, rfl, Same.refl _⟩ (fun i σ H3 _ h => ?_) ?_ ?_⟩
 ·obtain ⟨v2, v4, v5, rfl, h0, s1⟩ := h
  exact s1.seq (sqL_new hd0)
 ·rintro i x σ H3 e1 ⟨v2, v4, v5, rfl, h0, s1⟩
  obtain ⟨r, lr, er, rfl, hr⟩ := (hB0.same s1).get e1
  have hrB := List.mem_of_getElem? er
  refine ⟨_, rfl, lr, _, _, _, rfl, rfl, sqL_new hr, at_word r, rfl, _, rfl, ite2 (fun y => ?_) (fun y => ⟨_, _, _, rfl, by rw [fm_next _ er, h0, gA_no (fun e => y (by rw [e]; exact yesS _))]; rfl, s1⟩)⟩
  obtain ⟨w, x, g, rfl⟩ := word_after (eqS y)
  have c1 : atI ((BR.after w x g).cells.map kV) 1 = some (.str w) := rfl
  have c2 : atI ((BR.after w x g).cells.map kV) 2 = some (.str x) := rfl
  have c3 : atI ((BR.after w x g).cells.map kV) 3 = some (.int g) := rfl
  have hw : BR.work w ∈ B := bk.wb.ref _ hrB w List.mem_cons_self
  have hx : BR.work x ∈ B := bk.wb.ref _ hrB x (List.mem_cons_of_mem _ List.mem_cons_self)
  obtain ⟨l, c, hm, hway, b0, b1⟩ := hpf.get bk.wb (hasK_of_gW hW hw)
  obtain ⟨l', c', hm', hway', b0', b1'⟩ := hpf.get bk.wb (hasK_of_gW hW hx)
  obtain ⟨t, dg, hT⟩ := plan_get (PlanAt.same hP0 s1) nd hm
  obtain ⟨t', dg', hT'⟩ := plan_get (PlanAt.same hP0 s1) nd hm'
  refine ⟨_, rfl, _, rfl, lr, _, _, _, rfl, rfl, sqL_new hr, c1, P, _, rfl, dg, t, _, rfl, hT, rfl, _, _, rfl, _, _, rfl, rfl, ?_⟩
  refine ⟨_, rfl, _, rfl, lr, _, _, _, rfl, rfl, sqL_new hr, c2, P, _, rfl, dg', t', _, _, _, rfl, rfl, hT', at1, _, rfl, _, _, rfl, rfl, _, rfl, _, rfl, lr, _, _, _, rfl, rfl, sqL_new hr, c1, _, rfl, d, w, _, n, us, B, l, c, rfl, s1 _ _ hd0, hB0.same s1, bk.wb, hway, fun H4 s4 => ⟨_, _, rfl, rfl, ?_⟩⟩
  have hr4 := s4 _ _ hr
  have hlen := lenB_of bk.wb hway
  have eg : gA B pl (.after w x g) = if (look pl x).2 - (look pl w).2 - lenB B w (look pl w).1 < g then [[Sum.inr ("after" : Str), Sum.inr w, Sum.inr x]] else [] := rfl
  rw [hlen] at eg
  refine ⟨_, rfl, lr, _, _, _, rfl, rfl, sqL_new hr4, c3, _, _, rfl, rfl, _, rfl, ite2 (fun y2 => ?_) (fun y2 => ?_)⟩
  ·rw [if_pos (of_decide_eq_true y2)] at eg
   refine ⟨_, rfl, lr, _, _, _, rfl, rfl, sqL_new hr4, c1, _, rfl, lr, _, _, _, rfl, rfl, sqL_new hr4, c2, by show 3 ≤ sizeLine; decide, fun T hT => q _ _ (((s02.trans s1).trans s4).trans (same_new' hT _)) ?_⟩
   have := fm_head er h0 eg []
   rw [List.append_nil] at this
   rw [eD, this]
   exact ⟨T, rfl, upd_same⟩
  ·rw [if_neg (fun z => y2 (decide_eq_true z))] at eg
   exact ⟨_, _, _, rfl, by rw [fm_next _ er, h0, eg]; rfl, s1.trans s4⟩
 rintro σ H3 ⟨v2, v4, v5, rfl, hA, s3⟩
 rw [lu, List.take_length] at hA
 rw [hA] at eD
 refine q _ _ (s02.trans s3) ?_
 rw [eD]
 exact rfl
end
end Nb
namespace L2
open PySem PySem.Spec PyProof.Rows PySem.SeqAt
section
variable {X : Cx}
inductive Cop_neTK (KX : Fg) (x : V) (y : V) (H : Hp) (Q : VK) : Prop
 | mk (a b : Addr) (ks : List Key) (h1 : x = .ref a) (h2 : y = .ref b) (h3 : SqT KX H a (ks.map kV)) (h4 : SqT KX H b (ks.map kV)) (h5 : Q (.bl false) H)
theorem op_neTK {n : Nat} (hu : X.A.units + n < cLine) : OpR X (compareOp .NotEq) (fun x y H Q => Cop_neTK X.K x y H Q) := by
 intro pins s σ H x y v u Q I rx ry h
 obtain ⟨a, b, ks, rfl, rfl, h1, h2, q⟩ := h
 cases rx
 cases ry
 obtain ⟨its, r, pt, _⟩ := I.tuple h1
 obtain ⟨its', r', pt', _⟩ := I.tuple h2
 have l1 := r.length
 have l2 := r'.length
 have key := keys_at (A := X.A.in1) (s := s) r r'
 have := RcNeAt.tuples pt pt' (by lia) key
 have e : ((List.range (min its.toArray.size its'.toArray.size)).all (fun j => decide (ks[j]? = ks[j]?)) && its.toArray.size == its'.toArray.size) = true := by
  rw [Bool.and_eq_true, allRange, List.size_toArray, List.size_toArray, beq_iff_eq]
  exact ⟨fun i _ => decide_eq_true rfl, by lia⟩
 rw [e] at this
 exact this _ _ _ _ ⟨.bl false, H, I, rfl, q⟩
end
end L2
namespace Nb
open PySem L2
abbrev sRight : Stmt := top 35
def DueOk : Option (List Key) → Prop
 | none => True
 | some ks => ∃ (a : Str) (rest : List Key), ks = Sum.inr a :: rest ∧ ((a = "room" ∨ a = "store") → ∃ (b : Key) (z : Int), rest = [b, Sum.inl z])
theorem due_ok (n : Int) (B : List BR) (pl : List (Str × Str × Int)) : DueOk (dueF n B pl) := by
 unfold dueF
 cases e : (B.flatMap (gW pl) ++ (B.flatMap (gR n B pl) ++ (B.flatMap (gS n B pl) ++ B.flatMap (gA B pl)))) with
 | nil => exact True.intro
 | cons ks C =>
  have hm : ks ∈ B.flatMap (gW pl) ++ (B.flatMap (gR n B pl) ++ (B.flatMap (gS n B pl) ++ B.flatMap (gA B pl))) := by rw [e]; exact List.mem_cons_self
  rcases List.mem_append.mp hm with h | h
  ·obtain ⟨r, _, h1⟩ := List.mem_flatMap.mp h
   cases r with
   | work w =>
    have h2 : ks ∈ (if hasK pl w = true then [] else [[(Sum.inr ("work" : Str) : Key), Sum.inr w]]) := h1
    split at h2
    ·exact nomatch h2
    ·rw [List.mem_singleton.mp h2]
     exact ⟨"work", _, rfl, fun z => absurd z (by decide +kernel)⟩
   | _ => exact nomatch h1
  ·rcases List.mem_append.mp h with h | h
   ·obtain ⟨r, _, h1⟩ := List.mem_flatMap.mp h
    cases r with
    | bench b r =>
     obtain ⟨d, _, rfl⟩ := List.mem_map.mp h1
     exact ⟨"room", _, rfl, fun _ => ⟨_, _, rfl⟩⟩
    | _ => exact nomatch h1
   ·rcases List.mem_append.mp h with h | h
    ·obtain ⟨r, _, h1⟩ := List.mem_flatMap.mp h
     cases r with
     | store st mo fi =>
      obtain ⟨d, _, rfl⟩ := List.mem_map.mp h1
      exact ⟨"store", _, rfl, fun _ => ⟨_, _, rfl⟩⟩
     | _ => exact nomatch h1
    ·obtain ⟨r, _, h1⟩ := List.mem_flatMap.mp h
     cases r with
     | after w x g =>
      have h2 : ks ∈ (if (look pl x).2 - (look pl w).2 - lenB B w (look pl w).1 < g then [[(Sum.inr ("after" : Str) : Key), Sum.inr w, Sum.inr x]] else []) := h1
      split at h2
      ·rw [List.mem_singleton.mp h2]
       exact ⟨"after", _, rfl, fun z => absurd z (by decide +kernel)⟩
      ·exact nomatch h2
     | _ => exact nomatch h1
theorem DueIs.same {H H' : Hp} {o : Option (List Key)} {v : V} (h : DueIs H o v) (s : Same H H') : DueIs H' o v := by
 cases o with
 | none => exact h
 | some ks => obtain ⟨T, e, z⟩ := h; exact ⟨T, e, s _ _ z⟩
inductive IspRight (vs : List V) (H : Hp) (Q : VK) : Prop
 | mk (f g : V) (o : Option (List Key)) (h1 : vs = [f, g]) (h2 : DueIs H o f) (h3 : DueIs H o g) (h4 : DueOk o) (h5 : ∀ H', Same H H' → Q (.bl true) H')
def spRight (_ : Fg) : Sp := fun vs H Q _ => IspRight vs H Q
section
variable {P : Program} {w : World} {K : Fg} {mg : Str → Option Value} {base : Heap}
theorem scRight : FnScope ["_law_found", "_law_due_here"] ["_law_found", "_law_due_here"] (defScope sRight) := ⟨rfl, rfl, rfl, by decide +kernel, rfl, by decide +kernel, by decide +kernel⟩
theorem okRight (F : Fn K mg "_law_right" sRight) (M : Mg mg) (cl_whole : Cal P w K mg base 1 "_law_whole" ["_law_found"] (spWhole)) : Cal P w K mg base 2 "_law_right" ["_law_found", "_law_due_here"] (spRight K) := by
 refine cal_of F scRight (fun _ _ _ _ _ _ => bind2 (fun _ _ => rfl)) (fun vs H Q E h => ?_) (fun f cdv A outer s H vs Q E hr h => ?_)
 ·obtain ⟨ff, gg, o, rfl, _⟩ := h
  rfl
 obtain ⟨ff, gg, o, rfl, h1, h2, hk, q⟩ := h
 have hu6 : (A.deeper (PyProof.Rows.envOfC "_law_right" (defScope sRight) s.heap.objs.size f cdv)).units + 6 < cLine := Nat.lt_of_le_of_lt (Nat.add_le_add_left (by decide) _) hr.un
 refine ⟨_, (pss_cons (ps_if (pt_cmpR op_isN (pv 1) pe_non (nomark _)) (pss_one (ps_ret (pe_cmpR op_isN (pv 0) pe_non (nomark _)))) pss_nil)
  (pss_cons (ps_if (PW.pt (pw_or (pt_not (pt_val (pe_callB call_isi rfl M.isinstance bt_isinstance (pa_cons (pv 0) (pa_cons (pe_ty M.tuple_ bt_tuple) pa_nil))))) (pw_or1 (pt_cmpR (op_neTK (n := 6) hu6) (pv 0) (pv 1) (nomark _))))) (pss_one (ps_ret pe_bl)) pss_nil)
  (pss_one (ps_ret (pe_or (pe_cmpR op_notIn_seq (pe_ix ix_tup (pv 0) pe_int (fun _ _ => rfl)) (pe_lst (pa_cons pe_str (pa_cons pe_str pa_nil))) rfl) (pe_one (pe_fn cl_whole (hr.mono (by decide)) (pa_cons (pe_ix ix_tup (pv 0) pe_int (fun _ _ => rfl)) pa_nil)))))))), ?_⟩
 refine seq_let3 ?_
 intro rT3 rT2
 cases o with
 | none =>
  have e1 : ff = .non := h1
  have e2 : gg = .non := h2
  subst e1 e2
  refine ⟨_, rfl, rfl, _, rfl, ite2 (fun y => ⟨_, rfl, rfl, ?_⟩) (fun y => absurd (decide_eq_true rfl) y)⟩
  rw [show decide (V.non = V.non) = true from decide_eq_true rfl]
  exact q H (Same.refl _)
 | some ks =>
  obtain ⟨T1, rfl, hT1⟩ := h1
  obtain ⟨T2, rfl, hT2⟩ := h2
  obtain ⟨a, rest, rfl, hr2⟩ := hk
  refine ⟨_, rfl, rfl, _, rfl, ite2 (fun y => absurd (of_decide_eq_true y) (by intro z; cases z)) (fun y => ?_)⟩
  refine ⟨_, rfl, _, "tuple", true, rfl, ⟨⟨_, sqT_new hT1⟩, .inl ⟨rfl, rfl⟩⟩, true, rfl, iteF ⟨_, rfl, _, rfl, T1, T2, _, rfl, rfl, sqT_new hT1, sqT_new hT2, _, rfl, iteF ?_⟩⟩
  refine ⟨_, rfl, T1, _, _, _, rfl, rfl, sqT_new hT1, (show atI (((Sum.inr a : Key) :: rest).map kV) 0 = some (.str a) from atNat (k := 0) rfl), by show 2 ≤ sizeLine; decide, fun p hp => ?_⟩
  have s1 := same_new' hp (.lst [.str "room", .str "store"])
  refine ⟨p, _, rfl, .inl (sqL_new upd_same), rfl, rfl, _, rfl, ite2 (fun y2 => q _ s1) (fun y2 => ?_)⟩
  have hin : a = "room" ∨ a = "store" := by
   by_cases ea : a = "room"
   ·exact .inl ea
   ·by_cases eb : a = "store"
    ·exact .inr eb
    ·exfalso
     refine y2 ?_
     have ea' : (("room" : Str) == a) = false := beq_eq_false_iff_ne.mpr fun z => ea z.symm
     have eb' : (("store" : Str) == a) = false := beq_eq_false_iff_ne.mpr fun z => eb z.symm
     show (!((("room" : Str) == a) || ((("store" : Str) == a) || false))) = true
     rw [ea', eb']
     rfl
  obtain ⟨b, z, rfl⟩ := hr2 hin
  exact ⟨_, rfl, T1, _, _, _, rfl, rfl, sqT_new (s1 _ _ hT1), (show atI [V.str a, kV b, V.int z] 2 = some (.int z) from rfl), z, rfl, q _ s1⟩
end
abbrev sLaw : Stmt := top 36
def spBroken (K : Fg) : Sp := spDue K
section
variable {P : Program} {w : World} {K : Fg} {mg : Str → Option Value} {base : Heap}
theorem scLaw : FnScope ["_law_script", "_law_book_here", "_law_k", "_law_plan_here", "_law_handed"] ["_law_script"] (defScope sLaw) := ⟨rfl, rfl, rfl, by decide +kernel, rfl, by decide +kernel, by decide +kernel⟩
theorem okLaw {f : Addr} {fd : FuncData} (F : Fun K "law" "law" sLaw f fd) (M : Mg mg) (cl_book : Cal P w K mg base 5 "_law_book" ["_law_script"] (spBook K)) (cl_plan : Cal P w K mg base 3 "_law_plan" ["_law_script", "_law_start", "_law_book_here"] (spPlan K)) (c_broken : Cal P w K mg base 5 "broken" ["book", "plan"] (spBroken K)) (cl_due : Cal P w K mg base 4 "_law_due" ["_law_book_here", "_law_plan_here"] (spDue K)) (cl_right : Cal P w K mg base 2 "_law_right" ["_law_found", "_law_due_here"] (spRight K)) : FnOk P w K mg base CX0 6 f fd ["_law_script"] (spLaw K) := by
 refine F.ok scLaw (fun vs H Q E h => ?_) (fun cdv A outer s H vs Q E hr h => ?_)
 ·obtain ⟨a, ns, rfl, _⟩ := h
  rfl
 obtain ⟨a, ns, rfl, hS, h63, q⟩ := h
 have hu6 : (A.deeper (PyProof.Rows.envOfC "law" (defScope sLaw) s.heap.objs.size f cdv)).units + 6 < cLine := Nat.lt_of_le_of_lt (Nat.add_le_add_left (by decide) _) hr.un
 refine ⟨_, (pss_cons (ps_set (i := 1) scLaw.nd rfl (Or.inl rfl) (pe_fn cl_book (hr.mono (by decide)) (pa_cons (pv 0) pa_nil)))
  (pss_cons (ps_for PassesOwn.never rfl (pi_range1 rfl M.range_ (pa_cons (pe_callB (call_max2 rfl) rfl M.max bt_max (pa_cons pe_int (pa_cons (pe_callB (call_min2 rfl) rfl M.min bt_min (pa_cons pe_int (pa_cons (pe_callB call_len_seq rfl M.len bt_len (pa_cons (pv 0) pa_nil)) pa_nil))) pa_nil))) pa_nil)) (pg_name (i := 2) scLaw.nd rfl (Or.inl rfl) (Or.inl rfl)) (pss_cons (ps_set (i := 3) scLaw.nd rfl (Or.inl rfl) (pe_fn cl_plan (hr.mono (by decide)) (pa_cons (pv 0) (pa_cons (pe_op op_add pe_int (pe_op op_mul pe_int (pv 2))) (pa_cons (pv 1) pa_nil)))))
  (pss_cons (ps_set (i := 4) scLaw.nd rfl (Or.inl rfl) (pe_lst (pa_cons (pe_lc ["_law_row"] [none] rfl (pi_list (pv 1)) (fun _ _ _ => (pg_name (i := 0) (show (["_law_row"] : List Str).Nodup by decide +kernel) rfl (Or.inl rfl) (Or.inr rfl))) (fun _ _ _ => pf_nil) (fun _ _ _ => (pe_callTy (call_list_ofK (K := K) rfl) rfl M.list_ bt_list (pa_cons (pv 0) pa_nil)))) (pa_cons (pe_callTy call_dictD rfl M.dict_ bt_dict (pa_cons (pv 3) pa_nil)) pa_nil))))
  (pss_one (ps_if (PW.pt (pw_or (pt_not (pt_val (pe_fn cl_right (hr.mono (by decide)) (pa_cons (pe_fn c_broken (hr.mono (by decide)) (pa_cons (pe_ix ix_list (pv 4) pe_int (fun _ _ => rfl)) (pa_cons (pe_ix ix_list (pv 4) pe_int (fun _ _ => rfl)) pa_nil))) (pa_cons (pe_fn cl_due (hr.mono (by decide)) (pa_cons (pv 1) (pa_cons (pv 3) pa_nil))) pa_nil))))) (pw_or1 (pt_cmpR (op_neBP (n := 6) (by decide) hu6) (pv 4) (pe_lst (pa_cons (pv 1) (pa_cons (pv 3) pa_nil))) (nomark _))))) (pss_one (ps_ret pe_bl)) pss_nil)))))
  (pss_one (ps_ret pe_bl)))), ?_⟩
 refine seq_let3 ?_
 intro rT3 rT2
 have hz : (20000 : Nat) < sizeLine := by decide
 refine ⟨_, rfl, a, ns, rfl, hS, fun g2 us n D0 H2 s12 hd hB2 bk => ?_⟩
 have lu := hB2.length
 have bl := bk.wb.len
 refine ⟨_, rfl, a, _, rfl, .inl (s12.seq hS), _, _, rfl, _, _, rfl, ?_⟩
 obtain ⟨M9, eM⟩ : ∃ M9 : Int, (if (if ((((ns.map V.int).length : Nat)) : Int) < 8 then ((((ns.map V.int).length : Nat)) : Int) else 8) > 1 then (if ((((ns.map V.int).length : Nat)) : Int) < 8 then ((((ns.map V.int).length : Nat)) : Int) else 8) else 1) = M9 := ⟨_, rfl⟩
 have hM : 0 ≤ M9 ∧ M9 ≤ 8 := by
  rw [← eM]
  split
  ·split <;> lia
  ·lia
 rw [eM]
 let Pv26 : Nat → St → Hp → Prop := fun i σ H3 => ∃ v2 v3 v4 : Option V, σ = [some (.ref a), some (.ref g2), v2, v3, v4] ∧ Same H2 H3
 refine ⟨M9, rfl, by lia, by lia, for_range (lo := 0) (n := M9.toNat) Pv26 ⟨none, none, none, rfl, Same.refl _⟩ ?_ ?_⟩
 ·rintro i σ H3 hi ⟨v2, v3, v4, rfl, s3⟩
  refine seq_let3 ?_
  intro rB3 rB2
  have hi' : i < 8 := by lia
  have hd3 := s3 _ _ hd
  have hB3 := hB2.same s3
  refine ⟨_, rfl, _, rfl, _, _, rfl, rfl, mulC _ _ (by decide) (by decide), _, _, rfl, rfl, _, rfl, a, g2, ns, _, n, us, D0, rfl, (s12.trans s3).seq hS, by lia, by lia, hd3, hB3, bk, fun P pl H4 s4 fP hP hpf => ?_⟩
  have hd4 := s4 _ _ hd3
  have hB4 := hB3.same s4
  refine ⟨_, rfl, g2, rfl, ⟨_, sqL_new hd4⟩, fun D hD => ?_⟩
  let Pv27 : Nat → St → List V → Hp → Prop := fun m τ ys H5 => ∃ v : Option V, τ = [v] ∧ RowsB H5 ys (D0.take m) ∧ ys.length ≤ m ∧ H5 D = some (.lst ys) ∧ Same H4 H5
  refine lc_any (n := D0.length) Pv27 ?_ (fun m τ ys H5 hm h => ?_) (fun m τ ys H5 hm h => ?_) (fun τ ys H5 h => ?_) ?_ ?_
  ·exact ⟨none, rfl, .nil, Nat.le_refl _, upd_same, same_new' hD _⟩
  ·obtain ⟨v, rfl, hY, hl, hE, s5⟩ := h
   exact ⟨hE, by lia⟩
  ·obtain ⟨v, rfl, hY, hl, hE, s5⟩ := h
   exact ⟨us, us[m]'(by lia), s5.seq (sqL_new hd4), gE (by lia)⟩
  ·obtain ⟨v, rfl, hY, hl, hE, s5⟩ := h
   exact ⟨us, s5.seq (sqL_new hd4), by lia⟩
  ·rintro m τ ys H5 x H6 hm ⟨v, rfl, hY, hl, hE, s5⟩ ⟨rfl, e1⟩
   obtain ⟨r, lr, er, rfl, hr⟩ := (hB4.same s5).get (e1 _ (s5.seq (sqL_new hd4)))
   refine ⟨_, rfl, lr, _, rfl, .inl (sqL_new hr), fun l6 hl6 => ?_⟩
   have s6 := same_new' hl6 (.lst (r.cells.map kV))
   have hE6 := s6 _ _ hE
   refine ⟨hE6, _, rfl, ?_, by rw [List.length_append]; exact Nat.succ_le_succ hl, upd_same, fun b o e => ?_⟩
   ·rw [takeS er]
    exact ((hY.same s6).snoc upd_same).updL hE6 hY.noRow
   ·rw [upd_ne (ne_of_none e hD)]; exact s6 _ _ (s5 _ _ e)
  ·rintro τ ys H5 ⟨v, rfl, hY, hl, hE, s5⟩
   rw [List.take_length] at hY
   obtain ⟨kvs, hPk, hPp⟩ := PlanAt.same hP s5
   have lk : kvs.length ≤ 400 := by
    have h5 := Paired.length hPp
    have h6 := congrArg List.length hpf.keys
    rw [List.length_map, List.length_reverse] at h6
    have h7 : (wks D0).length ≤ D0.length := List.length_filterMap_le _ _
    have h8 := List.length_filter_le (hasW D0) (wks D0)
    lia
   refine ⟨_, rfl, P, kvs, rfl, hPk, by lia, fun P2 hP2 => ?_⟩
   have s6 := same_new' hP2 (.dK kvs)
   have hP6 : PlanAt K (upd H5 P2 (.dK kvs)) P2 pl := ⟨kvs, upd_same, Paired.mapP hPp fun _ _ ⟨e, t, e2, z⟩ => ⟨e, t, e2, s6.tup z⟩⟩
   generalize upd H5 P2 (.dK kvs) = H6 at s6 hP6 ⊢
   refine ⟨by show 2 ≤ sizeLine; decide, fun hd' hhd => ?_⟩
   have s7 := same_new' hhd (.lst [.ref D, .ref P2])
   have hhd7 : upd H6 hd' (.lst [.ref D, .ref P2]) hd' = some (.lst [.ref D, .ref P2]) := upd_same
   generalize upd H6 hd' (.lst [.ref D, .ref P2]) = H7 at s7 hhd7 ⊢
   have s67 := s6.trans s7
   have s47 := s5.trans s67
   refine ⟨_, rfl, hd', _, _, _, rfl, rfl, sqL_new hhd7, at0, _, rfl, hd', _, _, _, rfl, rfl, sqL_new hhd7, at1, D, P2, n, ys, D0, pl, rfl, s67 _ _ hE, hY.same s67, bk, PlanAt.same hP6 s7, hpf, fun v8 H8 s8 hv8 => ?_⟩
   have s48 := s47.trans s8
   refine ⟨_, rfl, _, rfl, g2, P, n, us, D0, pl, rfl, s48 _ _ hd4, hB4.same s48, bk, PlanAt.same hP s48, hpf, fun v9 H9' s9' hv9 => ⟨v8, v9, _, rfl, hv8.same s9', hv9, due_ok n D0 pl, fun H9 s99 => ⟨_, rfl, iteF ?_⟩⟩⟩
   have s9 := s9'.trans s99
   have s89 := s8.trans s9
   refine ⟨_, rfl, _, rfl, _, rfl, by show 2 ≤ sizeLine; decide, fun e9 he9 => ?_⟩
   have s10 := s89.trans (same_new' he9 (.lst [.ref g2, .ref P]))
   have s410 := s47.trans s10
   refine ⟨hd', e9, D, g2, P2, P, ys, us, D0.map BR.cells, pl, rfl, rfl, sqL_new (s10 _ _ hhd7), sqL_new upd_same, sqL_new (s10 _ _ (s67 _ _ hE)), hY.same (s67.trans s10), sqL_new (s410 _ _ hd4), hB4.same s410, PlanAt.same hP6 (s7.trans s10), PlanAt.same hP s410, ?_⟩
   exact ⟨_, rfl, iteF ⟨_, _, _, rfl, (s3.trans s4).trans s410⟩⟩
 ·rintro σ H3 ⟨v2, v3, v4, rfl, s3⟩
  exact q H3
end
abbrev sSaid : Stmt := top 6
abbrev sFcInit : Stmt := inClass (top 8) 0
abbrev sFcEnd : Stmt := inClass (top 8) 4
def NamesOk (fN : Str → Option Value) : Prop := ∀ r : BR, ∃ t, fN r.word = some (.int ((r.names.length : Nat) : Int) t)
theorem key_len (r : BR) : r.key.length = 1 + r.names.length := by
 unfold BR.key
 rw [List.length_cons, List.length_map]
 lia
theorem cut_key (r : BR) : cutV (r.cells.map kV) none (some (1 + ((r.names.length : Nat) : Int))) = r.key.map kV := by
 unfold cutV
 have h1 : (1 : Int) + ((r.names.length : Nat) : Int) = ((r.key.length : Nat) : Int) := by rw [key_len]; lia
 have h2 : r.key.length ≤ r.cells.length := by unfold BR.cells; rw [List.length_append]; lia
 rw [HT.sIx_none, List.drop_zero, Nat.sub_zero, h1, HT.sIx_nat, List.length_map, Nat.min_eq_left h2, ← List.map_take]
 unfold BR.cells
 rw [List.take_left']
 rfl
theorem cut_nums (r : BR) : cutV (r.cells.map kV) (some (((r.key.map kV).length : Nat) : Int)) none = r.nums.map V.int := by
 unfold cutV
 have h2 : r.key.length ≤ r.cells.length := by unfold BR.cells; rw [List.length_append]; lia
 rw [HT.sIx_none, HT.sIx_nat, List.length_map, List.length_map, Nat.min_eq_left h2, ← List.map_drop]
 unfold BR.cells
 rw [List.drop_left', List.length_append, Nat.add_sub_cancel_left, List.map_map, List.take_of_length_le (by rw [List.length_map, List.length_map]; exact Nat.le_refl _)]
 ·rfl
 ·rfl
inductive IspSaid (vs : List V) (H : Hp) (Q : VK) : Prop
 | mk (l : Addr) (r : BR) (h1 : vs = [.ref l]) (h2 : H l = some (.lst (r.cells.map kV))) (h3 : ∀ (t : Addr) (H' : Hp), Same H H' → H t = none → H' t = some (.tup (r.key.map kV)) → Q (.ref t) H')
def spSaid  : Sp := fun vs H Q _ => IspSaid vs H Q
structure FcTxt (K : Fg) (mg : Str → Option Value) (C : Addr) : Prop where
 cl : Cls K C
 nD : NoAttr K C "days"
 nW : NoAttr K C "works"
 nB : NoAttr K C "benches"
 nH : NoAttr K C "shuts"
 nS : NoAttr K C "stores"
 nA : NoAttr K C "afters"
 nI : NoAttr K C "said"
 mgC : mg "Facts" = some (.ref C)
def FrP (p : Addr) (H H' : Hp) : Prop := ∀ b o, H b = some o → b ≠ p → H' b = some o
theorem RowsB.frP {p : Addr} {H H' : Hp} {vs : List V} {B : List BR} {C dx : Addr} {fs : List (Str × V)} (h : RowsB H vs B) (f : FrP p H H') (hp : H p = some (.ins C dx fs)) : RowsB H' vs B := h.imp fun l r _ z => f _ _ z (ne_of z hp (by intro e; cases e))
theorem sqT_updI {K : Fg} {H : Hp} {P t C dx C' dx' : Addr} {fs fs' : List (Str × V)} {xs : List V} (hP : H P = some (.ins C dx fs)) (h : SqT K H t xs) : SqT K (upd H P (.ins C' dx' fs')) t xs := by
 rcases h with (h | ⟨p, h⟩) | h
 ·exact .inl (.inl (by rw [upd_ne (ne_of h hP (by intro z; cases z))]; exact h))
 ·exact .inl (.inr ⟨p, by rw [upd_ne (ne_of h hP (by intro z; cases z))]; exact h⟩)
 ·exact .inr h
def SaidOk (K : Fg) (H : Hp) (kvs : List (List Key × V)) (B : List BR) : Prop :=
 (∀ r ∈ B, r.word ≠ "shut" → ∃ t, valV kvs r.key = some (.ref t) ∧ SqT K H t (r.nums.map V.int)) ∧ ∀ k : List Key, (∀ r ∈ B, r.key ≠ k) → valV kvs k = none
def SaidPs (K : Fg) (H : Hp) : List (List Key × V) → List BR → Prop := Paired fun p r => p.1 = r.key ∧ ∃ t, p.2 = .ref t ∧ SqT K H t (r.nums.map V.int)
theorem dictOfT_none {ps : List (List Key × V)} {k : List Key} (h : ∀ p ∈ ps, p.1 ≠ k) : ∀ m, m ≤ ps.length → valV (dictOfT (ps.take m)) k = none := by
 intro m
 induction m with
 | zero => intro _; rfl
 | succ m ih =>
  intro hm
  have e : ps[m]? = some ps[m] := gE hm
  rw [dictOfT_snoc e, valV_put, if_neg (fun z => h _ (List.mem_of_getElem? e) z.symm)]
  exact ih (by lia)
theorem dictOfT_some {ps : List (List Key × V)} {k : List Key} {v : V} {i : Nat} (hi : ps[i]? = some (k, v)) (hu : ∀ j p, ps[j]? = some p → p.1 = k → j = i) : ∀ m, i < m → m ≤ ps.length → valV (dictOfT (ps.take m)) k = some v := by
 intro m
 induction m with
 | zero => intro h; exact absurd h (Nat.not_lt_zero _)
 | succ m ih =>
  intro h1 hm
  have e : ps[m]? = some ps[m] := gE hm
  rw [dictOfT_snoc e, valV_put]
  by_cases c : m = i
  ·subst c
   have e2 : ps[m] = (k, v) := Option.some.inj (e.symm.trans hi)
   rw [e2, if_pos rfl]
  ·rw [if_neg (fun z => c (hu m _ e z.symm))]
   exact ih (by lia) (by lia)
theorem said_ok {K : Fg} {H : Hp} {ps : List (List Key × V)} {n : Int} {B : List BR} (h : SaidPs K H ps B) (wb : WB n B) : SaidOk K H (dictOfT ps) B := by
 have hl := Paired.length h
 refine ⟨fun r hr hs => ?_, fun k hk => ?_⟩
 ·obtain ⟨i, ei⟩ := List.mem_iff_getElem?.mp hr
  obtain ⟨⟨k, v⟩, ex, e1, t, e2, hT⟩ := paired_getB h ei
  have e1' : k = r.key := e1
  have e2' : v = .ref t := e2
  subst e1' e2'
  have il := (List.getElem?_eq_some_iff.mp ex).1
  have hv := dictOfT_some ex (fun j p ep hp => ?_) ps.length il (Nat.le_refl _)
  ·rw [List.take_length] at hv
   exact ⟨t, hv, hT⟩
  ·obtain ⟨q, eq, e3, _⟩ := paired_get h ep
   have hk : r.key = q.key := hp.symm.trans e3
   rcases Nat.lt_trichotomy i j with c | c | c
   ·rcases pw_at wb.nd c ei eq with z | z | z
    ·exact absurd z hs
    ·have h1 : ((Sum.inr r.word : Key) :: r.names.map Sum.inr) = Sum.inr q.word :: q.names.map Sum.inr := hk
     injection h1 with h2
     exact absurd ((Sum.inr.inj h2).trans z) hs
    ·exact absurd hk z
   ·exact c.symm
   ·rcases pw_at wb.nd c eq ei with z | z | z
    ·have h1 : ((Sum.inr r.word : Key) :: r.names.map Sum.inr) = Sum.inr q.word :: q.names.map Sum.inr := hk
     injection h1 with h2
     exact absurd ((Sum.inr.inj h2).trans z) hs
    ·exact absurd z hs
    ·exact absurd hk.symm z
 ·have hv := dictOfT_none (ps := ps) (k := k) (fun p hp => ?_) ps.length (Nat.le_refl _)
  ·rw [List.take_length] at hv
   exact hv
  ·obtain ⟨i, ei⟩ := List.mem_iff_getElem?.mp hp
   obtain ⟨q, eq, e3, _⟩ := paired_get h ei
   rw [e3]
   exact hk q (List.mem_of_getElem? eq)
def benchOf : BR → Option Str
 | .bench b _ => some b
 | _ => none
def bns (B : List BR) : List Str := B.filterMap benchOf
theorem benchOf_no {r : BR} (h : r.word ≠ "bench") : benchOf r = none := by
 cases r with
 | bench b c => exact absurd rfl h
 | _ => rfl
def selW (w : Str) (r : BR) : Bool := decide (r.word = w)
def TupsOf (K : Fg) (H : Hp) : List V → List BR → Prop := Paired fun v r => ∃ t, v = .ref t ∧ SqT K H t ((r.cells.drop 1).map kV)
theorem cut1d (r : BR) : cutV (r.cells.map kV) (some 1) none = (r.cells.drop 1).map kV := by
 unfold cutV
 have h2 : 1 ≤ r.cells.length := by unfold BR.cells BR.key; rw [List.length_append, List.length_cons]; lia
 rw [HT.sIx_none, show (1 : Int) = ((1 : Nat) : Int) from rfl, HT.sIx_nat, List.length_map, Nat.min_eq_left h2, ← List.map_drop, List.take_of_length_le (by rw [List.length_map, List.length_drop]; exact Nat.le_refl _)]
theorem FrP.trans {p : Addr} {H H1 H2 : Hp} (a : FrP p H H1) (b : FrP p H1 H2) : FrP p H H2 := fun c o e hc => b c o (a c o e hc) hc
theorem sqT_frP {K : Fg} {H H' : Hp} {p t C dx : Addr} {fs : List (Str × V)} {xs : List V} (h : SqT K H t xs) (f : FrP p H H') (hp : H p = some (.ins C dx fs)) : SqT K H' t xs := by
 rcases h with (h | ⟨q, h⟩) | h
 ·exact .inl (.inl (f _ _ h (ne_of h hp (by intro z; cases z))))
 ·exact .inl (.inr ⟨q, f _ _ h (ne_of h hp (by intro z; cases z))⟩)
 ·exact .inr h
theorem TupsOf.frP {K : Fg} {H H' : Hp} {p C dx : Addr} {fs : List (Str × V)} {ys : List V} {B : List BR} (h : TupsOf K H ys B) (f : FrP p H H') (hp : H p = some (.ins C dx fs)) : TupsOf K H' ys B := Paired.mapP h fun _ _ ⟨t, e, z⟩ => ⟨t, e, sqT_frP z f hp⟩
theorem TupsOf.same {K : Fg} {H H' : Hp} {ys : List V} {B : List BR} (h : TupsOf K H ys B) (s : Same H H') : TupsOf K H' ys B := Paired.mapP h fun _ _ ⟨t, e, z⟩ => ⟨t, e, s.tup z⟩
theorem SaidOk.same {K : Fg} {H H' : Hp} {kvs : List (List Key × V)} {B : List BR} (h : SaidOk K H kvs B) (s : Same H H') : SaidOk K H' kvs B := ⟨fun r hr hs => (let ⟨t, a, b⟩ := h.1 r hr hs; ⟨t, a, s.tup b⟩), h.2⟩
structure FcF (K : Fg) (C : Addr) (H : Hp) (p : Addr) (n : Int) (B : List BR) (dx lw lb lh ls la ds : Addr) (fs : List (Str × V)) (kvs : List (List Key × V)) (yh ys ya : List V) : Prop where
 hp : H p = some (.ins C dx fs)
 fD : fs.lookup ("days" : Str) = some (.int n)
 fW : fs.lookup ("works" : Str) = some (.ref lw)
 fB : fs.lookup ("benches" : Str) = some (.ref lb)
 fH : fs.lookup ("shuts" : Str) = some (.ref lh)
 fS : fs.lookup ("stores" : Str) = some (.ref ls)
 fA : fs.lookup ("afters" : Str) = some (.ref la)
 fI : fs.lookup ("said" : Str) = some (.ref ds)
 nE : fs.lookup ("end_of" : Str) = none
 nY : fs.lookup ("is_way" : Str) = none
 nL : fs.lookup ("last_begin" : Str) = none
 nM : fs.lookup ("many" : Str) = none
 nU : fs.lookup ("used_by" : Str) = none
 nG : fs.lookup ("gain_by" : Str) = none
 nR : fs.lookup ("room_of" : Str) = none
 hW : H lw = some (.lst ((wks B).map V.str))
 hB : H lb = some (.lst ((bns B).map V.str))
 hH : H lh = some (.lst yh)
 hS : H ls = some (.lst ys)
 hA : H la = some (.lst ya)
 tH : TupsOf K H yh (B.filter (selW "shut"))
 tS : TupsOf K H ys (B.filter (selW "store"))
 tA : TupsOf K H ya (B.filter (selW "after"))
 hI : H ds = some (.dT kvs)
 sd : SaidOk K H kvs B
def FcAt (K : Fg) (C : Addr) (H : Hp) (p : Addr) (n : Int) (B : List BR) : Prop := ∃ dx lw lb lh ls la ds fs kvs yh ys ya, FcF K C H p n B dx lw lb lh ls la ds fs kvs yh ys ya
theorem FcAt.same {K : Fg} {C : Addr} {H H' : Hp} {p : Addr} {n : Int} {B : List BR} (h : FcAt K C H p n B) (s : Same H H') : FcAt K C H' p n B := by
 obtain ⟨dx, lw, lb, lh, ls, la, ds, fs, kvs, yh, ys, ya, h⟩ := h
 exact ⟨dx, lw, lb, lh, ls, la, ds, fs, kvs, yh, ys, ya, { h with hp := s _ _ h.hp, hW := s _ _ h.hW, hB := s _ _ h.hB, hH := s _ _ h.hH, hS := s _ _ h.hS, hA := s _ _ h.hA, tH := h.tH.same s, tS := h.tS.same s, tA := h.tA.same s, hI := s _ _ h.hI, sd := h.sd.same s }⟩
inductive IspFInit (K : Fg) (C : Addr) (vs : List V) (H : Hp) (Q : VK) : Prop
 | mk (p d dx : Addr) (n : Int) (us : List V) (B : List BR) (h1 : vs = [.ref p, .ref d]) (h2 : H p = some (.ins C dx [])) (h3 : H d = some (.lst us)) (h4 : RowsB H us B) (h5 : BookOk n B) (h6 : ∀ H', FcAt K C H' p n B → FrP p H H' → Q .non H')
def spFInit (K : Fg) (C : Addr) : Sp := fun vs H Q _ => IspFInit K C vs H Q
section
variable {P : Program} {w : World} {K : Fg} {mg : Str → Option Value} {base : Heap}
theorem scSaid : FnScope ["row"] ["row"] (defScope sSaid) := ⟨rfl, rfl, rfl, by decide +kernel, rfl, by decide +kernel, by decide +kernel⟩
theorem okSaid {aN : Addr} {fN : Str → Option Value} (F : Fn K mg "said_by" sSaid) (M : Mg mg) (TN : Tab w K mg "NAMES" aN fN) (hN : NamesOk fN) : Cal P w K mg base 1 "said_by" ["row"] spSaid := by
 refine cal_of F scSaid (fun _ _ _ _ _ _ => bind1 (fun _ => rfl)) (fun vs H Q E h => ?_) (fun f cdv A outer s H vs Q E hr h => ?_)
 ·obtain ⟨l, r, rfl, _⟩ := h
  rfl
 obtain ⟨l, r, rfl, hl, q⟩ := h
 refine ⟨_, (pss_one (ps_ret (pe_callTy call_tuple_of rfl M.tuple_ bt_tuple (pa_cons (pe_slice sl_list (pv 0) po_none (po_some (pe_op op_add pe_int (pe_ix (ix_tab TN) (pe_glob (v := .ref aN) rfl TN.bound rfl) (pe_ix ix_list (pv 0) pe_int (fun _ _ => rfl)) (fun _ _ => rfl))))) pa_nil)))), ?_⟩
 obtain ⟨t, ht⟩ := hN r
 refine ⟨_, rfl, _, rfl, l, _, _, _, rfl, rfl, sqL_new hl, at_word r, _, _, .int ((r.names.length : Nat) : Int), rfl, rfl, ht, ⟨_, rfl⟩, _, _, rfl, rfl, _, rfl, l, _, rfl, sqL_new hl, fun p1 hp1 => ?_⟩
 rw [cut_key]
 have s1 := same_new' hp1 (.lst (r.key.map kV))
 refine ⟨p1, _, rfl, .inl ⟨sqL_new upd_same, fun t1 ht1 => ?_⟩⟩
 refine q t1 _ (s1.trans (same_new' ht1 _)) ?_ upd_same
 cases e5 : H t1 with
 | none => rfl
 | some o => rw [s1 _ _ e5] at ht1; cases ht1
theorem scFcI : FnScope ["self", "book"] ["self", "book"] (defScope sFcInit) := ⟨rfl, rfl, rfl, by decide +kernel, rfl, by decide +kernel, by decide +kernel⟩
theorem okFcI {f C : Addr} {fd : FuncData} (F : Fun K "__init__" "Facts.__init__" sFcInit f fd) (M : Mg mg) (T : FcTxt K mg C) (c_said_by : Cal P w K mg base 1 "said_by" ["row"] spSaid) : FnOk P w K mg base CX0 2 f fd ["self", "book"] (spFInit K C) := by
 refine F.ok scFcI (fun vs H Q E h => ?_) (fun cdv A outer s H vs Q E hr h => ?_)
 ·obtain ⟨p, d, dx, n, us, B, rfl, _⟩ := h
  rfl
 ·obtain ⟨p, d, dx, n, us, B, rfl, hp, hd, hB, bk, q⟩ := h
  have hz : (20000 : Nat) < sizeLine := by decide
  have lu := hB.length
  have bl := bk.wb.len
  have hu6 : (A.deeper (PyProof.Rows.envOfC "Facts.__init__" (defScope sFcInit) s.heap.objs.size f cdv)).units + 6 < cLine := Nat.lt_of_le_of_lt (Nat.add_le_add_left (by decide) _) hr.un
  have nd : d ≠ p := ne_of hd hp (by intro z; cases z)
  refine ⟨_, (pss_cons (ps_fld (pv 0) (pe_ix ix_list (pe_ix ix_list (pv 1) pe_int (fun _ _ => rfl)) pe_int (fun _ _ => rfl)) rfl)
  (pss_cons (ps_fld (pv 0) (pe_lc ["row"] [none] rfl (pi_list (pv 1)) (fun _ _ _ => (pg_name (i := 0) (show (["row"] : List Str).Nodup by decide +kernel) rfl (Or.inl rfl) (Or.inr rfl))) (fun _ _ _ => (pf_one (pt_cmpR op_eq (pe_ix (ix_listK (K := K) rfl) (pv 0) pe_int (fun _ _ => rfl)) pe_str (nomark _)))) (fun _ _ _ => (pe_ix (ix_listK (K := K) rfl) (pv 0) pe_int (fun _ _ => rfl)))) rfl)
  (pss_cons (ps_fld (pv 0) (pe_lc ["row"] [none] rfl (pi_list (pv 1)) (fun _ _ _ => (pg_name (i := 0) (show (["row"] : List Str).Nodup by decide +kernel) rfl (Or.inl rfl) (Or.inr rfl))) (fun _ _ _ => (pf_one (pt_cmpR op_eq (pe_ix (ix_listK (K := K) rfl) (pv 0) pe_int (fun _ _ => rfl)) pe_str (nomark _)))) (fun _ _ _ => (pe_ix (ix_listK (K := K) rfl) (pv 0) pe_int (fun _ _ => rfl)))) rfl)
  (pss_cons (ps_fld (pv 0) (pe_lc ["row"] [none] rfl (pi_list (pv 1)) (fun _ _ _ => (pg_name (i := 0) (show (["row"] : List Str).Nodup by decide +kernel) rfl (Or.inl rfl) (Or.inr rfl))) (fun _ _ _ => (pf_one (pt_cmpR op_eq (pe_ix (ix_listK (K := K) rfl) (pv 0) pe_int (fun _ _ => rfl)) pe_str (nomark _)))) (fun _ _ _ => (pe_callTy (call_tuple_ofK (K := K) rfl) rfl M.tuple_ bt_tuple (pa_cons (pe_slice (sl_listK (K := K) rfl) (pv 0) (po_some pe_int) po_none) pa_nil)))) rfl)
  (pss_cons (ps_fld (pv 0) (pe_lc ["row"] [none] rfl (pi_list (pv 1)) (fun _ _ _ => (pg_name (i := 0) (show (["row"] : List Str).Nodup by decide +kernel) rfl (Or.inl rfl) (Or.inr rfl))) (fun _ _ _ => (pf_one (pt_cmpR op_eq (pe_ix (ix_listK (K := K) rfl) (pv 0) pe_int (fun _ _ => rfl)) pe_str (nomark _)))) (fun _ _ _ => (pe_callTy (call_tuple_ofK (K := K) rfl) rfl M.tuple_ bt_tuple (pa_cons (pe_slice (sl_listK (K := K) rfl) (pv 0) (po_some pe_int) po_none) pa_nil)))) rfl)
  (pss_cons (ps_fld (pv 0) (pe_lc ["row"] [none] rfl (pi_list (pv 1)) (fun _ _ _ => (pg_name (i := 0) (show (["row"] : List Str).Nodup by decide +kernel) rfl (Or.inl rfl) (Or.inr rfl))) (fun _ _ _ => (pf_one (pt_cmpR op_eq (pe_ix (ix_listK (K := K) rfl) (pv 0) pe_int (fun _ _ => rfl)) pe_str (nomark _)))) (fun _ _ _ => (pe_callTy (call_tuple_ofK (K := K) rfl) rfl M.tuple_ bt_tuple (pa_cons (pe_slice (sl_listK (K := K) rfl) (pv 0) (po_some pe_int) po_none) pa_nil)))) rfl)
  (pss_one (ps_fld (pv 0) (pe_callTy (call_dict_ofT (n := 6) (by decide) hu6 rfl) rfl M.dict_ bt_dict (pa_cons (pe_lc ["row"] [none] rfl (pi_list (pv 1)) (fun _ _ _ => (pg_name (i := 0) (show (["row"] : List Str).Nodup by decide +kernel) rfl (Or.inl rfl) (Or.inr rfl))) (fun _ _ _ => pf_nil) (fun _ _ _ => (pe_tup (pa_cons (pe_fn c_said_by (hr.mono (by decide)) (pa_cons (pv 0) pa_nil)) (pa_cons (pe_callTy (call_tuple_ofK (K := K) rfl) rfl M.tuple_ bt_tuple (pa_cons (pe_slice (sl_listK (K := K) rfl) (pv 0) (po_some (pe_callB (call_len_seqK (K := K) rfl) rfl M.len bt_len (pa_cons (pe_fn c_said_by (hr.mono (by decide)) (pa_cons (pv 0) pa_nil)) pa_nil))) po_none) pa_nil)) pa_nil))))) pa_nil)) rfl)))))))), ?_⟩
  refine seq_let7 ?_
  intro rT7 rT6 rT5 rT4 rT3 rT2
  obtain ⟨u0, eu0⟩ : ∃ u0, us[0]? = some u0 := ⟨_, gE (by
   rw [lu]
   exact (List.getElem?_eq_some_iff.mp bk.hd).1)⟩
  obtain ⟨r0, ld, er0, rfl, hr0⟩ := hB.get eu0
  rw [bk.hd] at er0
  cases er0
  have a0 : atI us 0 = some (.ref ld) := atNat (k := 0) eu0
  refine ⟨_, rfl, d, _, _, _, rfl, rfl, sqL_new hd, a0, ld, _, _, _, rfl, rfl, sqL_new hr0, (show atI ((BR.days n).cells.map kV) 1 = some (.int n) from rfl), _, rfl, p, C, dx, [], rfl, hp, T.cl, T.nD, (by show 0 < 1000; decide), ?_⟩
  have fr1 : FrP p H (upd H p (.ins C dx (putF "days" (.int n) []))) := fun b o e hb => by rw [upd_ne hb]; exact e
  have hp1 : upd H p (.ins C dx (putF "days" (.int n) [])) p = some (.ins C dx (putF "days" (.int n) [])) := upd_same
  obtain ⟨fs1, efs1⟩ : ∃ fs, fs = putF "days" (.int n) [] := ⟨_, rfl⟩
  have lf1 : fs1.length ≤ 1 := by rw [efs1]; exact length_putF "days" (.int n) []
  rw [← efs1] at fr1 hp1 ⊢
  generalize upd H p (.ins C dx fs1) = H1' at fr1 hp1 ⊢
  have hd1 := fr1 _ _ hd nd
  have hB1 := hB.frP fr1 hp
  refine ⟨_, rfl, d, rfl, ⟨_, sqL_new hd1⟩, fun lw hlw => ?_⟩
  let Pv28 : Nat → St → List V → Hp → Prop := fun m τ ys H1 => ∃ v : Option V, τ = [v] ∧ ys = ((B.take m).filterMap workOf).map V.str ∧ ys.length ≤ m ∧ H1 lw = some (.lst ys) ∧ Same H1' H1
  refine lc_any (n := B.length) Pv28 ?_ (fun m τ ys H1 hm h => ?_) (fun m τ ys H1 hm h => ?_) (fun τ ys H1 h => ?_) ?_ ?_
  ·exact ⟨none, rfl, rfl, Nat.le_refl _, upd_same, same_new' hlw _⟩
  ·obtain ⟨v, rfl, ey, hl, hE, sv⟩ := h
   exact ⟨hE, by lia⟩
  ·obtain ⟨v, rfl, ey, hl, hE, sv⟩ := h
   exact ⟨us, us[m]'(by lia), sv.seq (sqL_new hd1), gE (by lia)⟩
  ·obtain ⟨v, rfl, ey, hl, hE, sv⟩ := h
   exact ⟨us, sv.seq (sqL_new hd1), by lia⟩
  ·rintro m τ ys H1 x H2 hm ⟨v, rfl, ey, hl, hE, sv⟩ ⟨rfl, e1⟩
   obtain ⟨r, lr, er, rfl, hr⟩ := (hB1.same sv).get (e1 _ (sv.seq (sqL_new hd1)))
   refine ⟨_, rfl, lr, _, _, _, rfl, rfl, sqL_new hr, at_word r, rfl, _, rfl, ite2 (fun y => ?_) (fun y => ?_)⟩
   ·obtain ⟨w, rfl⟩ := word_work (eqS y)
    refine ⟨_, rfl, lr, _, _, _, rfl, rfl, sqL_new hr, (show atI ((BR.work w).cells.map kV) 1 = some (.str w) from rfl), hE, _, rfl, ?_, by rw [List.length_append]; exact Nat.succ_le_succ hl, upd_same, fun b o e => ?_⟩
    ·rw [fmap_next workOf er, show workOf (.work w) = some w from rfl, List.map_append, ey]
     rfl
    ·rw [upd_ne (ne_of_none e hlw)]; exact sv _ _ e
   ·refine ⟨_, rfl, ?_, by lia, hE, sv⟩
    rw [fmap_next workOf er, workOf_no (fun e => y (by rw [e]; exact yesS _)), ey]
    simp
  rintro τ ys H1 ⟨v, rfl, ey, hl, hE, sv⟩
  rw [List.take_length] at ey
  have nlw : lw ≠ p := fun e => by rw [e, hp1] at hlw; cases hlw
  have lw1 : H1 lw = some (.lst ((wks B).map V.str)) := by rw [hE, ey]; rfl
  refine ⟨_, rfl, p, C, dx, _, rfl, sv _ _ hp1, T.cl, T.nW, by lia, ?_⟩
  have fr2 : FrP p H (upd H1 p (.ins C dx (putF "works" (.ref lw) fs1))) := fun b o e hb => by rw [upd_ne hb]; exact sv _ _ (fr1 b o e hb)
  have stp2 : FrP p H1' (upd H1 p (.ins C dx (putF "works" (.ref lw) fs1))) := fun b o e hb => by rw [upd_ne hb]; exact sv _ _ e
  have hp2 : upd H1 p (.ins C dx (putF "works" (.ref lw) fs1)) p = some (.ins C dx (putF "works" (.ref lw) fs1)) := upd_same
  have lw2 : upd H1 p (.ins C dx (putF "works" (.ref lw) fs1)) lw = some (.lst ((wks B).map V.str)) := by rw [upd_ne nlw]; exact lw1
  obtain ⟨fs2, efs2⟩ : ∃ fs, fs = putF "works" (.ref lw) fs1 := ⟨_, rfl⟩
  have lf2 : fs2.length ≤ 2 := by rw [efs2]; have := length_putF "works" (.ref lw) fs1; lia
  rw [← efs2] at fr2 stp2 hp2 lw2  ⊢
  clear sv
  generalize upd H1 p (.ins C dx fs2) = H2 at fr2 stp2 hp2 lw2  ⊢
  have hd2 := fr2 _ _ hd nd
  have hB2 := hB.frP fr2 hp
  refine ⟨_, rfl, d, rfl, ⟨_, sqL_new hd2⟩, fun D3 hD => ?_⟩
  let Pv29 : Nat → St → List V → Hp → Prop := fun m τ ys H1 => ∃ v : Option V, τ = [v] ∧ ys = ((B.take m).filterMap benchOf).map V.str ∧ ys.length ≤ m ∧ H1 D3 = some (.lst ys) ∧ Same H2 H1
  refine lc_any (n := B.length) Pv29 ?_ (fun m τ ys H1 hm h => ?_) (fun m τ ys H1 hm h => ?_) (fun τ ys H1 h => ?_) ?_ ?_
  ·exact ⟨none, rfl, rfl, Nat.le_refl _, upd_same, same_new' hD _⟩
  ·obtain ⟨v, rfl, hi, hl, hE, sv⟩ := h
   exact ⟨hE, by lia⟩
  ·obtain ⟨v, rfl, hi, hl, hE, sv⟩ := h
   exact ⟨us, us[m]'(by lia), sv.seq (sqL_new hd2), gE (by lia)⟩
  ·obtain ⟨v, rfl, hi, hl, hE, sv⟩ := h
   exact ⟨us, sv.seq (sqL_new hd2), by lia⟩
  ·rintro m τ ys H1 x H2 hm ⟨v, rfl, hi, hl, hE, sv⟩ ⟨rfl, e1⟩
   obtain ⟨r, lr, er, rfl, hr⟩ := (hB2.same sv).get (e1 _ (sv.seq (sqL_new hd2)))
   refine ⟨_, rfl, lr, _, _, _, rfl, rfl, sqL_new hr, at_word r, rfl, _, rfl, ite2 (fun y => ?_) (fun y => ?_)⟩
   ·have ey := eqS y
    obtain ⟨bb, cc, rfl⟩ := word_bench ey
    refine ⟨_, rfl, lr, _, _, _, rfl, rfl, sqL_new hr, (show atI ((BR.bench bb cc).cells.map kV) 1 = some (.str bb) from rfl), hE, _, rfl, ?_, by rw [List.length_append]; exact Nat.succ_le_succ hl, upd_same, fun b o e => by rw [upd_ne (ne_of_none e hD)]; exact sv _ _ e⟩
    rw [fmap_next benchOf er, show benchOf (.bench bb cc) = some bb from rfl, List.map_append, hi]
    rfl
   ·exact ⟨_, rfl, by
     rw [fmap_next benchOf er, benchOf_no (fun e => y (by rw [e]; exact yesS _)), hi]
     simp, by lia, hE, sv⟩
  rintro τ ys3 H1 ⟨v, rfl, hi, hl, hE, sv⟩
  rw [List.take_length] at hi
  have nD3 : D3 ≠ p := fun e => by rw [e, hp2] at hD; cases hD
  refine ⟨_, rfl, p, C, dx, _, rfl, sv _ _ hp2, T.cl, T.nB, by have := length_putF "works" (.ref lw) fs1; lia, ?_⟩
  have con3 : upd H1 p (.ins C dx (putF "benches" (.ref D3) fs2)) D3 = some (.lst ((bns B).map V.str)) := by rw [upd_ne nD3, hE, hi]; rfl
  have fr3 : FrP p H (upd H1 p (.ins C dx (putF "benches" (.ref D3) fs2))) := fun b o e hb => by rw [upd_ne hb]; exact sv _ _ (fr2 b o e hb)
  have stp3 : FrP p H2 (upd H1 p (.ins C dx (putF "benches" (.ref D3) fs2))) := fun b o e hb => by rw [upd_ne hb]; exact sv _ _ e
  have hp3 : upd H1 p (.ins C dx (putF "benches" (.ref D3) fs2)) p = some (.ins C dx (putF "benches" (.ref D3) fs2)) := upd_same
  have lw3 : upd H1 p (.ins C dx (putF "benches" (.ref D3) fs2)) lw = some (.lst ((wks B).map V.str)) := by rw [upd_ne nlw]; exact sv _ _ lw2
  obtain ⟨fs3, efs3⟩ : ∃ fs, fs = putF "benches" (.ref D3) fs2 := ⟨_, rfl⟩
  have lf3 : fs3.length ≤ 3 := by rw [efs3]; have := length_putF "benches" (.ref D3) fs2; lia
  rw [← efs3] at fr3 stp3 hp3 lw3 con3 ⊢
  clear sv
  generalize upd H1 p (.ins C dx fs3) = H3 at fr3 stp3 hp3 lw3 con3 ⊢
  have hd3 := fr3 _ _ hd nd
  have hB3 := hB.frP fr3 hp
  refine ⟨_, rfl, d, rfl, ⟨_, sqL_new hd3⟩, fun D4 hD => ?_⟩
  let Pv30 : Nat → St → List V → Hp → Prop := fun m τ ys H1 => ∃ v : Option V, τ = [v] ∧ TupsOf K H1 ys ((B.take m).filter (selW "shut")) ∧ ys.length ≤ m ∧ H1 D4 = some (.lst ys) ∧ Same H3 H1
  refine lc_any (n := B.length) Pv30 ?_ (fun m τ ys H1 hm h => ?_) (fun m τ ys H1 hm h => ?_) (fun τ ys H1 h => ?_) ?_ ?_
  ·exact ⟨none, rfl, .nil, Nat.le_refl _, upd_same, same_new' hD _⟩
  ·obtain ⟨v, rfl, hi, hl, hE, sv⟩ := h
   exact ⟨hE, by lia⟩
  ·obtain ⟨v, rfl, hi, hl, hE, sv⟩ := h
   exact ⟨us, us[m]'(by lia), sv.seq (sqL_new hd3), gE (by lia)⟩
  ·obtain ⟨v, rfl, hi, hl, hE, sv⟩ := h
   exact ⟨us, sv.seq (sqL_new hd3), by lia⟩
  ·rintro m τ ys H1 x H2 hm ⟨v, rfl, hi, hl, hE, sv⟩ ⟨rfl, e1⟩
   obtain ⟨r, lr, er, rfl, hr⟩ := (hB3.same sv).get (e1 _ (sv.seq (sqL_new hd3)))
   refine ⟨_, rfl, lr, _, _, _, rfl, rfl, sqL_new hr, at_word r, rfl, _, rfl, ite2 (fun y => ?_) (fun y => ?_)⟩
   ·have ey := eqS y
    refine ⟨_, rfl, _, rfl, lr, _, rfl, sqL_new hr, fun p1 hp1 => ⟨p1, _, rfl, .inl ⟨sqL_new upd_same, fun t1 ht1 => ?_⟩⟩⟩
    have sx := (same_new' hp1 (.lst (cutV (r.cells.map kV) (some 1) none))).trans (same_new' ht1 (.tup (cutV (r.cells.map kV) (some 1) none)))
    refine ⟨sx _ _ hE, _, rfl, ?_, by rw [List.length_append]; exact Nat.succ_le_succ hl, upd_same, fun b o e => by rw [upd_ne (ne_of_none e hD)]; exact sx _ _ (sv _ _ e)⟩
    rw [filter_next (selW "shut") er, show selW "shut" r = true from decide_eq_true ey, if_pos rfl]
    exact Paired.snoc (Paired.mapP hi fun _ _ ⟨t, e, z⟩ => ⟨t, e, SqT_upd (sx _ _ hE) (sx.tup z)⟩) ⟨t1, rfl, SqT_upd (sx _ _ hE) (sqT_new (by rw [upd_same, cut1d]))⟩
   ·exact ⟨_, rfl, by
     rw [filter_next (selW "shut") er, show selW "shut" r = false from decide_eq_false (fun e => y (by rw [e]; exact yesS _)), if_neg (by decide), List.append_nil]
     exact hi, by lia, hE, sv⟩
  rintro τ ys4 H1 ⟨v, rfl, hi, hl, hE, sv⟩
  rw [List.take_length] at hi
  have nD4 : D4 ≠ p := fun e => by rw [e, hp3] at hD; cases hD
  refine ⟨_, rfl, p, C, dx, _, rfl, sv _ _ hp3, T.cl, T.nH, by have := length_putF "benches" (.ref lw) fs2; lia, ?_⟩
  have con4 : upd H1 p (.ins C dx (putF "shuts" (.ref D4) fs3)) D4 = some (.lst ys4) := by rw [upd_ne nD4]; exact hE
  have tps4 : TupsOf K (upd H1 p (.ins C dx (putF "shuts" (.ref D4) fs3))) ys4 (B.filter (selW "shut")) := Paired.mapP hi fun _ _ ⟨t, e, z⟩ => ⟨t, e, sqT_updI (sv _ _ hp3) z⟩
  have fr4 : FrP p H (upd H1 p (.ins C dx (putF "shuts" (.ref D4) fs3))) := fun b o e hb => by rw [upd_ne hb]; exact sv _ _ (fr3 b o e hb)
  have stp4 : FrP p H3 (upd H1 p (.ins C dx (putF "shuts" (.ref D4) fs3))) := fun b o e hb => by rw [upd_ne hb]; exact sv _ _ e
  have hp4 : upd H1 p (.ins C dx (putF "shuts" (.ref D4) fs3)) p = some (.ins C dx (putF "shuts" (.ref D4) fs3)) := upd_same
  have lw4 : upd H1 p (.ins C dx (putF "shuts" (.ref D4) fs3)) lw = some (.lst ((wks B).map V.str)) := by rw [upd_ne nlw]; exact sv _ _ lw3
  obtain ⟨fs4, efs4⟩ : ∃ fs, fs = putF "shuts" (.ref D4) fs3 := ⟨_, rfl⟩
  have lf4 : fs4.length ≤ 4 := by rw [efs4]; have := length_putF "shuts" (.ref D4) fs3; lia
  rw [← efs4] at fr4 stp4 hp4 lw4 con4 tps4 ⊢
  clear sv
  generalize upd H1 p (.ins C dx fs4) = H4 at fr4 stp4 hp4 lw4 con4 tps4 ⊢
  have hd4 := fr4 _ _ hd nd
  have hB4 := hB.frP fr4 hp
  refine ⟨_, rfl, d, rfl, ⟨_, sqL_new hd4⟩, fun D5 hD => ?_⟩
  let Pv31 : Nat → St → List V → Hp → Prop := fun m τ ys H1 => ∃ v : Option V, τ = [v] ∧ TupsOf K H1 ys ((B.take m).filter (selW "store")) ∧ ys.length ≤ m ∧ H1 D5 = some (.lst ys) ∧ Same H4 H1
  refine lc_any (n := B.length) Pv31 ?_ (fun m τ ys H1 hm h => ?_) (fun m τ ys H1 hm h => ?_) (fun τ ys H1 h => ?_) ?_ ?_
  ·exact ⟨none, rfl, .nil, Nat.le_refl _, upd_same, same_new' hD _⟩
  ·obtain ⟨v, rfl, hi, hl, hE, sv⟩ := h
   exact ⟨hE, by lia⟩
  ·obtain ⟨v, rfl, hi, hl, hE, sv⟩ := h
   exact ⟨us, us[m]'(by lia), sv.seq (sqL_new hd4), gE (by lia)⟩
  ·obtain ⟨v, rfl, hi, hl, hE, sv⟩ := h
   exact ⟨us, sv.seq (sqL_new hd4), by lia⟩
  ·rintro m τ ys H1 x H2 hm ⟨v, rfl, hi, hl, hE, sv⟩ ⟨rfl, e1⟩
   obtain ⟨r, lr, er, rfl, hr⟩ := (hB4.same sv).get (e1 _ (sv.seq (sqL_new hd4)))
   refine ⟨_, rfl, lr, _, _, _, rfl, rfl, sqL_new hr, at_word r, rfl, _, rfl, ite2 (fun y => ?_) (fun y => ?_)⟩
   ·have ey := eqS y
    refine ⟨_, rfl, _, rfl, lr, _, rfl, sqL_new hr, fun p1 hp1 => ⟨p1, _, rfl, .inl ⟨sqL_new upd_same, fun t1 ht1 => ?_⟩⟩⟩
    have sx := (same_new' hp1 (.lst (cutV (r.cells.map kV) (some 1) none))).trans (same_new' ht1 (.tup (cutV (r.cells.map kV) (some 1) none)))
    refine ⟨sx _ _ hE, _, rfl, ?_, by rw [List.length_append]; exact Nat.succ_le_succ hl, upd_same, fun b o e => by rw [upd_ne (ne_of_none e hD)]; exact sx _ _ (sv _ _ e)⟩
    rw [filter_next (selW "store") er, show selW "store" r = true from decide_eq_true ey, if_pos rfl]
    exact Paired.snoc (Paired.mapP hi fun _ _ ⟨t, e, z⟩ => ⟨t, e, SqT_upd (sx _ _ hE) (sx.tup z)⟩) ⟨t1, rfl, SqT_upd (sx _ _ hE) (sqT_new (by rw [upd_same, cut1d]))⟩
   ·exact ⟨_, rfl, by
     rw [filter_next (selW "store") er, show selW "store" r = false from decide_eq_false (fun e => y (by rw [e]; exact yesS _)), if_neg (by decide), List.append_nil]
     exact hi, by lia, hE, sv⟩
  rintro τ ys5 H1 ⟨v, rfl, hi, hl, hE, sv⟩
  rw [List.take_length] at hi
  have nD5 : D5 ≠ p := fun e => by rw [e, hp4] at hD; cases hD
  refine ⟨_, rfl, p, C, dx, _, rfl, sv _ _ hp4, T.cl, T.nS, by have := length_putF "shuts" (.ref lw) fs3; lia, ?_⟩
  have con5 : upd H1 p (.ins C dx (putF "stores" (.ref D5) fs4)) D5 = some (.lst ys5) := by rw [upd_ne nD5]; exact hE
  have tps5 : TupsOf K (upd H1 p (.ins C dx (putF "stores" (.ref D5) fs4))) ys5 (B.filter (selW "store")) := Paired.mapP hi fun _ _ ⟨t, e, z⟩ => ⟨t, e, sqT_updI (sv _ _ hp4) z⟩
  have fr5 : FrP p H (upd H1 p (.ins C dx (putF "stores" (.ref D5) fs4))) := fun b o e hb => by rw [upd_ne hb]; exact sv _ _ (fr4 b o e hb)
  have stp5 : FrP p H4 (upd H1 p (.ins C dx (putF "stores" (.ref D5) fs4))) := fun b o e hb => by rw [upd_ne hb]; exact sv _ _ e
  have hp5 : upd H1 p (.ins C dx (putF "stores" (.ref D5) fs4)) p = some (.ins C dx (putF "stores" (.ref D5) fs4)) := upd_same
  have lw5 : upd H1 p (.ins C dx (putF "stores" (.ref D5) fs4)) lw = some (.lst ((wks B).map V.str)) := by rw [upd_ne nlw]; exact sv _ _ lw4
  obtain ⟨fs5, efs5⟩ : ∃ fs, fs = putF "stores" (.ref D5) fs4 := ⟨_, rfl⟩
  have lf5 : fs5.length ≤ 5 := by rw [efs5]; have := length_putF "stores" (.ref D5) fs4; lia
  rw [← efs5] at fr5 stp5 hp5 lw5 con5 tps5 ⊢
  clear sv
  generalize upd H1 p (.ins C dx fs5) = H5 at fr5 stp5 hp5 lw5 con5 tps5 ⊢
  have hd5 := fr5 _ _ hd nd
  have hB5 := hB.frP fr5 hp
  refine ⟨_, rfl, d, rfl, ⟨_, sqL_new hd5⟩, fun D6 hD => ?_⟩
  let Pv32 : Nat → St → List V → Hp → Prop := fun m τ ys H1 => ∃ v : Option V, τ = [v] ∧ TupsOf K H1 ys ((B.take m).filter (selW "after")) ∧ ys.length ≤ m ∧ H1 D6 = some (.lst ys) ∧ Same H5 H1
  refine lc_any (n := B.length) Pv32 ?_ (fun m τ ys H1 hm h => ?_) (fun m τ ys H1 hm h => ?_) (fun τ ys H1 h => ?_) ?_ ?_
  ·exact ⟨none, rfl, .nil, Nat.le_refl _, upd_same, same_new' hD _⟩
  ·obtain ⟨v, rfl, hi, hl, hE, sv⟩ := h
   exact ⟨hE, by lia⟩
  ·obtain ⟨v, rfl, hi, hl, hE, sv⟩ := h
   exact ⟨us, us[m]'(by lia), sv.seq (sqL_new hd5), gE (by lia)⟩
  ·obtain ⟨v, rfl, hi, hl, hE, sv⟩ := h
   exact ⟨us, sv.seq (sqL_new hd5), by lia⟩
  ·rintro m τ ys H1 x H2 hm ⟨v, rfl, hi, hl, hE, sv⟩ ⟨rfl, e1⟩
   obtain ⟨r, lr, er, rfl, hr⟩ := (hB5.same sv).get (e1 _ (sv.seq (sqL_new hd5)))
   refine ⟨_, rfl, lr, _, _, _, rfl, rfl, sqL_new hr, at_word r, rfl, _, rfl, ite2 (fun y => ?_) (fun y => ?_)⟩
   ·have ey := eqS y
    refine ⟨_, rfl, _, rfl, lr, _, rfl, sqL_new hr, fun p1 hp1 => ⟨p1, _, rfl, .inl ⟨sqL_new upd_same, fun t1 ht1 => ?_⟩⟩⟩
    have sx := (same_new' hp1 (.lst (cutV (r.cells.map kV) (some 1) none))).trans (same_new' ht1 (.tup (cutV (r.cells.map kV) (some 1) none)))
    refine ⟨sx _ _ hE, _, rfl, ?_, by rw [List.length_append]; exact Nat.succ_le_succ hl, upd_same, fun b o e => by rw [upd_ne (ne_of_none e hD)]; exact sx _ _ (sv _ _ e)⟩
    rw [filter_next (selW "after") er, show selW "after" r = true from decide_eq_true ey, if_pos rfl]
    exact Paired.snoc (Paired.mapP hi fun _ _ ⟨t, e, z⟩ => ⟨t, e, SqT_upd (sx _ _ hE) (sx.tup z)⟩) ⟨t1, rfl, SqT_upd (sx _ _ hE) (sqT_new (by rw [upd_same, cut1d]))⟩
   ·exact ⟨_, rfl, by
     rw [filter_next (selW "after") er, show selW "after" r = false from decide_eq_false (fun e => y (by rw [e]; exact yesS _)), if_neg (by decide), List.append_nil]
     exact hi, by lia, hE, sv⟩
  rintro τ ys6 H1 ⟨v, rfl, hi, hl, hE, sv⟩
  rw [List.take_length] at hi
  have nD6 : D6 ≠ p := fun e => by rw [e, hp5] at hD; cases hD
  refine ⟨_, rfl, p, C, dx, _, rfl, sv _ _ hp5, T.cl, T.nA, by have := length_putF "stores" (.ref lw) fs4; lia, ?_⟩
  have con6 : upd H1 p (.ins C dx (putF "afters" (.ref D6) fs5)) D6 = some (.lst ys6) := by rw [upd_ne nD6]; exact hE
  have tps6 : TupsOf K (upd H1 p (.ins C dx (putF "afters" (.ref D6) fs5))) ys6 (B.filter (selW "after")) := Paired.mapP hi fun _ _ ⟨t, e, z⟩ => ⟨t, e, sqT_updI (sv _ _ hp5) z⟩
  have fr6 : FrP p H (upd H1 p (.ins C dx (putF "afters" (.ref D6) fs5))) := fun b o e hb => by rw [upd_ne hb]; exact sv _ _ (fr5 b o e hb)
  have stp6 : FrP p H5 (upd H1 p (.ins C dx (putF "afters" (.ref D6) fs5))) := fun b o e hb => by rw [upd_ne hb]; exact sv _ _ e
  have hp6 : upd H1 p (.ins C dx (putF "afters" (.ref D6) fs5)) p = some (.ins C dx (putF "afters" (.ref D6) fs5)) := upd_same
  have lw6 : upd H1 p (.ins C dx (putF "afters" (.ref D6) fs5)) lw = some (.lst ((wks B).map V.str)) := by rw [upd_ne nlw]; exact sv _ _ lw5
  obtain ⟨fs6, efs6⟩ : ∃ fs, fs = putF "afters" (.ref D6) fs5 := ⟨_, rfl⟩
  have lf6 : fs6.length ≤ 6 := by rw [efs6]; have := length_putF "afters" (.ref D6) fs5; lia
  rw [← efs6] at fr6 stp6 hp6 lw6 con6 tps6 ⊢
  clear sv
  generalize upd H1 p (.ins C dx fs6) = H6 at fr6 stp6 hp6 lw6 con6 tps6 ⊢
  have hd6 := fr6 _ _ hd nd
  have hB6 := hB.frP fr6 hp
  refine ⟨_, rfl, d, rfl, ⟨_, sqL_new hd6⟩, fun D hD => ?_⟩
  let Pv33 : Nat → St → List V → Hp → Prop := fun m τ ys H1 => ∃ (v : Option V) (ps : List (List Key × V)), τ = [v] ∧ PairsT K H1 ys ps ∧ SaidPs K H1 ps (B.take m) ∧ ys.length ≤ m ∧ H1 D = some (.lst ys) ∧ Same H6 H1
  refine lc_any (n := B.length) Pv33 ?_ (fun m τ ys H1 hm h => ?_) (fun m τ ys H1 hm h => ?_) (fun τ ys H1 h => ?_) ?_ ?_
  ·exact ⟨none, [], rfl, .nil, .nil, Nat.le_refl _, upd_same, same_new' hD _⟩
  ·obtain ⟨v, ps, rfl, hq, hs, hl, hE, sv⟩ := h
   exact ⟨hE, by lia⟩
  ·obtain ⟨v, ps, rfl, hq, hs, hl, hE, sv⟩ := h
   exact ⟨us, us[m]'(by lia), sv.seq (sqL_new hd6), gE (by lia)⟩
  ·obtain ⟨v, ps, rfl, hq, hs, hl, hE, sv⟩ := h
   exact ⟨us, sv.seq (sqL_new hd6), by lia⟩
  ·rintro m τ ys H1 x H2 hm ⟨v, ps, rfl, hq, hs, hl, hE, sv⟩ ⟨rfl, e1⟩
   obtain ⟨r, lr, er, rfl, hr⟩ := (hB6.same sv).get (e1 _ (sv.seq (sqL_new hd6)))
   refine ⟨_, rfl, lr, r, rfl, hr, fun b1 H3 s3 fb1 hb1 => ?_⟩
   refine ⟨_, rfl, _, rfl, lr, r, rfl, s3 _ _ hr, fun b2 H4 s4 fb2 hb2 => ?_⟩
   refine ⟨b2, _, rfl, .inr (sqT_new hb2), _, rfl, lr, _, rfl, sqL_new (s4 _ _ (s3 _ _ hr)), fun p5 hp5 => ?_⟩
   rw [cut_nums]
   have s5 := same_new' hp5 (.lst (r.nums.map V.int))
   refine ⟨p5, _, rfl, .inl ⟨sqL_new upd_same, fun t6 ht6 => ?_⟩⟩
   have s6 := same_new' ht6 (.tup (r.nums.map V.int))
   have s46 := (s4.trans s5).trans s6
   have ht66 : upd (upd H4 p5 (.lst (r.nums.map V.int))) t6 (.tup (r.nums.map V.int)) t6 = some (.tup (r.nums.map V.int)) := upd_same
   generalize upd (upd H4 p5 (.lst (r.nums.map V.int))) t6 (.tup (r.nums.map V.int)) = Hx at s46 ht66 ⊢
   refine ⟨by show 2 ≤ sizeLine; decide, fun t7 ht7 => ?_⟩
   have s7 := same_new' ht7 (.tup [.ref b1, .ref t6])
   have s37 := s3.trans (s46.trans s7)
   have hE7 := s37 _ _ hE
   have ht77 : upd Hx t7 (.tup [.ref b1, .ref t6]) t7 = some (.tup [.ref b1, .ref t6]) := upd_same
   have hb17 := (s46.trans s7) _ _ hb1
   have ht67 := s7 _ _ ht66
   generalize upd Hx t7 (.tup [.ref b1, .ref t6]) = Hy at s37 hE7 ht77 hb17 ht67 ⊢
   have cT : ∀ {a : Addr} {xs : List V}, SqT K H2 a xs → SqT K (upd Hy D (.lst (ys ++ [.ref t7]))) a xs := fun z => SqT_upd hE7 (s37.tup z)
   refine ⟨hE7, _, ps ++ [(r.key, .ref t6)], rfl, ?_, ?_, by rw [List.length_append]; exact Nat.succ_le_succ hl, upd_same, fun b o e => ?_⟩
   ·refine Paired.snoc (Paired.mapP hq fun _ _ ⟨t, b, e, h1, h2⟩ => ⟨t, b, e, cT h1, ?_⟩) ⟨t7, b1, rfl, SqT_upd hE7 (sqT_new ht77), ?_⟩
    ·rw [upd_ne (ne_of (s37 _ _ h2) hE7 (by intro z; cases z))]; exact s37 _ _ h2
    ·rw [upd_ne (ne_of hb17 hE7 (by intro z; cases z))]; exact hb17
   ·rw [takeS er]
    exact Paired.snoc (Paired.mapP hs fun _ _ ⟨e, t, e2, z⟩ => ⟨e, t, e2, cT z⟩) ⟨rfl, t6, rfl, SqT_upd hE7 (sqT_new ht67)⟩
   ·rw [upd_ne (ne_of_none e hD)]; exact s37 _ _ (sv _ _ e)
  rintro τ ys H1 ⟨v, ps, rfl, hq, hs, hl, hE, sv⟩
  rw [List.take_length] at hs
  have lps := Paired.length hs
  refine ⟨D, ys, ps, rfl, sqL_new hE, hq, by lia, fun ds hds => ?_⟩
  have s8 := same_new' hds (.dT (dictOfT ps))
  have sv8 := sv.trans s8
  have hds8 : upd H1 ds (.dT (dictOfT ps)) ds = some (.dT (dictOfT ps)) := upd_same
  have hsd : SaidOk K (upd H1 ds (.dT (dictOfT ps))) (dictOfT ps) B := said_ok (Paired.mapP hs fun _ _ ⟨e, t, e2, z⟩ => ⟨e, t, e2, s8.tup z⟩) bk.wb
  generalize upd H1 ds (.dT (dictOfT ps)) = H8 at s8 sv8 hds8 hsd ⊢
  have hp8 := sv8 _ _ hp6
  have nds : ds ≠ p := ne_of hds8 hp8 (by intro z; cases z)
  refine ⟨_, rfl, p, C, dx, _, rfl, hp8, T.cl, T.nI, by lia, ?_⟩
  have fin6 : ∀ fs7, FrP p H6 (upd H8 p (.ins C dx fs7)) := fun fs7 b o e hb => by rw [upd_ne hb]; exact sv8 _ _ e
  have f56 := fun fs7 => stp6.trans (fin6 fs7)
  have f46 := fun fs7 => stp5.trans (f56 fs7)
  have f36 := fun fs7 => stp4.trans (f46 fs7)
  refine q _ ⟨dx, lw, D3, D4, D5, D6, ds, putF "said" (.ref ds) fs6, dictOfT ps, ys4, ys5, ys6, ?_⟩ fun b o e hb => by rw [upd_ne hb]; exact sv8 _ _ (fr6 b o e hb)
  refine {
   hp := upd_same
   fD := by
    rw [lookup_putF, if_neg (by decide +kernel), efs6, lookup_putF, if_neg (by decide +kernel), efs5, lookup_putF, if_neg (by decide +kernel), efs4, lookup_putF, if_neg (by decide +kernel), efs3, lookup_putF, if_neg (by decide +kernel), efs2, lookup_putF, if_neg (by decide +kernel), efs1, lookup_putF, if_pos rfl]
   fW := by
    rw [lookup_putF, if_neg (by decide +kernel), efs6, lookup_putF, if_neg (by decide +kernel), efs5, lookup_putF, if_neg (by decide +kernel), efs4, lookup_putF, if_neg (by decide +kernel), efs3, lookup_putF, if_neg (by decide +kernel), efs2, lookup_putF, if_pos rfl]
   fB := by
    rw [lookup_putF, if_neg (by decide +kernel), efs6, lookup_putF, if_neg (by decide +kernel), efs5, lookup_putF, if_neg (by decide +kernel), efs4, lookup_putF, if_neg (by decide +kernel), efs3, lookup_putF, if_pos rfl]
   fH := by
    rw [lookup_putF, if_neg (by decide +kernel), efs6, lookup_putF, if_neg (by decide +kernel), efs5, lookup_putF, if_neg (by decide +kernel), efs4, lookup_putF, if_pos rfl]
   fS := by
    rw [lookup_putF, if_neg (by decide +kernel), efs6, lookup_putF, if_neg (by decide +kernel), efs5, lookup_putF, if_pos rfl]
   fA := by
    rw [lookup_putF, if_neg (by decide +kernel), efs6, lookup_putF, if_pos rfl]
   fI := by
    rw [lookup_putF, if_pos rfl]
   nE := by
    rw [lookup_putF, if_neg (by decide +kernel), efs6, lookup_putF, if_neg (by decide +kernel), efs5, lookup_putF, if_neg (by decide +kernel), efs4, lookup_putF, if_neg (by decide +kernel), efs3, lookup_putF, if_neg (by decide +kernel), efs2, lookup_putF, if_neg (by decide +kernel), efs1, lookup_putF, if_neg (by decide +kernel)]
    rfl
   nY := by
    rw [lookup_putF, if_neg (by decide +kernel), efs6, lookup_putF, if_neg (by decide +kernel), efs5, lookup_putF, if_neg (by decide +kernel), efs4, lookup_putF, if_neg (by decide +kernel), efs3, lookup_putF, if_neg (by decide +kernel), efs2, lookup_putF, if_neg (by decide +kernel), efs1, lookup_putF, if_neg (by decide +kernel)]
    rfl
   nL := by
    rw [lookup_putF, if_neg (by decide +kernel), efs6, lookup_putF, if_neg (by decide +kernel), efs5, lookup_putF, if_neg (by decide +kernel), efs4, lookup_putF, if_neg (by decide +kernel), efs3, lookup_putF, if_neg (by decide +kernel), efs2, lookup_putF, if_neg (by decide +kernel), efs1, lookup_putF, if_neg (by decide +kernel)]
    rfl
   nM := by
    rw [lookup_putF, if_neg (by decide +kernel), efs6, lookup_putF, if_neg (by decide +kernel), efs5, lookup_putF, if_neg (by decide +kernel), efs4, lookup_putF, if_neg (by decide +kernel), efs3, lookup_putF, if_neg (by decide +kernel), efs2, lookup_putF, if_neg (by decide +kernel), efs1, lookup_putF, if_neg (by decide +kernel)]
    rfl
   nU := by
    rw [lookup_putF, if_neg (by decide +kernel), efs6, lookup_putF, if_neg (by decide +kernel), efs5, lookup_putF, if_neg (by decide +kernel), efs4, lookup_putF, if_neg (by decide +kernel), efs3, lookup_putF, if_neg (by decide +kernel), efs2, lookup_putF, if_neg (by decide +kernel), efs1, lookup_putF, if_neg (by decide +kernel)]
    rfl
   nG := by
    rw [lookup_putF, if_neg (by decide +kernel), efs6, lookup_putF, if_neg (by decide +kernel), efs5, lookup_putF, if_neg (by decide +kernel), efs4, lookup_putF, if_neg (by decide +kernel), efs3, lookup_putF, if_neg (by decide +kernel), efs2, lookup_putF, if_neg (by decide +kernel), efs1, lookup_putF, if_neg (by decide +kernel)]
    rfl
   nR := by
    rw [lookup_putF, if_neg (by decide +kernel), efs6, lookup_putF, if_neg (by decide +kernel), efs5, lookup_putF, if_neg (by decide +kernel), efs4, lookup_putF, if_neg (by decide +kernel), efs3, lookup_putF, if_neg (by decide +kernel), efs2, lookup_putF, if_neg (by decide +kernel), efs1, lookup_putF, if_neg (by decide +kernel)]
    rfl
   hW := by rw [upd_ne nlw]; exact sv8 _ _ lw6
   hB := f36 _ _ _ con3 nD3
   hH := f46 _ _ _ con4 nD4
   hS := f56 _ _ _ con5 nD5
   hA := fin6 _ _ _ con6 nD6
   tH := tps4.frP (f46 _) hp4
   tS := tps5.frP (f56 _) hp5
   tA := tps6.frP (fin6 _) hp6
   hI := by rw [upd_ne nds]; exact hds8
   sd := ⟨fun r hr hsh => ?_, hsd.2⟩ }
  obtain ⟨t, e1, e2⟩ := hsd.1 r hr hsh
  exact ⟨t, e1, sqT_updI hp8 e2⟩
end
abbrev sFcIsWay : Stmt := inClass (top 8) 1
abbrev sFcLast : Stmt := inClass (top 8) 2
abbrev sFcMany : Stmt := inClass (top 8) 6
theorem cut2 (a b c : V) : cutV [a, b, c] none (some 2) = [a, b] := by
 unfold cutV
 rw [HT.sIx_none, show (2 : Int) = ((2 : Nat) : Int) from rfl, HT.sIx_nat]
 rfl
theorem way_key {K : Fg} {H : Hp} {kvs : List (List Key × V)} {B : List BR} (hs : SaidOk K H kvs B) {w v : Str} {l c : Int} (h : BR.way w v l c ∈ B) {ds t3 : Addr} (hd : H ds = some (.dT kvs)) (h3 : H t3 = some (.tup [.str "way", .str w, .str v])) : ∃ t, DGet H ds (.ref t3) (some (.ref t)) ∧ SqT K H t [.int l, .int c] := by
 obtain ⟨t, e, hT⟩ := hs.1 _ h (by show ¬ (("way" : Str) = "shut"); decide +kernel)
 have hg := DGet.t (k := (BR.way w v l c).key) hd h3
 rw [e] at hg
 exact ⟨t, hg, hT⟩
theorem many_pw {n : Int} {B : List BR} (wb : WB n B) (k : Fin 3) (w v t : Str) : (B.filterMap (manyOf k w v t)).Pairwise fun _ _ => False := by
 rw [List.pairwise_filterMap]
 refine wb.nd.imp fun {r q} ha x hx y hy => ?_
 have e1 := manyOf_some.mp hx
 have e2 := manyOf_some.mp hy
 subst e1 e2
 have ns : ¬ useW k = "shut" := by
  match k with
  | 0 => decide +kernel
  | 1 => decide +kernel
  | 2 => decide +kernel
 rcases ha with z | z | z
 ·exact ns z
 ·exact ns z
 ·exact z rfl
theorem manyB_of {n : Int} {B : List BR} (wb : WB n B) {k : Fin 3} {w v t : Str} {m : Int} (h : BR.use k w v t m ∈ B) : manyB B k w v t = m := by
 have hm : m ∈ B.filterMap (manyOf k w v t) := List.mem_filterMap.mpr ⟨_, h, manyOf_some.mpr rfl⟩
 have hp := many_pw wb k w v t
 unfold manyB
 revert hm hp
 generalize B.filterMap (manyOf k w v t) = L
 intro hm hp
 match L, hm, hp with
 | [x], hm, _ =>
  rw [List.mem_singleton.mp hm]
  show x + 0 = x
  lia
 | x :: y :: L, _, hp => exact absurd ((List.pairwise_cons.mp hp).1 y List.mem_cons_self) (fun z => z)
theorem manyB_no {B : List BR} {k : Fin 3} {w v t : Str} (h : ∀ m, BR.use k w v t m ∉ B) : manyB B k w v t = 0 := by
 unfold manyB
 cases e : B.filterMap (manyOf k w v t) with
 | nil => rfl
 | cons x L =>
  have hx : x ∈ B.filterMap (manyOf k w v t) := by rw [e]; exact List.mem_cons_self
  obtain ⟨r, hr, e2⟩ := List.mem_filterMap.mp hx
  rw [manyOf_some.mp e2] at hr
  exact absurd hr (h _)
theorem many_get {K : Fg} {H : Hp} {kvs : List (List Key × V)} {n : Int} {B : List BR} (wb : WB n B) (hs : SaidOk K H kvs B) {k : Fin 3} {w v t : Str} {t2 : Addr} (h2 : SqT K H t2 [.int 0]) : ∃ tl, (valV kvs [Sum.inr (useW k), Sum.inr w, Sum.inr v, Sum.inr t]).getD (.ref t2) = .ref tl ∧ SqT K H tl [.int (manyB B k w v t)] := by
 by_cases hl : ∃ m, BR.use k w v t m ∈ B
 ·obtain ⟨m, hl⟩ := hl
  have ns : ¬ useW k = "shut" := by
   match k with
   | 0 => decide +kernel
   | 1 => decide +kernel
   | 2 => decide +kernel
  obtain ⟨tt, e, hT⟩ := hs.1 _ hl ns
  have e' : valV kvs [Sum.inr (useW k), Sum.inr w, Sum.inr v, Sum.inr t] = some (.ref tt) := e
  rw [e', manyB_of wb hl]
  exact ⟨tt, rfl, hT⟩
 ·have hno : ∀ m, BR.use k w v t m ∉ B := fun m h => hl ⟨m, h⟩
  have e : valV kvs [Sum.inr (useW k), Sum.inr w, Sum.inr v, Sum.inr t] = none := hs.2 _ fun r hr z => by
   have z' : ((Sum.inr r.word : Key) :: r.names.map Sum.inr) = [Sum.inr (useW k), Sum.inr w, Sum.inr v, Sum.inr t] := z
   have hw : r.word = useW k := by
    injection z' with z1
    exact Sum.inr.inj z1
   obtain ⟨w', v', t', m, rfl⟩ := word_use hw
   have z2 : [(Sum.inr (useW k) : Key), Sum.inr w', Sum.inr v', Sum.inr t'] = [Sum.inr (useW k), Sum.inr w, Sum.inr v, Sum.inr t] := z
   injection z2 with _ z3
   injection z3 with z4 z5
   injection z5 with z6 z7
   injection z7 with z8
   cases z4
   cases z6
   cases z8
   exact hno _ hr
  rw [e, manyB_no hno]
  exact ⟨t2, rfl, h2⟩
inductive IspFEnd (K : Fg) (C : Addr) (vs : List V) (H : Hp) (Q : VK) : Prop
 | mk (p ch : Addr) (n : Int) (B : List BR) (w v : Str) (b l c : Int) (h1 : vs = [.ref p, .ref ch]) (h2 : FcAt K C H p n B) (h3 : SqT K H ch [.str w, .str v, .int b]) (h4 : .way w v l c ∈ B) (h5 : ∀ H', Same H H' → Q (.int (b + l)) H')
def spFEnd (K : Fg) (C : Addr) : Sp := fun vs H Q _ => IspFEnd K C vs H Q
inductive IspFIsWay (K : Fg) (C : Addr) (vs : List V) (H : Hp) (Q : VK) : Prop
 | mk (p : Addr) (n : Int) (B : List BR) (w v : Str) (l c : Int) (h1 : vs = [.ref p, .str w, .str v]) (h2 : FcAt K C H p n B) (h3 : .way w v l c ∈ B) (h4 : ∀ H', Same H H' → Q (.bl true) H')
def spFIsWay (K : Fg) (C : Addr) : Sp := fun vs H Q _ => IspFIsWay K C vs H Q
inductive IspFLast (K : Fg) (C : Addr) (vs : List V) (H : Hp) (Q : VK) : Prop
 | mk (p : Addr) (n : Int) (B : List BR) (w v : Str) (l c : Int) (h1 : vs = [.ref p, .str w, .str v]) (h2 : FcAt K C H p n B) (h3 : .way w v l c ∈ B) (h4 : ∀ H', Same H H' → Q (.int (n - l)) H')
def spFLast (K : Fg) (C : Addr) : Sp := fun vs H Q _ => IspFLast K C vs H Q
inductive IspFMany (K : Fg) (C : Addr) (vs : List V) (H : Hp) (Q : VK) : Prop
 | mk (p ch : Addr) (n : Int) (B : List BR) (k : Fin 3) (w v t : Str) (b : Int) (h1 : vs = [.ref p, .str (useW k), .ref ch, .str t]) (h2 : FcAt K C H p n B) (h3 : WB n B) (h4 : SqT K H ch [.str w, .str v, .int b]) (h5 : ∀ H', Same H H' → Q (.int (manyB B k w v t)) H')
def spFMany (K : Fg) (C : Addr) : Sp := fun vs H Q _ => IspFMany K C vs H Q
section
variable {P : Program} {w : World} {K : Fg} {mg : Str → Option Value} {base : Heap}
theorem scFcE : FnScope ["self", "choice"] ["self", "choice"] (defScope sFcEnd) := ⟨rfl, rfl, rfl, by decide +kernel, rfl, by decide +kernel, by decide +kernel⟩
theorem okFcE {f C : Addr} {fd : FuncData} (F : Fun K "end_of" "Facts.end_of" sFcEnd f fd) (T : FcTxt K mg C) : FnOk P w K mg base CX0 1 f fd ["self", "choice"] (spFEnd K C) := by
 refine F.ok scFcE (fun vs H Q E h => ?_) (fun cdv A outer s H vs Q E hr h => ?_)
 ·obtain ⟨p, ch, n, B, w, v, b, l, c, rfl, _⟩ := h
  rfl
 ·obtain ⟨p, ch, n, B, w, v, b, l, c, rfl, ⟨dx, lw, lb, lh, ls, la, ds, fs, kvs, yh, ysS, ya, hF⟩, hch, hway, q⟩ := h
  have hu := hu_of hr
  refine ⟨_, (pss_one (ps_ret (pe_op op_add (pe_ix ix_tup (pv 1) pe_int (fun _ _ => rfl)) (pe_ix ix_tup (pe_dget hu (pe_fld (pv 0) rfl) (pe_op op_catT (pe_tup (pa_cons pe_str pa_nil)) (pe_slice sl_tup (pv 1) po_none (po_some pe_int))) (fun _ _ => rfl)) pe_int (fun _ _ => rfl))))), ?_⟩
  refine ⟨_, rfl, ch, _, _, _, rfl, rfl, hch, (show atI [V.str w, V.str v, V.int b] 2 = some (.int b) from rfl), ?_⟩
  refine ⟨_, rfl, p, C, dx, fs, _, rfl, hF.hp, T.cl, T.nI, hF.fI, by show 1 ≤ sizeLine; decide, fun t1 ht1 => ?_⟩
  have s1 := same_new' ht1 (.tup [.str "way"])
  refine ⟨_, rfl, _, rfl, ch, _, rfl, s1.tup hch, (by show ¬ (HT.sIx 3 0 none = 0 ∧ HT.sIx 3 3 (some 2) = 3); decide), fun t2 ht2 => ?_⟩
  rw [cut2]
  have s2 := s1.trans (same_new' ht2 (.tup [.str w, .str v]))
  refine ⟨t1, t2, _, _, rfl, rfl, (same_new' ht2 _).tup (sqT_new upd_same), sqT_new upd_same, by simp, by show 3 ≤ sizeLine; decide, fun z => absurd z (by simp), fun _ t3 ht3 => ?_⟩
  have s3 := s2.trans (same_new' ht3 (.tup ([.str "way"] ++ [.str w, .str v])))
  obtain ⟨t, dg, hT⟩ := way_key (hF.sd.same s3) hway (s3 _ _ hF.hI) upd_same
  exact ⟨ds, _, rfl, dg, t, _, _, _, rfl, rfl, hT, at0, _, _, rfl, rfl, q _ s3⟩
theorem scFcY : FnScope ["self", "work", "way"] ["self", "work", "way"] (defScope sFcIsWay) := ⟨rfl, rfl, rfl, by decide +kernel, rfl, by decide +kernel, by decide +kernel⟩
theorem okFcY {f C : Addr} {fd : FuncData} (F : Fun K "is_way" "Facts.is_way" sFcIsWay f fd) (T : FcTxt K mg C) : FnOk P w K mg base CX0 1 f fd ["self", "work", "way"] (spFIsWay K C) := by
 refine F.ok scFcY (fun vs H Q E h => ?_) (fun cdv A outer s H vs Q E hr h => ?_)
 ·obtain ⟨p, n, B, w, v, l, c, rfl, _⟩ := h
  rfl
 ·obtain ⟨p, n, B, w, v, l, c, rfl, ⟨dx, lw, lb, lh, ls, la, ds, fs, kvs, yh, ysS, ya, hF⟩, hway, q⟩ := h
  have hu := hu_of hr
  refine ⟨_, (pss_one (ps_ret (pe_cmp (pc_din hu (pe_tup (pa_cons pe_str (pa_cons (pv 1) (pa_cons (pv 2) pa_nil)))) (pe_fld (pv 0) rfl))))), ?_⟩
  refine ⟨_, rfl, _, rfl, by show 3 ≤ sizeLine; decide, fun t1 ht1 => ?_⟩
  have s1 := same_new' ht1 (.tup [.str "way", .str w, .str v])
  obtain ⟨t, dg, hT⟩ := way_key (hF.sd.same s1) hway (s1 _ _ hF.hI) upd_same
  exact ⟨_, rfl, p, C, dx, fs, _, rfl, s1 _ _ hF.hp, T.cl, T.nI, hF.fI, ds, _, rfl, dg, q _ s1⟩
theorem scFcL : FnScope ["self", "work", "way"] ["self", "work", "way"] (defScope sFcLast) := ⟨rfl, rfl, rfl, by decide +kernel, rfl, by decide +kernel, by decide +kernel⟩
theorem okFcL {f C : Addr} {fd : FuncData} (F : Fun K "last_begin" "Facts.last_begin" sFcLast f fd) (T : FcTxt K mg C) : FnOk P w K mg base CX0 1 f fd ["self", "work", "way"] (spFLast K C) := by
 refine F.ok scFcL (fun vs H Q E h => ?_) (fun cdv A outer s H vs Q E hr h => ?_)
 ·obtain ⟨p, n, B, w, v, l, c, rfl, _⟩ := h
  rfl
 ·obtain ⟨p, n, B, w, v, l, c, rfl, ⟨dx, lw, lb, lh, ls, la, ds, fs, kvs, yh, ysS, ya, hF⟩, hway, q⟩ := h
  have hu := hu_of hr
  refine ⟨_, (pss_one (ps_ret (pe_op op_sub (pe_fld (pv 0) rfl) (pe_ix ix_tup (pe_dget hu (pe_fld (pv 0) rfl) (pe_tup (pa_cons pe_str (pa_cons (pv 1) (pa_cons (pv 2) pa_nil)))) (fun _ _ => rfl)) pe_int (fun _ _ => rfl))))), ?_⟩
  refine ⟨_, rfl, p, C, dx, fs, _, rfl, hF.hp, T.cl, T.nD, hF.fD, _, rfl, p, C, dx, fs, _, rfl, hF.hp, T.cl, T.nI, hF.fI, _, rfl, _, rfl, by show 3 ≤ sizeLine; decide, fun t1 ht1 => ?_⟩
  have s1 := same_new' ht1 (.tup [.str "way", .str w, .str v])
  obtain ⟨t, dg, hT⟩ := way_key (hF.sd.same s1) hway (s1 _ _ hF.hI) upd_same
  exact ⟨ds, _, rfl, dg, t, _, _, _, rfl, rfl, hT, at0, _, _, rfl, rfl, q _ s1⟩
theorem scFcM : FnScope ["self", "word", "choice", "name"] ["self", "word", "choice", "name"] (defScope sFcMany) := ⟨rfl, rfl, rfl, by decide +kernel, rfl, by decide +kernel, by decide +kernel⟩
theorem okFcM {f C : Addr} {fd : FuncData} (F : Fun K "many" "Facts.many" sFcMany f fd) (T : FcTxt K mg C) : FnOk P w K mg base CX0 1 f fd ["self", "word", "choice", "name"] (spFMany K C) := by
 refine F.ok scFcM (fun vs H Q E h => ?_) (fun cdv A outer s H vs Q E hr h => ?_)
 ·obtain ⟨p, ch, n, B, k, w, v, t, b, rfl, _⟩ := h
  rfl
 ·obtain ⟨p, ch, n, B, k, w, v, t, b, rfl, ⟨dx, lw, lb, lh, ls, la, ds, fs, kvs, yh, ysS, ya, hF⟩, wb, hch, q⟩ := h
  have hu := hu_of hr
  refine ⟨_, (pss_one (ps_ret (pe_ix ix_tup (pe_dget2 hu (pe_fld (pv 0) rfl) (pe_op op_catT (pe_op op_catT (pe_tup (pa_cons (pv 1) pa_nil)) (pe_slice sl_tup (pv 2) po_none (po_some pe_int))) (pe_tup (pa_cons (pv 3) pa_nil))) (pe_tup (pa_cons pe_int pa_nil)) ⟨rfl, rfl, rfl, rfl⟩) pe_int (fun _ _ => rfl)))), ?_⟩
  refine ⟨_, rfl, p, C, dx, fs, _, rfl, hF.hp, T.cl, T.nI, hF.fI, ds, rfl, .inr ⟨kvs, .inl hF.hI⟩, _, rfl, by show 1 ≤ sizeLine; decide, fun t1 ht1 => ?_⟩
  have s1 := same_new' ht1 (.tup [.str (useW k)])
  refine ⟨_, rfl, _, rfl, ch, _, rfl, s1.tup hch, (by show ¬ (HT.sIx 3 0 none = 0 ∧ HT.sIx 3 3 (some 2) = 3); decide), fun t2 ht2 => ?_⟩
  rw [cut2]
  have s12 := same_new' ht2 (.tup [.str w, .str v])
  have s2 := s1.trans s12
  refine ⟨t1, t2, _, _, rfl, rfl, s12.tup (sqT_new upd_same), sqT_new upd_same, by simp, by show 3 ≤ sizeLine; decide, fun z => absurd z (by simp), fun _ t3 ht3 => ?_⟩
  have s23 := same_new' ht3 (.tup ([.str (useW k)] ++ [.str w, .str v]))
  have s3 := s2.trans s23
  refine ⟨_, rfl, by show 1 ≤ sizeLine; decide, fun t4 ht4 => ?_⟩
  have s34 := same_new' ht4 (.tup [.str t])
  have s4 := s3.trans s34
  refine ⟨t3, t4, _, _, rfl, rfl, s34.tup (sqT_new upd_same), sqT_new upd_same, by simp, by show 4 ≤ sizeLine; decide, fun z => absurd z (by simp), fun _ t5 ht5 => ?_⟩
  have s45 := same_new' ht5 (.tup (([.str (useW k)] ++ [.str w, .str v]) ++ [.str t]))
  have s5 := s4.trans s45
  refine ⟨by show 1 ≤ sizeLine; decide, fun t6 ht6 => ?_⟩
  have s56 := same_new' ht6 (.tup [.int 0])
  have s6 := s5.trans s56
  have ht56 := s56 _ _ (upd_same (o := .tup (([.str (useW k)] ++ [.str w, .str v]) ++ [.str t])))
  obtain ⟨tl, etl, hTl⟩ := many_get (k := k) (w := w) (v := v) (t := t) wb (hF.sd.same s6) (sqT_new upd_same)
  refine ⟨_, DGet.t (k := [Sum.inr (useW k), Sum.inr w, Sum.inr v, Sum.inr t]) (s6 _ _ hF.hI) ht56, ?_⟩
  rw [etl]
  exact ⟨tl, _, _, _, rfl, rfl, hTl, (show atI [V.int (manyB B k w v t)] 0 = some _ from rfl), q _ s6⟩
end
abbrev sFcUsed : Stmt := inClass (top 8) 7
abbrev sFcGain : Stmt := inClass (top 8) 8
def gainR (B : List BR) (st : Str) (day : Int) (p : Str × Str × Int) : Int := (if p.2.2 + lenB B p.1 p.2.1 ≤ day then manyB B 2 p.1 p.2.1 st else 0) - (if p.2.2 ≤ day then manyB B 1 p.1 p.2.1 st else 0)
inductive IspFUsed (K : Fg) (C : Addr) (vs : List V) (H : Hp) (Q : VK) : Prop
 | mk (p ch : Addr) (n : Int) (B : List BR) (w v bn : Str) (b l c day : Int) (h1 : vs = [.ref p, .ref ch, .str bn, .int day]) (h2 : FcAt K C H p n B) (h3 : WB n B) (h4 : SqT K H ch [.str w, .str v, .int b]) (h5 : .way w v l c ∈ B) (h6 : ∀ H', Same H H' → Q (.int (useR B bn day (w, v, b))) H')
def spFUsed (K : Fg) (C : Addr) : Sp := fun vs H Q _ => IspFUsed K C vs H Q
inductive IspFGain (K : Fg) (C : Addr) (vs : List V) (H : Hp) (Q : VK) : Prop
 | mk (p ch : Addr) (n : Int) (B : List BR) (w v bn : Str) (b l c day : Int) (h1 : vs = [.ref p, .ref ch, .str bn, .int day]) (h2 : FcAt K C H p n B) (h3 : WB n B) (h4 : SqT K H ch [.str w, .str v, .int b]) (h5 : .way w v l c ∈ B) (h6 : ∀ H', Same H H' → Q (.int (gainR B bn day (w, v, b))) H')
def spFGain (K : Fg) (C : Addr) : Sp := fun vs H Q _ => IspFGain K C vs H Q
section
variable {P : Program} {w : World} {K : Fg} {mg : Str → Option Value} {base : Heap}
theorem scFcU : FnScope ["self", "choice", "bench", "day"] ["self", "choice", "bench", "day"] (defScope sFcUsed) := ⟨rfl, rfl, rfl, by decide +kernel, rfl, by decide +kernel, by decide +kernel⟩
theorem okFcU {f fE fM C : Addr} {fd fdE fdM : FuncData} (F : Fun K "used_by" "Facts.used_by" sFcUsed f fd) (T : FcTxt K mg C) (GE : FnOk P w K mg base CX0 1 fE fdE ["self", "choice"] (spFEnd K C)) (bE : Binds K fdE ["self", "choice"] []) (mE : Meth K C "end_of" fE) (GM : FnOk P w K mg base CX0 1 fM fdM ["self", "word", "choice", "name"] (spFMany K C)) (bM : Binds K fdM ["self", "word", "choice", "name"] []) (mM : Meth K C "many" fM) : FnOk P w K mg base CX0 2 f fd ["self", "choice", "bench", "day"] (spFUsed K C) := by
 refine F.ok scFcU (fun vs H Q E h => ?_) (fun cdv A outer s H vs Q E hr h => ?_)
 ·obtain ⟨p, ch, n, B, w, v, bn, b, l, c, day, rfl, _⟩ := h
  rfl
 ·obtain ⟨p, ch, n, B, w, v, bn, b, l, c, day, rfl, hFc, wb, hch, hway, q⟩ := h
  obtain ⟨dx, lw, lb, lh, ls, la, ds, fs, kvs, yh, ysS, ya, hF⟩ := id hFc
  have hr1 : Room 1 _ := hr.mono (by decide)
  have eU : useR B bn day (w, v, b) = if b ≤ day ∧ day < b + l then manyB B 0 w v bn else 0 := by
   show (if b ≤ day ∧ day < b + lenB B w v then manyB B 0 w v bn else 0) = _
   rw [lenB_of wb hway]
  rw [eU] at q
  refine ⟨_, (pss_cons (ps_if (pt_chain op_le op_lt (pe_ix ix_tup (pv 1) pe_int (fun _ _ => rfl)) (pv 3) (pe_meth (pv 0) T.cl mE GE hr1 bE .nil pass0 (pa_cons (pv 1) pa_nil))) (pss_one (ps_ret (pe_meth (pv 0) T.cl mM GM hr1 bM .nil pass0 (pa_cons pe_str (pa_cons (pv 1) (pa_cons (pv 2) pa_nil)))))) pss_nil) (pss_one (ps_ret pe_int))), ?_⟩
  refine ⟨_, rfl, ch, _, _, _, rfl, rfl, hch, (show atI [V.str w, V.str v, V.int b] 2 = some (.int b) from rfl), _, rfl, _, _, rfl, rfl, _, rfl, ite2 (fun y => ?_) (fun y => ⟨_, rfl, iteF ?_⟩)⟩
  ·refine ⟨_, rfl, p, dx, fs, rfl, hF.hp, hF.nE, _, rfl, p, ch, n, B, w, v, b, l, c, rfl, hFc, hch, hway, fun H1 s1 => ⟨_, _, rfl, rfl, _, rfl, ite2 (fun y2 => ?_) (fun y2 => ?_)⟩⟩
   ·rw [if_pos ⟨of_decide_eq_true y, of_decide_eq_true y2⟩] at q
    exact ⟨_, rfl, p, dx, fs, rfl, s1 _ _ hF.hp, hF.nM, _, rfl, _, rfl, p, ch, n, B, 0, w, v, bn, b, rfl, hFc.same s1, wb, s1.tup hch, fun H2 s2 => q _ (s1.trans s2)⟩
   ·rw [if_neg (fun z => y2 (decide_eq_true z.2))] at q
    exact q _ s1
  ·rw [if_neg (fun z => y (decide_eq_true z.1))] at q
   exact q _ (Same.refl _)
theorem scFcG : FnScope ["self", "choice", "store", "day", "gain"] ["self", "choice", "store", "day"] (defScope sFcGain) := ⟨rfl, rfl, rfl, by decide +kernel, rfl, by decide +kernel, by decide +kernel⟩
theorem okFcG {f fE fM C : Addr} {fd fdE fdM : FuncData} (F : Fun K "gain_by" "Facts.gain_by" sFcGain f fd) (T : FcTxt K mg C) (GE : FnOk P w K mg base CX0 1 fE fdE ["self", "choice"] (spFEnd K C)) (bE : Binds K fdE ["self", "choice"] []) (mE : Meth K C "end_of" fE) (GM : FnOk P w K mg base CX0 1 fM fdM ["self", "word", "choice", "name"] (spFMany K C)) (bM : Binds K fdM ["self", "word", "choice", "name"] []) (mM : Meth K C "many" fM) : FnOk P w K mg base CX0 2 f fd ["self", "choice", "store", "day"] (spFGain K C) := by
 refine F.ok scFcG (fun vs H Q E h => ?_) (fun cdv A outer s H vs Q E hr h => ?_)
 ·obtain ⟨p, ch, n, B, w, v, bn, b, l, c, day, rfl, _⟩ := h
  rfl
 ·obtain ⟨p, ch, n, B, w, v, bn, b, l, c, day, rfl, hFc, wb, hch, hway, q⟩ := h
  obtain ⟨dx, lw, lb, lh, ls, la, ds, fs, kvs, yh, ysS, ya, hF⟩ := id hFc
  have hr1 : Room 1 _ := hr.mono (by decide)
  refine ⟨_, (pss_cons (ps_set (i := 4) scFcG.nd rfl (Or.inl rfl) pe_int) (pss_cons (ps_if (pt_cmpR op_le (pe_ix ix_tup (pv 1) pe_int (fun _ _ => rfl)) (pv 3) (nomark _)) (pss_one (ps_aug (i := 4) scFcG.nd rfl (Or.inl rfl) (pe_meth (pv 0) T.cl mM GM hr1 bM .nil pass0 (pa_cons pe_str (pa_cons (pv 1) (pa_cons (pv 2) pa_nil)))) ip_sub)) pss_nil) (pss_cons (ps_if (pt_cmpR op_le (pe_meth (pv 0) T.cl mE GE hr1 bE .nil pass0 (pa_cons (pv 1) pa_nil)) (pv 3) (nomark _)) (pss_one (ps_aug (i := 4) scFcG.nd rfl (Or.inl rfl) (pe_meth (pv 0) T.cl mM GM hr1 bM .nil pass0 (pa_cons pe_str (pa_cons (pv 1) (pa_cons (pv 2) pa_nil)))) ip_add)) pss_nil) (pss_one (ps_ret (pv 4)))))), ?_⟩
  refine ⟨_, rfl, ch, _, _, _, rfl, rfl, hch, (show atI [V.str w, V.str v, V.int b] 2 = some (.int b) from rfl), _, rfl, _, _, rfl, rfl, _, rfl, ite2 (fun y => ?_) (fun y => ?_)⟩
  ·refine ⟨_, rfl, _, rfl, p, dx, fs, rfl, hF.hp, hF.nM, _, rfl, _, rfl, p, ch, n, B, 1, w, v, bn, b, rfl, hFc, wb, hch, fun H2 s2 => ⟨_, _, rfl, rfl, ?_⟩⟩
   refine ⟨_, rfl, p, dx, fs, rfl, s2 _ _ hF.hp, hF.nE, _, rfl, p, ch, n, B, w, v, b, l, c, rfl, hFc.same s2, s2.tup hch, hway, fun H3 s3 => ⟨_, rfl, _, _, rfl, rfl, _, rfl, ite2 (fun y2 => ?_) (fun y2 => ?_)⟩⟩
   ·have s4 := s2.trans s3
    refine ⟨_, rfl, _, rfl, p, dx, fs, rfl, s4 _ _ hF.hp, hF.nM, _, rfl, _, rfl, p, ch, n, B, 2, w, v, bn, b, rfl, hFc.same s4, wb, s4.tup hch, fun H5 s5 => ⟨_, _, rfl, rfl, ?_⟩⟩
    refine ⟨_, rfl, ?_⟩
    have e := q _ (s4.trans s5)
    unfold gainR at e
    rw [lenB_of wb hway, if_pos (of_decide_eq_true y2), if_pos (of_decide_eq_true y)] at e
    have e3 : 0 - manyB B 1 w v bn + manyB B 2 w v bn = manyB B 2 w v bn - manyB B 1 w v bn := by lia
    dsimp only
    rw [e3]
    exact e
   ·refine ⟨_, rfl, ?_⟩
    have e := q _ (s2.trans s3)
    unfold gainR at e
    rw [lenB_of wb hway, if_neg (fun z => y2 (decide_eq_true z)), if_pos (of_decide_eq_true y)] at e
    have e3 : 0 - manyB B 1 w v bn = 0 - manyB B 1 w v bn := by lia
    first | exact e | (rw [e3]; exact e)
  ·have s2 := Same.refl H
   refine ⟨_, rfl, p, dx, fs, rfl, s2 _ _ hF.hp, hF.nE, _, rfl, p, ch, n, B, w, v, b, l, c, rfl, hFc.same s2, s2.tup hch, hway, fun H3 s3 => ⟨_, rfl, _, _, rfl, rfl, _, rfl, ite2 (fun y2 => ?_) (fun y2 => ?_)⟩⟩
   ·have s4 := s2.trans s3
    refine ⟨_, rfl, _, rfl, p, dx, fs, rfl, s4 _ _ hF.hp, hF.nM, _, rfl, _, rfl, p, ch, n, B, 2, w, v, bn, b, rfl, hFc.same s4, wb, s4.tup hch, fun H5 s5 => ⟨_, _, rfl, rfl, ?_⟩⟩
    refine ⟨_, rfl, ?_⟩
    have e := q _ (s4.trans s5)
    unfold gainR at e
    rw [lenB_of wb hway, if_pos (of_decide_eq_true y2), if_neg (fun z => y (decide_eq_true z))] at e
    have e3 : 0 + manyB B 2 w v bn = manyB B 2 w v bn - 0 := by lia
    dsimp only
    rw [e3]
    exact e
   ·refine ⟨_, rfl, ?_⟩
    have e := q _ (s2.trans s3)
    unfold gainR at e
    rw [lenB_of wb hway, if_neg (fun z => y2 (decide_eq_true z)), if_neg (fun z => y (decide_eq_true z))] at e
    have e3 : 0 = 0 - 0 := by lia
    first | exact e | (rw [e3]; exact e)
end
abbrev sFcRoom : Stmt := inClass (top 8) 9
theorem bench_key {K : Fg} {H : Hp} {kvs : List (List Key × V)} {B : List BR} (hs : SaidOk K H kvs B) {b : Str} {r : Int} (h : BR.bench b r ∈ B) {ds t3 : Addr} (hd : H ds = some (.dT kvs)) (h3 : H t3 = some (.tup [.str "bench", .str b])) : ∃ t, DGet H ds (.ref t3) (some (.ref t)) ∧ SqT K H t [.int r] := by
 obtain ⟨t, e, hT⟩ := hs.1 _ h (by show ¬ (("bench" : Str) = "shut"); decide +kernel)
 have hg := DGet.t (k := (BR.bench b r).key) hd h3
 rw [e] at hg
 exact ⟨t, hg, hT⟩
theorem shut_any {B : List BR} {b : Str} {day r : Int} : baseR B b r day = if ((B.filter (selW "shut")).map (shutOn b day)).any id = true then 0 else r := by
 unfold baseR
 by_cases h : ((B.filter (selW "shut")).map (shutOn b day)).any id = true
 ·rw [if_pos h, if_neg]
  intro z
  obtain ⟨x, hx, e⟩ := List.any_eq_true.mp h
  obtain ⟨q, hq, e2⟩ := List.mem_map.mp hx
  have hm : q ∈ B.filter (shutOn b day) := List.mem_filter.mpr ⟨(List.mem_filter.mp hq).1, by rw [e2]; exact e⟩
  rw [List.eq_nil_of_length_eq_zero z] at hm
  exact nomatch hm
 ·rw [if_neg h, if_pos]
  cases e : B.filter (shutOn b day) with
  | nil => rfl
  | cons q L =>
   exfalso
   have hm : q ∈ B.filter (shutOn b day) := by rw [e]; exact List.mem_cons_self
   obtain ⟨h1, h2⟩ := List.mem_filter.mp hm
   refine h (List.any_eq_true.mpr ⟨true, List.mem_map.mpr ⟨q, List.mem_filter.mpr ⟨h1, ?_⟩, h2⟩, rfl⟩)
   refine decide_eq_true ?_
   cases q with
   | shut b' f t => rfl
   | _ => cases h2
inductive IspFRoom (K : Fg) (C : Addr) (vs : List V) (H : Hp) (Q : VK) : Prop
 | mk (p : Addr) (n : Int) (B : List BR) (bn : Str) (r day : Int) (h1 : vs = [.ref p, .str bn, .int day]) (h2 : FcAt K C H p n B) (h3 : WB n B) (h4 : .bench bn r ∈ B) (h5 : ∀ H', Same H H' → Q (.int (baseR B bn r day)) H')
def spFRoom (K : Fg) (C : Addr) : Sp := fun vs H Q _ => IspFRoom K C vs H Q
section
variable {P : Program} {w : World} {K : Fg} {mg : Str → Option Value} {base : Heap}
theorem scFcR : FnScope ["self", "bench", "day"] ["self", "bench", "day"] (defScope sFcRoom) := ⟨rfl, rfl, rfl, by decide +kernel, rfl, by decide +kernel, by decide +kernel⟩
theorem okFcR {f C : Addr} {fd : FuncData} (F : Fun K "room_of" "Facts.room_of" sFcRoom f fd) (M : Mg mg) (T : FcTxt K mg C) : FnOk P w K mg base CX0 1 f fd ["self", "bench", "day"] (spFRoom K C) := by
 refine F.ok scFcR (fun vs H Q E h => ?_) (fun cdv A outer s H vs Q E hr h => ?_)
 ·obtain ⟨p, n, B, bn, r, day, rfl, _⟩ := h
  rfl
 ·obtain ⟨p, n, B, bn, r, day, rfl, hFc, wb, hben, q⟩ := h
  obtain ⟨dx, lw, lb, lh, ls, la, ds, fs, kvs, yh, ysS, ya, hF⟩ := id hFc
  have hz : (20000 : Nat) < sizeLine := by decide
  have hu := hu_of hr
  have bl := wb.len
  have lt := Paired.length hF.tH
  have lf : (B.filter (selW "shut")).length ≤ B.length := List.length_filter_le _ _
  refine ⟨_, (pss_cons (ps_if (pt_val (pe_callB (call_anyB rfl) rfl M.any bt_any (pa_cons (pe_lc ["name", "begin", "end", "bench", "day"] [none, none, none, some 1, some 2] rfl (pi_list (pe_fld (pv 0) rfl)) (fun _ _ _ => (pg_trip (K := K) (i := 0) (j := 1) (l := 2) rfl rfl (show (["name", "begin", "end", "bench", "day"] : List Str).Nodup by decide +kernel) rfl rfl rfl rfl rfl rfl)) (fun _ _ _ => pf_nil) (fun _ _ _ => (pe_and (pe_cmpR op_eq (pv 0) (pv 3) (nomark _)) (pe_one (pe_chain op_le op_lt (pv 1) (pv 4) (pv 2)))))) pa_nil))) (pss_one (ps_ret pe_int)) pss_nil) (pss_one (ps_ret (pe_ix ix_tup (pe_dget hu (pe_fld (pv 0) rfl) (pe_tup (pa_cons pe_str (pa_cons (pv 1) pa_nil))) (fun _ _ => rfl)) pe_int (fun _ _ => rfl))))), ?_⟩
  refine ⟨_, rfl, p, C, dx, fs, _, rfl, hF.hp, T.cl, T.nH, hF.fH, lh, rfl, ⟨_, sqL_new hF.hH⟩, fun D hD => ?_⟩
  let Pv34 : Nat → St → List V → Hp → Prop := fun m τ ys H1 => ∃ v1 v2 v3 : Option V, τ = [v1, v2, v3, some (.str bn), some (.int day)] ∧ ys = (((B.filter (selW "shut")).take m).map (shutOn bn day)).map V.bl ∧ H1 D = some (.lst ys) ∧ Same H H1
  refine lc_any (n := yh.length) Pv34 ?_ (fun m τ ys H1 hm h => ?_) (fun m τ ys H1 hm h => ?_) (fun τ ys H1 h => ?_) ?_ ?_
  ·exact ⟨none, none, none, rfl, rfl, upd_same, same_new' hD _⟩
  ·obtain ⟨v1, v2, v3, rfl, ey, hE, s1⟩ := h
   exact ⟨hE, by rw [ey, List.length_map, List.length_map, List.length_take]; lia⟩
  ·obtain ⟨v1, v2, v3, rfl, ey, hE, s1⟩ := h
   exact ⟨yh, yh[m]'hm, s1.seq (sqL_new hF.hH), gE hm⟩
  ·obtain ⟨v1, v2, v3, rfl, ey, hE, s1⟩ := h
   exact ⟨yh, s1.seq (sqL_new hF.hH), Nat.le_refl _⟩
  ·rintro m τ ys H1 x H2 hm ⟨v1, v2, v3, rfl, ey, hE, s1⟩ ⟨rfl, e1⟩
   obtain ⟨r', er', t, rfl, hT⟩ := paired_get hF.tH (e1 _ (s1.seq (sqL_new hF.hH)))
   obtain ⟨b', f', t', rfl⟩ := word_shut (of_decide_eq_true (List.mem_filter.mp (List.mem_of_getElem? er')).2)
   have hT' : SqT K H2 t [.str b', .int f', .int t'] := s1.tup hT
   have fin : ∀ bb : Bool, bb = shutOn bn day (.shut b' f' t') → H2 D = some (.lst ys) ∧ ∃ v1 v2 v3 : Option V, ([some (.str b'), some (.int f'), some (.int t'), some (.str bn), some (.int day)] : St) = [v1, v2, v3, some (.str bn), some (.int day)] ∧ ys ++ [V.bl bb] = (((B.filter (selW "shut")).take (m + 1)).map (shutOn bn day)).map V.bl ∧ upd H2 D (.lst (ys ++ [V.bl bb])) D = some (.lst (ys ++ [V.bl bb])) ∧ Same H (upd H2 D (.lst (ys ++ [V.bl bb]))) := fun bb hb => by
    refine ⟨hE, _, _, _, rfl, ?_, upd_same, fun c o e => ?_⟩
    ·rw [takeS er', List.map_append, List.map_append, ey, hb]; rfl
    ·rw [upd_ne (ne_of_none e hD)]; exact s1 _ _ e
   have eS : shutOn bn day (.shut b' f' t') = decide (b' = bn ∧ f' ≤ day ∧ day < t') := rfl
   refine ⟨t, _, rfl, hT', rfl, _, _, rfl, _, _, rfl, _, _, rfl, rfl, ?_⟩
   refine ⟨_, rfl, _, rfl, rfl, _, rfl, ite2 (fun y => ?_) (fun y => ?_)⟩
   ·refine ⟨_, rfl, _, rfl, _, _, rfl, rfl, _, rfl, ite2 (fun y2 => ⟨_, rfl, _, _, rfl, rfl, ?_⟩) (fun y2 => ?_)⟩
    ·refine fin _ ?_
     rw [eS]
     by_cases e : day < t'
     ·rw [decide_eq_true e, decide_eq_true ⟨eqS y, of_decide_eq_true y2, e⟩]
     ·rw [decide_eq_false e, decide_eq_false (fun z => e z.2.2)]
    ·exact fin _ (by rw [eS, decide_eq_false (fun z => y2 (decide_eq_true z.2.1))])
   ·exact fin _ (by rw [eS, decide_eq_false (fun z => y (by rw [z.1]; exact yesS _))])
  ·rintro τ ys H1 ⟨v1, v2, v3, rfl, ey, hE, s1⟩
   rw [show yh.length = (B.filter (selW "shut")).length from lt, List.take_length] at ey
   subst ey
   rw [shut_any] at q
   refine ⟨D, _, rfl, sqL_new hE, _, rfl, ite2 (fun y => ?_) (fun y => ?_)⟩
   ·rw [if_pos y] at q
    exact q _ s1
   ·rw [if_neg y] at q
    refine ⟨_, rfl, p, C, dx, fs, _, rfl, s1 _ _ hF.hp, T.cl, T.nI, hF.fI, _, rfl, by show 2 ≤ sizeLine; decide, fun t1 ht1 => ?_⟩
    have s2 := s1.trans (same_new' ht1 (.tup [.str "bench", .str bn]))
    obtain ⟨t, dg, hT⟩ := bench_key (hF.sd.same s2) hben (s2 _ _ hF.hI) upd_same
    exact ⟨ds, _, rfl, dg, t, _, _, _, rfl, rfl, hT, (show atI [V.int r] 0 = some _ from rfl), q _ s2⟩
end
abbrev sTaken : Stmt := top 10
def TakenAre (K : Fg) (H : Hp) (pl : List (Str × Str × Int)) : List V → List Str → Prop := Paired fun v w => ∃ t, v = .ref t ∧ SqT K H t [.str w, .str (look pl w).1, .int (look pl w).2]
inductive IspTaken (K : Fg) (C : Addr) (vs : List V) (H : Hp) (Q : VK) : Prop
 | mk (p P : Addr) (n : Int) (B : List BR) (pl : List (Str × Str × Int)) (h1 : vs = [.ref p, .ref P]) (h2 : FcAt K C H p n B) (h3 : BookOk n B) (h4 : PlanAt K H P pl) (h5 : PlanFor n B pl) (h6 : B.flatMap (gW pl) = []) (h7 : ∀ (D : Addr) (ys : List V) (H' : Hp), Same H H' → H' D = some (.lst ys) → TakenAre K H' pl ys (wks B) → Q (.ref D) H')
def spTaken (K : Fg) (C : Addr) : Sp := fun vs H Q _ => IspTaken K C vs H Q
theorem pl_all {n : Int} {B : List BR} {pl : List (Str × Str × Int)} (hpf : PlanFor n B pl) (wb : WB n B) (hW : B.flatMap (gW pl) = []) : pl.Perm ((wks B).map fun w => (w, look pl w)) := by
 have nd := hpf.nd wb
 have e1 : (wks B).filter (hasW B) = wks B := List.filter_eq_self.mpr fun w hw => by
  have hk := hasK_iff.mp (hasK_of_gW hW (wks_mem.mp hw))
  rw [hpf.keys] at hk
  exact (List.mem_filter.mp (List.mem_reverse.mp hk)).2
 have e2 : pl = (pl.map (·.1)).map fun w => (w, look pl w) := by
  rw [List.map_map]
  refine (List.map_id pl).symm.trans (List.map_congr_left fun p hp => ?_)
  obtain ⟨w, v, b⟩ := p
  show (w, v, b) = (w, look pl w)
  rw [look_of nd hp]
 have e3 : (pl.map (·.1)).Perm (wks B) := by
  rw [hpf.keys, e1]
  exact List.reverse_perm _
 have h4 := e3.map fun w => (w, look pl w)
 rwa [← e2] at h4
theorem permSum {a b : List Int} (h : a.Perm b) : a.sum = b.sum := by
 induction h with
 | nil => rfl
 | cons x _ ih => rw [List.sum_cons, List.sum_cons, ih]
 | swap x y l => rw [List.sum_cons, List.sum_cons, List.sum_cons, List.sum_cons]; lia
 | trans _ _ i j => exact i.trans j
theorem sum_all {n : Int} {B : List BR} {pl : List (Str × Str × Int)} (hpf : PlanFor n B pl) (wb : WB n B) (hW : B.flatMap (gW pl) = []) (f : Str × Str × Int → Int) : (pl.map f).sum = ((wks B).map fun w => f (w, look pl w)).sum := by
 have h := permSum ((pl_all hpf wb hW).map f)
 rw [List.map_map] at h
 exact h
section
variable {P : Program} {w : World} {K : Fg} {mg : Str → Option Value} {base : Heap}
theorem scTaken : FnScope ["facts", "plan"] ["facts", "plan"] (defScope sTaken) := ⟨rfl, rfl, rfl, by decide +kernel, rfl, by decide +kernel, by decide +kernel⟩
theorem okTaken {C : Addr} (F : Fn K mg "choices_taken" sTaken) (T : FcTxt K mg C) : Cal P w K mg base 1 "choices_taken" ["facts", "plan"] (spTaken K C) := by
 refine cal_of F scTaken (fun _ _ _ _ _ _ => bind2 (fun _ _ => rfl)) (fun vs H Q E h => ?_) (fun f cdv A outer s H vs Q E hr h => ?_)
 ·obtain ⟨p, P, n, B, pl, rfl, _⟩ := h
  rfl
 obtain ⟨p, P, n, B, pl, rfl, hFc, bk, hP, hpf, hW, q⟩ := h
 obtain ⟨dx, lw, lb, lh, ls, la, ds, fs, kvs, yh, ysS, ya, hF⟩ := id hFc
 have hp := hF.hp
 have lkW := hF.fW
 have hlw := hF.hW
 have hz : (20000 : Nat) < sizeLine := by decide
 have hu : (A.deeper (PyProof.Rows.envOfC "choices_taken" (defScope sTaken) s.heap.objs.size f cdv)).units + 1 < cLine := Nat.lt_of_le_of_lt (Nat.add_le_add_left (by decide) _) hr.un
 have bl := bk.wb.len
 have wl : (wks B).length ≤ B.length := List.length_filterMap_le _ _
 have nd := hpf.nd bk.wb
 refine ⟨_, (pss_one (ps_ret (pe_lc ["work", "plan"] [none, some 1] rfl (pi_list (pe_fld (pv 0) rfl)) (fun _ _ _ => (pg_name (i := 0) (show (["work", "plan"] : List Str).Nodup by decide +kernel) rfl (Or.inl rfl) (Or.inr rfl))) (fun _ _ _ => pf_nil) (fun _ _ _ => (pe_op (op_catGK (K := K) rfl) (pe_tup (pa_cons (pv 0) pa_nil)) (pe_dget hu (pv 1) (pv 0) (fun _ _ => rfl))))))), ?_⟩
 refine ⟨_, rfl, p, C, dx, fs, _, rfl, hp, T.cl, T.nW, lkW, lw, rfl, ⟨_, sqL_new hlw⟩, fun D hD => ?_⟩
 let Pv35 : Nat → St → List V → Hp → Prop := fun m τ ys H1 => ∃ v : Option V, τ = [v, some (.ref P)] ∧ TakenAre K H1 pl ys ((wks B).take m) ∧ ys.length ≤ m ∧ H1 D = some (.lst ys) ∧ Same H H1
 refine lc_any (n := (wks B).length) Pv35 ?_ (fun m τ ys H1 hm h => ?_) (fun m τ ys H1 hm h => ?_) (fun τ ys H1 h => ?_) ?_ ?_
 ·exact ⟨none, rfl, .nil, Nat.le_refl _, upd_same, same_new' hD _⟩
 ·obtain ⟨v, rfl, hY, hl, hE, s1⟩ := h
  exact ⟨hE, by lia⟩
 ·obtain ⟨v, rfl, hY, hl, hE, s1⟩ := h
  exact ⟨_, .str (wks B)[m], s1.seq (sqL_new hlw), by rw [List.getElem?_map, gE hm]; rfl⟩
 ·obtain ⟨v, rfl, hY, hl, hE, s1⟩ := h
  exact ⟨_, s1.seq (sqL_new hlw), by rw [List.length_map]; exact Nat.le_refl _⟩
 ·rintro m τ ys H1 x H2 hm ⟨v, rfl, hY, hl, hE, s1⟩ ⟨rfl, e1⟩
  have ew : (wks B)[m]? = some (wks B)[m] := gE hm
  have ex := e1 _ (s1.seq (sqL_new hlw))
  rw [List.getElem?_map, ew] at ex
  cases ex
  generalize (wks B)[m] = wk at ew
  obtain ⟨l, c, hmem, _⟩ := hpf.get bk.wb (hasK_of_gW hW (wks_mem.mp (List.mem_of_getElem? ew)))
  refine ⟨_, rfl, by show 1 ≤ sizeLine; decide, fun t1 ht1 => ?_⟩
  have s2 := same_new' ht1 (.tup [.str wk])
  obtain ⟨t, dg, hT⟩ := plan_get (PlanAt.same hP (s1.trans s2)) nd hmem
  refine ⟨_, rfl, _, rfl, P, _, rfl, dg, t1, t, _, _, rfl, rfl, sqT_new upd_same, hT, by simp, by show 3 ≤ sizeLine; decide, fun p3 H3 s3 hT3 => ?_⟩
  have s23 := s2.trans s3
  have hE3 := s23 _ _ hE
  refine ⟨hE3, _, rfl, ?_, by rw [List.length_append]; exact Nat.succ_le_succ hl, upd_same, fun b o e => ?_⟩
  ·rw [takeS ew]
   exact Paired.snoc (Paired.mapP hY fun _ _ ⟨t, e, z⟩ => ⟨t, e, SqT_upd hE3 (s23.tup z)⟩) ⟨p3, rfl, SqT_upd hE3 hT3⟩
  ·rw [upd_ne (ne_of_none e hD)]; exact s23 _ _ (s1 _ _ e)
 ·rintro τ ys H1 ⟨v, rfl, hY, hl, hE, s1⟩
  rw [List.take_length] at hY
  exact q D ys H1 s1 hE hY
end
abbrev sWR : Stmt := top 13
def TupK (H : Hp) : List V → List (List Key) → Prop := Paired fun v ks => ∃ t, v = .ref t ∧ H t = some (.tup (ks.map kV))
theorem TupK.same {H H' : Hp} {vs : List V} {kss : List (List Key)} (h : TupK H vs kss) (s : Same H H') : TupK H' vs kss := Paired.mapP h fun _ _ ⟨t, e, z⟩ => ⟨t, e, s _ _ z⟩
theorem TupK.updL {H : Hp} {W : Addr} {xs zs : List V} {vs : List V} {kss : List (List Key)} (h : TupK H vs kss) (hW : H W = some (.lst xs)) : TupK (upd H W (.lst zs)) vs kss := Paired.mapP h fun _ _ ⟨t, e, z⟩ => ⟨t, e, by rw [upd_ne (ne_of z hW (by intro q; cases q))]; exact z⟩
def benchP : BR → Option (Str × Int)
 | .bench b r => some (b, r)
 | _ => none
def bnP (B : List BR) : List (Str × Int) := B.filterMap benchP
theorem bns_eq (B : List BR) : bns B = (bnP B).map (·.1) := by
 unfold bns bnP
 rw [List.map_filterMap]
 congr 1
 funext r
 cases r <;> rfl
theorem bnP_mem {B : List BR} {b : Str} {r : Int} (h : (b, r) ∈ bnP B) : BR.bench b r ∈ B := by
 obtain ⟨q, hq, e⟩ := List.mem_filterMap.mp h
 cases q with
 | bench b' r' => cases e; exact hq
 | _ => cases e
theorem fm_fm {α β γ : Type} {g : α → List γ} {f : α → Option β} {h : β → List γ} (e : ∀ a, g a = match f a with | none => [] | some b => h b) : ∀ L : List α, L.flatMap g = (L.filterMap f).flatMap h
 | [] => rfl
 | a :: L => by
  rw [List.flatMap_cons, fm_fm e L, e a, List.filterMap_cons]
  cases f a with
  | none => rfl
  | some b => rw [List.flatMap_cons]
def hR (n : Int) (B : List BR) (pl : List (Str × Str × Int)) (q : Str × Int) : List (List Key) := (daysOf (fun day => roomR B pl q.1 q.2 day < 0) n.toNat).map fun d : Nat => [Sum.inr ("room" : Str), Sum.inr q.1, Sum.inl (d : Int)]
theorem gR_eq (n : Int) (B : List BR) (pl : List (Str × Str × Int)) : B.flatMap (gR n B pl) = (bnP B).flatMap (hR n B pl) := fm_fm (fun a => by cases a <;> rfl) B
theorem days_next {f : Int → Prop} [DecidablePred f] (j : Nat) : daysOf f (j + 1) = daysOf f j ++ (if f j then [j] else []) := by
 unfold daysOf
 rw [List.range_succ, List.filter_append]
 congr 1
 by_cases e : f j
 ·rw [if_pos e]; simp [List.filter_cons, e]
 ·rw [if_neg e]; simp [List.filter_cons, e]
inductive IspWR (K : Fg) (C : Addr) (vs : List V) (H : Hp) (Q : VK) : Prop
 | mk (p tk : Addr) (n : Int) (B : List BR) (pl : List (Str × Str × Int)) (ys : List V) (h1 : vs = [.ref p, .ref tk]) (h2 : FcAt K C H p n B) (h3 : BookOk n B) (h4 : PlanFor n B pl) (h5 : B.flatMap (gW pl) = []) (h6 : H tk = some (.lst ys)) (h7 : TakenAre K H pl ys (wks B)) (h8 : ∀ (D : Addr) (xs : List V) (H' : Hp), Same H H' → H' D = some (.lst xs) → xs.length ≤ 5000 → TupK H' xs (B.flatMap (gR n B pl)) → Q (.ref D) H')
def spWR (K : Fg) (C : Addr) : Sp := fun vs H Q _ => IspWR K C vs H Q
section
variable {P : Program} {w : World} {K : Fg} {mg : Str → Option Value} {base : Heap}
theorem scWR : FnScope ["facts", "taken", "wrong", "bench", "day"] ["facts", "taken"] (defScope sWR) := ⟨rfl, rfl, rfl, by decide +kernel, rfl, by decide +kernel, by decide +kernel⟩
theorem okWR {C fU fR : Addr} {fdU fdR : FuncData} (F : Fn K mg "wrong_rooms" sWR) (M : Mg mg) (T : FcTxt K mg C) (GU : FnOk P w K mg base CX0 2 fU fdU ["self", "choice", "bench", "day"] (spFUsed K C)) (bU : Binds K fdU ["self", "choice", "bench", "day"] []) (mU : Meth K C "used_by" fU) (GR : FnOk P w K mg base CX0 1 fR fdR ["self", "bench", "day"] (spFRoom K C)) (bR : Binds K fdR ["self", "bench", "day"] []) (mR : Meth K C "room_of" fR) : Cal P w K mg base 4 "wrong_rooms" ["facts", "taken"] (spWR K C) := by
 refine cal_of F scWR (fun _ _ _ _ _ _ => bind2 (fun _ _ => rfl)) (fun vs H Q E h => ?_) (fun f cdv A outer s H vs Q E hr h => ?_)
 ·obtain ⟨p, tk, n, B, pl, ys, rfl, _⟩ := h
  rfl
 obtain ⟨p, tk, n, B, pl, ys, rfl, hFc, bk, hpf, hW, htk, hTk, q⟩ := h
 obtain ⟨dx, lw, lb, lh, ls, la, ds, fs, kvs, yh, ysS, ya, hF⟩ := id hFc
 have hz : (20000 : Nat) < sizeLine := by decide
 have bl := bk.wb.len
 have n1 := bk.n1
 have n12 := bk.n12
 have lT := Paired.length hTk
 have wl : (wks B).length ≤ B.length := List.length_filterMap_le _ _
 have pl1 : (bnP B).length ≤ B.length := List.length_filterMap_le _ _
 have hlb : H lb = some (.lst (((bnP B).map (·.1)).map V.str)) := by rw [← bns_eq]; exact hF.hB
 refine ⟨_, (pss_cons (ps_set (i := 2) scWR.nd rfl (Or.inl rfl) (pe_lst pa_nil))
  (pss_cons (ps_for PassesOwn.never rfl (pi_list (pe_fld (pv 0) rfl)) (pg_name (i := 3) scWR.nd rfl (Or.inr rfl) (Or.inl rfl)) (pss_one (ps_for PassesOwn.never rfl (pi_range1 rfl M.range_ (pa_cons (pe_fld (pv 0) rfl) pa_nil)) (pg_name (i := 4) scWR.nd rfl (Or.inr rfl) (Or.inl rfl))
   (pss_one (ps_if (pt_cmpR op_gt (pe_callB (call_sumI rfl) rfl M.sum bt_sum (pa_cons (pe_lc ["choice", "facts", "bench", "day"] [none, some 0, some 3, some 4] rfl (pi_list (pv 1)) (fun _ _ _ => (pg_name (i := 0) (show (["choice", "facts", "bench", "day"] : List Str).Nodup by decide +kernel) rfl (Or.inl rfl) (Or.inr rfl))) (fun _ _ _ => pf_nil) (fun _ _ _ => (pe_meth (pv 1) T.cl mU GU (hr.mono (by decide)) bU .nil pass0 (pa_cons (pv 0) (pa_cons (pv 2) (pa_cons (pv 3) pa_nil)))))) pa_nil)) (pe_meth (pv 0) T.cl mR GR (hr.mono (by decide)) bR .nil pass0 (pa_cons (pv 3) (pa_cons (pv 4) pa_nil))) (nomark _)) (pss_one (ps_expr (pe_bm PySem.F.plainAttrs_list PySem.F.slot_list_append PySem.F.type_list_append mt_append (pv 2) (pa_cons (pe_tup (pa_cons pe_str (pa_cons (pv 3) (pa_cons (pv 4) pa_nil)))) pa_nil)))) pss_nil)))))
  (pss_one (ps_ret (pv 2))))), ?_⟩
 refine ⟨by show 0 ≤ sizeLine; decide, fun W hW0 => ?_⟩
 have s0 := same_new' hW0 (.lst [])
 let Pv36 : Nat → St → Hp → Prop := fun i σ H1 => ∃ (v3 v4 : Option V) (xs : List V), σ = [some (.ref p), some (.ref tk), some (.ref W), v3, v4] ∧ H1 W = some (.lst xs) ∧ xs.length ≤ 12 * i ∧ TupK H1 xs (((bnP B).take i).flatMap (hR n B pl)) ∧ Same H H1
 refine ⟨_, rfl, p, C, dx, fs, _, rfl, s0 _ _ hF.hp, T.cl, T.nB, hF.fB, lb, rfl, ⟨_, sqL_new (s0 _ _ hlb)⟩, for_list (K := K) (a := lb) (xs := ((bnP B).map (·.1)).map V.str) Pv36 ⟨none, none, [], rfl, upd_same, Nat.le_refl _, .nil, s0⟩ (fun i σ H1 _ h => ?_) ?_ ?_⟩
 ·obtain ⟨v3, v4, xs, rfl, hx, lx, tx, s1⟩ := h
  exact s1.seq (sqL_new hlb)
 ·rintro i x σ H1 e1 ⟨v3, v4, xs, rfl, hx, lx, tx, s1⟩
  rw [List.getElem?_map, List.getElem?_map] at e1
  obtain ⟨⟨bn, r⟩, eb⟩ : ∃ q, (bnP B)[i]? = some q := by
   cases e : (bnP B)[i]? with
   | none => rw [e] at e1; cases e1
   | some q => exact ⟨q, rfl⟩
  rw [eb] at e1
  cases e1
  have hben := bnP_mem (List.mem_of_getElem? eb)
  have il := (List.getElem?_eq_some_iff.mp eb).1
  let Pv37 : Nat → St → Hp → Prop := fun j σ H2 => ∃ (v4 : Option V) (xs : List V), σ = [some (.ref p), some (.ref tk), some (.ref W), some (.str bn), v4] ∧ H2 W = some (.lst xs) ∧ xs.length ≤ 12 * i + j ∧ TupK H2 xs (((bnP B).take i).flatMap (hR n B pl) ++ (daysOf (fun day => roomR B pl bn r day < 0) j).map fun d : Nat => [Sum.inr ("room" : Str), Sum.inr bn, Sum.inl (d : Int)]) ∧ Same H H2
  refine ⟨_, rfl, p, C, dx, fs, _, rfl, s1 _ _ hF.hp, T.cl, T.nD, hF.fD, n, rfl, by lia, by lia, for_range (lo := 0) (n := n.toNat) Pv37 ⟨_, _, rfl, hx, lx, by rw [show daysOf (fun day => roomR B pl bn r day < 0) 0 = [] from rfl, List.map_nil, List.append_nil]; exact tx, s1⟩ ?_ ?_⟩
  ·rintro j σ H2 hj ⟨v4, xs, rfl, hx, lx, tx, s2⟩
   rw [Int.zero_add]
   have htk2 := s2 _ _ htk
   refine ⟨_, rfl, tk, rfl, ⟨_, sqL_new htk2⟩, fun D hD => ?_⟩
   let Pv38 : Nat → St → List V → Hp → Prop := fun m τ zs H3 => ∃ v : Option V, τ = [v, some (.ref p), some (.str bn), some (.int j)] ∧ zs = (((wks B).take m).map fun w => useR B bn j (w, look pl w)).map V.int ∧ H3 D = some (.lst zs) ∧ Same H2 H3
   refine lc_any (n := (wks B).length) Pv38 ?_ (fun m τ zs H3 hm h => ?_) (fun m τ zs H3 hm h => ?_) (fun τ zs H3 h => ?_) ?_ ?_
   ·exact ⟨none, rfl, rfl, upd_same, same_new' hD _⟩
   ·obtain ⟨v, rfl, rfl, hE, s3⟩ := h
    exact ⟨hE, by rw [List.length_map, List.length_map, List.length_take]; lia⟩
   ·obtain ⟨v, rfl, rfl, hE, s3⟩ := h
    exact ⟨ys, ys[m]'(by lia), s3.seq (sqL_new htk2), gE (by lia)⟩
   ·obtain ⟨v, rfl, rfl, hE, s3⟩ := h
    exact ⟨ys, s3.seq (sqL_new htk2), by lia⟩
   ·rintro m τ zs H3 x H4 hm ⟨v, rfl, rfl, hE, s3⟩ ⟨rfl, e2⟩
    obtain ⟨wk, ewk, t, rfl, hT⟩ := paired_get hTk (e2 _ (s3.seq (sqL_new htk2)))
    obtain ⟨l, c, hmem, hway, b0, b1⟩ := hpf.get bk.wb (hasK_of_gW hW (wks_mem.mp (List.mem_of_getElem? ewk)))
    have s23 := s2.trans s3
    refine ⟨_, rfl, p, dx, fs, rfl, s23 _ _ hF.hp, hF.nU, _, rfl, _, rfl, _, rfl, p, t, n, B, wk, _, bn, _, l, c, j, rfl, hFc.same s23, bk.wb, s23.tup hT, hway, fun H5 s5 => ?_⟩
    refine ⟨s5 _ _ hE, _, rfl, ?_, upd_same, fun b o e => ?_⟩
    ·rw [takeS ewk, List.map_append, List.map_append]; rfl
    ·rw [upd_ne (ne_of_none e hD)]; exact s5 _ _ (s3 _ _ e)
   ·rintro τ zs H3 ⟨v, rfl, rfl, hE, s3⟩
    rw [List.take_length] at hE
    have s23 := s2.trans s3
    refine ⟨D, _, rfl, sqL_new hE, _, rfl, p, dx, fs, rfl, s23 _ _ hF.hp, hF.nR, _, rfl, _, rfl, p, n, B, bn, r, j, rfl, hFc.same s23, bk.wb, hben, fun H4 s4 => ?_⟩
    have s24 := s3.trans s4
    have hx4 := s24 _ _ hx
    have tx4 := tx.same s24
    rw [← sum_all hpf bk.wb hW (useR B bn j)]
    refine ⟨_, _, rfl, rfl, _, rfl, ite2 (fun y => ?_) (fun y => ?_)⟩
    ·have hneg : roomR B pl bn r j < 0 := by
      have z : (pl.map (useR B bn j)).sum > baseR B bn r j := of_decide_eq_true y
      unfold roomR
      lia
     refine ⟨_, rfl, .inl ⟨rfl, _, sqL_new hx4⟩, _, rfl, _, rfl, by show 3 ≤ sizeLine; decide, fun t ht => ?_⟩
     have s5 := same_new' ht (.tup [.str "room", .str bn, .int j])
     have hx5 := s5 _ _ hx4
     refine ⟨W, _, _, rfl, rfl, hx5, by lia, _, _, rfl, upd_same, by rw [List.length_append]; exact Nat.succ_le_succ lx, ?_, fun b o e => ?_⟩
     ·rw [days_next, if_pos hneg, List.map_append, ← List.append_assoc]
      exact Paired.snoc ((tx4.same s5).updL hx5) ⟨t, rfl, by rw [upd_ne (ne_of upd_same hx5 (by intro z; cases z))]; exact upd_same⟩
     ·rw [upd_ne (ne_of_none e hW0)]; exact s5 _ _ (s24 _ _ (s2 _ _ e))
    ·have hpos : ¬ roomR B pl bn r j < 0 := fun z => y (decide_eq_true (by
      unfold roomR at z
      show (pl.map (useR B bn j)).sum > baseR B bn r j
      lia))
     refine ⟨_, _, rfl, hx4, by lia, ?_, s2.trans s24⟩
     rw [days_next, if_neg hpos, List.append_nil]
     exact tx4
  ·rintro σ H2 ⟨v4, xs, rfl, hx, lx, tx, s2⟩
   refine ⟨_, _, _, rfl, hx, by lia, ?_, s2⟩
   rw [fm_next _ eb]
   exact tx
 ·rintro σ H1 ⟨v3, v4, xs, rfl, hx, lx, tx, s1⟩
  rw [List.length_map, List.length_map] at lx tx
  rw [List.take_length, ← gR_eq] at tx
  exact ⟨_, rfl, q W xs H1 s1 hx (by lia) tx⟩
end
abbrev sWS : Stmt := top 14
theorem sum_ite (c m : Int) : ∀ N : Nat, ((List.range N).map fun dd : Nat => if c = (dd : Int) then m else 0).sum = if 0 ≤ c ∧ c < N then m else 0
 | 0 => by rw [if_neg (by lia)]; rfl
 | N + 1 => by
  rw [sum_range1 (fun dd : Nat => if c = (dd : Int) then m else 0), sum_ite c m N]
  by_cases e : c = (N : Int)
  ·rw [if_pos e, if_neg (by lia), if_pos (by lia)]; lia
  ·rw [if_neg e]
   by_cases e2 : 0 ≤ c ∧ c < N
   ·rw [if_pos e2, if_pos (by lia)]; lia
   ·rw [if_neg e2, if_neg (by lia)]; lia
theorem sum_sub (f g : Nat → Int) : ∀ N : Nat, ((List.range N).map fun dd : Nat => f dd - g dd).sum = ((List.range N).map f).sum - ((List.range N).map g).sum
 | 0 => rfl
 | N + 1 => by rw [sum_range1 (fun dd => f dd - g dd), sum_range1 f, sum_range1 g, sum_sub f g N]; lia
theorem sum_swap {α : Type} (f : Nat → α → Int) (N : Nat) : ∀ L : List α, ((List.range N).map fun dd : Nat => (L.map (f dd)).sum).sum = (L.map fun a => ((List.range N).map fun dd : Nat => f dd a).sum).sum
 | [] => by
  show ((List.range N).map fun _ : Nat => (0 : Int)).sum = 0
  induction N with
  | zero => rfl
  | succ N ih => rw [sum_range1 (fun _ => (0 : Int)), ih]; rfl
 | a :: L => by
  have h := sum_swap f N L
  have e : ∀ M : Nat, ((List.range M).map fun dd : Nat => ((a :: L).map (f dd)).sum).sum = ((List.range M).map fun dd : Nat => f dd a).sum + ((List.range M).map fun dd : Nat => (L.map (f dd)).sum).sum := by
   intro M
   induction M with
   | zero => rfl
   | succ M ih =>
    rw [sum_range1 (fun dd => ((a :: L).map (f dd)).sum), sum_range1 (fun dd => f dd a), sum_range1 (fun dd => (L.map (f dd)).sum), ih, List.map_cons, List.sum_cons]
    lia
  rw [e N, h, List.map_cons, List.sum_cons]
theorem chP_sum {n : Int} {B : List BR} {pl : List (Str × Str × Int)} (wb : WB n B) (hg : PlanGood n B pl) {p : Str × Str × Int} (hp : p ∈ pl) (st : Str) (day : Nat) : ((List.range (day + 1)).map fun dd : Nat => chP B st dd p).sum = gainR B st day p := by
 obtain ⟨l, c, hway, b0, b1⟩ := hg p hp
 have hok := wb.ok _ hway
 have l1 : 1 ≤ l := hok.1
 have hl := lenB_of wb hway
 unfold gainR
 have e : (fun dd : Nat => chP B st dd p) = fun dd : Nat => (if p.2.2 + lenB B p.1 p.2.1 = (dd : Int) then manyB B 2 p.1 p.2.1 st else 0) - (if p.2.2 = (dd : Int) then manyB B 1 p.1 p.2.1 st else 0) := rfl
 rw [e, sum_sub (fun dd : Nat => if p.2.2 + lenB B p.1 p.2.1 = (dd : Int) then manyB B 2 p.1 p.2.1 st else 0), sum_ite, sum_ite, hl]
 congr 1
 ·by_cases e : p.2.2 + l ≤ day
  ·rw [if_pos e, if_pos (by lia)]
  ·rw [if_neg e, if_neg (by lia)]
 ·by_cases e : p.2.2 ≤ day
  ·rw [if_pos e, if_pos (by lia)]
  ·rw [if_neg e, if_neg (by lia)]
theorem storeR_eq {n : Int} {B : List BR} {pl : List (Str × Str × Int)} (wb : WB n B) (hg : PlanGood n B pl) (st : Str) (fi : Int) (day : Nat) : storeR B pl st fi day = fi + (pl.map (gainR B st day)).sum := by
 unfold storeR
 congr 1
 have h := sum_swap (fun dd p => chP B st (dd : Nat) p) (day + 1) pl
 refine h.trans ?_
 congr 1
 exact List.map_congr_left fun p hp => chP_sum wb hg hp st day
theorem fm_filter {α β : Type} {g : α → List β} {f : α → Bool} (e : ∀ a, f a = false → g a = []) : ∀ L : List α, L.flatMap g = (L.filter f).flatMap g
 | [] => rfl
 | a :: L => by
  rw [List.flatMap_cons, fm_filter e L]
  cases h : f a with
  | true => rw [List.filter_cons_of_pos h, List.flatMap_cons]
  | false => rw [List.filter_cons_of_neg (by rw [h]; decide), e a h]; rfl
inductive IspWS (K : Fg) (C : Addr) (vs : List V) (H : Hp) (Q : VK) : Prop
 | mk (p tk : Addr) (n : Int) (B : List BR) (pl : List (Str × Str × Int)) (ys : List V) (h1 : vs = [.ref p, .ref tk]) (h2 : FcAt K C H p n B) (h3 : BookOk n B) (h4 : PlanFor n B pl) (h5 : B.flatMap (gW pl) = []) (h6 : H tk = some (.lst ys)) (h7 : TakenAre K H pl ys (wks B)) (h8 : ∀ (D : Addr) (xs : List V) (H' : Hp), Same H H' → H' D = some (.lst xs) → xs.length ≤ 5200 → TupK H' xs (B.flatMap (gS n B pl)) → Q (.ref D) H')
def spWS (K : Fg) (C : Addr) : Sp := fun vs H Q _ => IspWS K C vs H Q
section
variable {P : Program} {w : World} {K : Fg} {mg : Str → Option Value} {base : Heap}
theorem scWS : FnScope ["facts", "taken", "wrong", "store", "most", "first", "day"] ["facts", "taken"] (defScope sWS) := ⟨rfl, rfl, rfl, by decide +kernel, rfl, by decide +kernel, by decide +kernel⟩
theorem okWS {C fG : Addr} {fdG : FuncData} (F : Fn K mg "wrong_stores" sWS) (M : Mg mg) (T : FcTxt K mg C) (GG : FnOk P w K mg base CX0 2 fG fdG ["self", "choice", "store", "day"] (spFGain K C)) (bG : Binds K fdG ["self", "choice", "store", "day"] []) (mG : Meth K C "gain_by" fG) : Cal P w K mg base 4 "wrong_stores" ["facts", "taken"] (spWS K C) := by
 refine cal_of F scWS (fun _ _ _ _ _ _ => bind2 (fun _ _ => rfl)) (fun vs H Q E h => ?_) (fun f cdv A outer s H vs Q E hr h => ?_)
 ·obtain ⟨p, tk, n, B, pl, ys, rfl, _⟩ := h
  rfl
 obtain ⟨p, tk, n, B, pl, ys, rfl, hFc, bk, hpf, hW, htk, hTk, q⟩ := h
 obtain ⟨dx, lw, lb, lh, ls, la, ds, fs, kvs, yh, ysS, ya, hF⟩ := id hFc
 have hz : (20000 : Nat) < sizeLine := by decide
 have bl := bk.wb.len
 have n1 := bk.n1
 have n12 := bk.n12
 have lT := Paired.length hTk
 have wl : (wks B).length ≤ B.length := List.length_filterMap_le _ _
 have sl1 : (B.filter (selW "store")).length ≤ B.length := List.length_filter_le _ _
 have lS := Paired.length hF.tS
 have egS : B.flatMap (gS n B pl) = (B.filter (selW "store")).flatMap (gS n B pl) := fm_filter (fun a h => gS_no (of_decide_eq_false h)) B
 rw [egS] at q
 refine ⟨_, (pss_cons (ps_set (i := 2) scWS.nd rfl (Or.inl rfl) (pe_lst pa_nil))
  (pss_cons (ps_for PassesOwn.never rfl (pi_list (pe_fld (pv 0) rfl)) (pg_tup rfl (pgs_cons (pg_name (i := 3) scWS.nd rfl (Or.inr rfl) (Or.inl rfl)) (pgs_cons (pg_name (i := 4) scWS.nd rfl (Or.inl rfl) (Or.inl rfl)) (pgs_cons (pg_name (i := 5) scWS.nd rfl (Or.inl rfl) (Or.inl rfl)) pgs_nil)))) (pss_one (ps_for PassesOwn.never rfl (pi_range1 rfl M.range_ (pa_cons (pe_op op_add (pe_fld (pv 0) rfl) pe_int) pa_nil)) (pg_name (i := 6) scWS.nd rfl (Or.inr rfl) (Or.inl rfl))
   (pss_one (ps_if (pt_not (pt_chain op_le op_le pe_int (pe_op op_add (pv 5) (pe_callB (call_sumI rfl) rfl M.sum bt_sum (pa_cons (pe_lc ["choice", "facts", "store", "day"] [none, some 0, some 3, some 6] rfl (pi_list (pv 1)) (fun _ _ _ => (pg_name (i := 0) (show (["choice", "facts", "store", "day"] : List Str).Nodup by decide +kernel) rfl (Or.inl rfl) (Or.inr rfl))) (fun _ _ _ => pf_nil) (fun _ _ _ => (pe_meth (pv 1) T.cl mG GG (hr.mono (by decide)) bG .nil pass0 (pa_cons (pv 0) (pa_cons (pv 2) (pa_cons (pv 3) pa_nil)))))) pa_nil))) (pv 4))) (pss_one (ps_expr (pe_bm PySem.F.plainAttrs_list PySem.F.slot_list_append PySem.F.type_list_append mt_append (pv 2) (pa_cons (pe_tup (pa_cons pe_str (pa_cons (pv 3) (pa_cons (pv 6) pa_nil)))) pa_nil)))) pss_nil)))))
  (pss_one (ps_ret (pv 2))))), ?_⟩
 refine ⟨by show 0 ≤ sizeLine; decide, fun W hW0 => ?_⟩
 have s0 := same_new' hW0 (.lst [])
 let Pv39 : Nat → St → Hp → Prop := fun i σ H1 => ∃ (v3 v4 v5 v6 : Option V) (xs : List V), σ = [some (.ref p), some (.ref tk), some (.ref W), v3, v4, v5, v6] ∧ H1 W = some (.lst xs) ∧ xs.length ≤ 13 * i ∧ TupK H1 xs (((B.filter (selW "store")).take i).flatMap (gS n B pl)) ∧ Same H H1
 refine ⟨_, rfl, p, C, dx, fs, _, rfl, s0 _ _ hF.hp, T.cl, T.nS, hF.fS, ls, rfl, ⟨_, sqL_new (s0 _ _ hF.hS)⟩, for_list (K := K) (a := ls) (xs := ysS) Pv39 ⟨none, none, none, none, [], rfl, upd_same, Nat.le_refl _, .nil, s0⟩ (fun i σ H1 _ h => ?_) ?_ ?_⟩
 ·obtain ⟨v3, v4, v5, v6, xs, rfl, hx, lx, tx, s1⟩ := h
  exact s1.seq (sqL_new hF.hS)
 ·rintro i x σ H1 e1 ⟨v3, v4, v5, v6, xs, rfl, hx, lx, tx, s1⟩
  obtain ⟨r', er', t, rfl, hT⟩ := paired_get hF.tS e1
  obtain ⟨st, mo, fi, rfl⟩ := word_store (of_decide_eq_true (List.mem_filter.mp (List.mem_of_getElem? er')).2)
  have hT' : SqT K H1 t [.str st, .int mo, .int fi] := s1.tup hT
  have il := (List.getElem?_eq_some_iff.mp er').1
  refine ⟨t, _, rfl, hT', rfl, _, _, rfl, _, _, rfl, _, _, rfl, rfl, ?_⟩
  have eN : (n + 1).toNat = n.toNat + 1 := by lia
  refine ⟨_, rfl, p, C, dx, fs, _, rfl, s1 _ _ hF.hp, T.cl, T.nD, hF.fD, _, _, rfl, rfl, n + 1, rfl, by lia, by lia, ?_⟩
  rw [eN]
  let Pv40 : Nat → St → Hp → Prop := fun j σ H2 => ∃ (v6 : Option V) (xs : List V), σ = [some (.ref p), some (.ref tk), some (.ref W), some (.str st), some (.int mo), some (.int fi), v6] ∧ H2 W = some (.lst xs) ∧ xs.length ≤ 13 * i + j ∧ TupK H2 xs (((B.filter (selW "store")).take i).flatMap (gS n B pl) ++ (daysOf (fun day => storeR B pl st fi day.toNat < 0 ∨ mo < storeR B pl st fi day.toNat) j).map fun d : Nat => [Sum.inr ("store" : Str), Sum.inr st, Sum.inl (d : Int)]) ∧ Same H H2
  refine for_range (lo := 0) (n := n.toNat + 1) Pv40 ⟨_, _, rfl, hx, lx, by rw [show daysOf (fun day => storeR B pl st fi day.toNat < 0 ∨ mo < storeR B pl st fi day.toNat) 0 = [] from rfl, List.map_nil, List.append_nil]; exact tx, s1⟩ ?_ ?_
  ·rintro j σ H2 hj ⟨v6, xs, rfl, hx, lx, tx, s2⟩
   rw [Int.zero_add]
   have htk2 := s2 _ _ htk
   refine ⟨_, rfl, _, rfl, tk, rfl, ⟨_, sqL_new htk2⟩, fun D hD => ?_⟩
   let Pv41 : Nat → St → List V → Hp → Prop := fun m τ zs H3 => ∃ v : Option V, τ = [v, some (.ref p), some (.str st), some (.int j)] ∧ zs = (((wks B).take m).map fun w => gainR B st j (w, look pl w)).map V.int ∧ H3 D = some (.lst zs) ∧ Same H2 H3
   refine lc_any (n := (wks B).length) Pv41 ?_ (fun m τ zs H3 hm h => ?_) (fun m τ zs H3 hm h => ?_) (fun τ zs H3 h => ?_) ?_ ?_
   ·exact ⟨none, rfl, rfl, upd_same, same_new' hD _⟩
   ·obtain ⟨v, rfl, rfl, hE, s3⟩ := h
    exact ⟨hE, by rw [List.length_map, List.length_map, List.length_take]; lia⟩
   ·obtain ⟨v, rfl, rfl, hE, s3⟩ := h
    exact ⟨ys, ys[m]'(by lia), s3.seq (sqL_new htk2), gE (by lia)⟩
   ·obtain ⟨v, rfl, rfl, hE, s3⟩ := h
    exact ⟨ys, s3.seq (sqL_new htk2), by lia⟩
   ·rintro m τ zs H3 x H4 hm ⟨v, rfl, rfl, hE, s3⟩ ⟨rfl, e2⟩
    obtain ⟨wk, ewk, t', rfl, hT2⟩ := paired_get hTk (e2 _ (s3.seq (sqL_new htk2)))
    obtain ⟨l, c, hmem, hway, b0, b1⟩ := hpf.get bk.wb (hasK_of_gW hW (wks_mem.mp (List.mem_of_getElem? ewk)))
    have s23 := s2.trans s3
    refine ⟨_, rfl, p, dx, fs, rfl, s23 _ _ hF.hp, hF.nG, _, rfl, _, rfl, _, rfl, p, t', n, B, wk, _, st, _, l, c, j, rfl, hFc.same s23, bk.wb, s23.tup hT2, hway, fun H5 s5 => ?_⟩
    refine ⟨s5 _ _ hE, _, rfl, ?_, upd_same, fun b o e => ?_⟩
    ·rw [takeS ewk, List.map_append, List.map_append]; rfl
    ·rw [upd_ne (ne_of_none e hD)]; exact s5 _ _ (s3 _ _ e)
   ·rintro τ zs H3 ⟨v, rfl, rfl, hE, s3⟩
    rw [List.take_length] at hE
    have hx4 := s3 _ _ hx
    have tx4 := tx.same s3
    have eS := storeR_eq bk.wb hpf.good st fi j
    rw [sum_all hpf bk.wb hW (gainR B st j)] at eS
    refine ⟨D, _, rfl, sqL_new hE, _, _, rfl, rfl, _, _, rfl, rfl, _, rfl, ?_⟩
    dsimp only
    rw [← eS]
    refine ite2 (fun y => ⟨_, rfl, _, _, rfl, rfl, _, rfl, ite2 (fun y2 => ?_) (fun y2 => ?_)⟩) (fun y => ⟨_, rfl, ite2 (fun y2 => ?_) (fun y2 => absurd rfl y2)⟩)
    ·have hneg : storeR B pl st fi ((j : Nat) : Int).toNat < 0 ∨ mo < storeR B pl st fi ((j : Nat) : Int).toNat := by
      rw [Int.toNat_natCast]
      refine .inr (Int.not_le.mp fun z => ?_)
      rw [decide_eq_true z] at y2
      cases y2
     refine ⟨_, rfl, .inl ⟨rfl, _, sqL_new hx4⟩, _, rfl, _, rfl, by show 3 ≤ sizeLine; decide, fun t ht => ?_⟩
     have s5 := same_new' ht (.tup [.str "store", .str st, .int j])
     have hx5 := s5 _ _ hx4
     refine ⟨W, _, _, rfl, rfl, hx5, by lia, _, _, rfl, upd_same, by rw [List.length_append]; exact Nat.succ_le_succ lx, ?_, fun b o e => ?_⟩
     ·rw [days_next, if_pos hneg, List.map_append, ← List.append_assoc]
      exact Paired.snoc ((tx4.same s5).updL hx5) ⟨t, rfl, by rw [upd_ne (ne_of upd_same hx5 (by intro z; cases z))]; exact upd_same⟩
     ·rw [upd_ne (ne_of_none e hW0)]; exact s5 _ _ (s3 _ _ (s2 _ _ e))
    ·have hpos : ¬ (storeR B pl st fi ((j : Nat) : Int).toNat < 0 ∨ mo < storeR B pl st fi ((j : Nat) : Int).toNat) := by
      rw [Int.toNat_natCast]
      have z1 : 0 ≤ storeR B pl st fi j := of_decide_eq_true y
      intro z
      rcases z with z | z
      ·lia
      ·refine y2 ?_
       rw [decide_eq_false (by lia)]
       rfl
     refine ⟨_, _, rfl, hx4, by lia, ?_, s2.trans s3⟩
     rw [days_next, if_neg hpos, List.append_nil]
     exact tx4
    ·have hneg : storeR B pl st fi ((j : Nat) : Int).toNat < 0 ∨ mo < storeR B pl st fi ((j : Nat) : Int).toNat := by
      rw [Int.toNat_natCast]
      exact .inl (Int.not_le.mp fun z => y (decide_eq_true z))
     refine ⟨_, rfl, .inl ⟨rfl, _, sqL_new hx4⟩, _, rfl, _, rfl, by show 3 ≤ sizeLine; decide, fun t ht => ?_⟩
     have s5 := same_new' ht (.tup [.str "store", .str st, .int j])
     have hx5 := s5 _ _ hx4
     refine ⟨W, _, _, rfl, rfl, hx5, by lia, _, _, rfl, upd_same, by rw [List.length_append]; exact Nat.succ_le_succ lx, ?_, fun b o e => ?_⟩
     ·rw [days_next, if_pos hneg, List.map_append, ← List.append_assoc]
      exact Paired.snoc ((tx4.same s5).updL hx5) ⟨t, rfl, by rw [upd_ne (ne_of upd_same hx5 (by intro z; cases z))]; exact upd_same⟩
     ·rw [upd_ne (ne_of_none e hW0)]; exact s5 _ _ (s3 _ _ (s2 _ _ e))
  ·rintro σ H2 ⟨v6, xs, rfl, hx, lx, tx, s2⟩
   refine ⟨_, _, _, _, _, rfl, hx, by lia, ?_, s2⟩
   rw [fm_next _ er']
   exact tx
 ·rintro σ H1 ⟨v3, v4, v5, v6, xs, rfl, hx, lx, tx, s1⟩
  rw [show ysS.length = (B.filter (selW "store")).length from lS] at lx tx
  rw [List.take_length] at tx
  exact ⟨_, rfl, q W xs H1 s1 hx (by lia) tx⟩
end
end Nb
namespace L2
open PySem PySem.Spec PyProof.Rows
section
variable {X : Cx}
def PairsK (K : Fg) (H : Hp) : List V → List (Key × V) → Prop := Paired fun v p => ∃ t, v = .ref t ∧ SqT K H t [kV p.1, p.2]
theorem PairsK.get {K : Fg} {H : Hp} {vs : List V} {ps : List (Key × V)} (h : PairsK K H vs ps) : ∀ {i : Nat} {v : V}, vs[i]? = some v → ∃ t p, v = .ref t ∧ ps[i]? = some p ∧ SqT K H t [kV p.1, p.2] := by
 induction h with
 | nil => intro i v e; simp at e
 | cons q t ih =>
  intro i v e
  cases i with
  | zero => obtain ⟨a, e1, z⟩ := q; simp at e; subst e; exact ⟨a, _, e1, rfl, z⟩
  | succ i => obtain ⟨a, r, e1, e2, z⟩ := ih (i := i) (v := v) (by simpa using e); exact ⟨a, r, e1, by simpa using e2, z⟩
theorem PairsK.imp {K : Fg} {H H' : Hp} {vs : List V} {ps : List (Key × V)} (f : ∀ t xs, SqT K H t xs → SqT K H' t xs) (h : PairsK K H vs ps) : PairsK K H' vs ps := by
 induction h with
 | nil => exact .nil
 | cons r t ih => obtain ⟨a, e, z⟩ := r; exact .cons ⟨a, e, f _ _ z⟩ ih
theorem PairsK.length {K : Fg} {H : Hp} {vs : List V} {ps : List (Key × V)} (h : PairsK K H vs ps) : vs.length = ps.length := Paired.length h
def dictOfK (ps : List (Key × V)) : List (Key × V) := ps.foldl (fun d p => putK d p.1 p.2) []
theorem dictOfK_snoc {ps : List (Key × V)} {i : Nat} {p : Key × V} (h : ps[i]? = some p) : dictOfK (ps.take (i + 1)) = putK (dictOfK (ps.take i)) p.1 p.2 := by
 unfold dictOfK
 rw [List.take_succ, h, List.foldl_append]
 rfl
theorem dictOfK_len (ps : List (Key × V)) : (dictOfK ps).length ≤ ps.length := by
 have : ∀ (l : List (Key × V)) (d : List (Key × V)), (l.foldl (fun d p => putK d p.1 p.2) d).length ≤ d.length + l.length := by
  intro l
  induction l with
  | nil => intro d; simp
  | cons p r ih => intro d; have := ih (putK d p.1 p.2); have h2 := length_putK d p.1 p.2; simp only [List.foldl_cons, List.length_cons] at *; lia
 exact Nat.le_trans (this ps []) (by simp)
theorem upd_loopK {pins : List (Addr × Obj)} {σ : St} {H : Hp} {d it l : Addr} {vs : List V} {ps : List (Key × V)} {A : Around} {R : Result → Shared → Prop} (hh : A.handled = none) (hd : H d = none) (hl : SqL X.K H l vs) (hp : PairsK X.K H vs ps) (hz : ps.length < sizeLine)
  (hR : ∀ s', Inv X pins σ (upd H d (.dK (dictOfK ps))) s' → R (.ok (.ret .none)) s') :
  ∀ (k i : Nat) (s : Shared), ps.length - i = k → i ≤ ps.length → Inv X pins σ (upd H d (.dK (dictOfK (ps.take i)))) s → s.heap.IsListIter it l i → FpOk X pins (upd H d (.dK (dictOfK (ps.take i)))) it →
   codeAny (model X.prog X.w) A (.builtin "dict.update.loop" ⟨[.ref d, .ref it, rawInt i, .none], []⟩) R s := by
 intro k
 induction k with
 | zero =>
  intro i s hk hi I st f
  have ei : i = ps.length := by lia
  subst ei
  rw [List.take_length] at I f
  have sm : Same H (upd H d (.dK (dictOfK ps))) := same_new' hd _
  obtain ⟨its, r, p, _⟩ := I.list (sm.seq hl)
  have lv := hp.length
  have lr := r.length
  refine codeAny_builtin entry_dul ?_
  rw [Around.under_plainId plain_dul _]
  show wpAny _ A.in1 (pyNext (.ref it) >>= _) _ _ s
  refine wpAny_bind (wpAny_pyNext_list_end (A := A.in1) hh st p.isList (by simp; lia) fun h' eb => ?_)
  refine wpAny_bind (wpAny_pure (wpAny_pure ?_))
  exact hR _ (I.turned (t' := s.toks) (fun b o hb e => eb b o hb e) f.1 f.2.1 f.2.2.2.1 f.2.2.2.2.1 f.2.2.2.2.2)
 | succ k ih =>
  intro i s hk hi I st f
  have sm : Same H (upd H d (.dK (dictOfK (ps.take i)))) := same_new' hd _
  obtain ⟨its, r, p, _⟩ := I.list (sm.seq hl)
  have lv := hp.length
  have hlt : i < vs.length := by lia
  obtain ⟨t, pr, ev, ep, hT⟩ := hp.get (gE hlt)
  obtain ⟨u, hu, ru⟩ := r.get (gE hlt)
  rw [ev] at ru
  cases ru
  refine codeAny_builtin entry_dul ?_
  rw [Around.under_plainId plain_dul _]
  show wpAny _ A.in1 (pyNext (.ref it) >>= _) _ _ s
  refine wpAny_bind (wpAny_pyNext_list_item st p.isList (x := .ref t) (by simpa using hu) fun h' st' sb => ?_)
  have I1 : Inv X pins σ (upd H d (.dK (dictOfK (ps.take i)))) { s with heap := h' } := I.turned (t' := s.toks) (fun b o hb e => (sb.2 b hb).trans e) f.1 f.2.1 f.2.2.2.1 f.2.2.2.2.1 f.2.2.2.2.2
  obtain ⟨its2, r2, ⟨ot, gt, ct, nt, dt⟩, _⟩ := I1.tuple (sm.tup hT)
  obtain ⟨u1, u2, rfl, ru1, ru2⟩ := r2.two
  refine wpAny_bind (wpAny_holding ?_)
  refine wpAny_bind (wpAny_tryCatch ?_)
  unfold Builtin.Dict.pairItems
  refine wpAny_bind (wpAny_typeOf (T := "tuple") ⟨ot, gt, ct⟩ ?_)
  rw [if_pos (by simp)]
  refine wpAny_bind (wpAny_seqItems gt dt (wpAny_pure ?_))
  show wpAny _ _ (holding [u1, u2] (dictSet d u1 u2)) _ _ _
  obtain ⟨z, hdS, kv, rel, dd⟩ := dk_of I1.hok (upd_same (H := H) (a := d) (o := .dK (dictOfK (ps.take i))))
  have l1 := dictOfK_len (ps.take i)
  rw [List.length_take] at l1
  have hz2 : kv.length ≤ sizeLine := by rw [← rel.length]; exact z
  refine wpAny_holding (wpAny_dictSet_pairs (hsz := hz2) (knd := mixKind X.prog X.w) (k := pr.1) (kV_is ru1) dd fun h2 dd' hs2 => ?_)
  have he2 : ∃ q, h2.get? d = some q := let ⟨q, _, _, hq, _⟩ := dd'; ⟨q, hq⟩
  have l2 := length_putK (dictOfK (ps.take i)) pr.1 pr.2
  have I2 : Inv X pins σ (upd (upd H d (.dK (dictOfK (ps.take i)))) d (.dK (putK (dictOfK (ps.take i)) pr.1 pr.2))) { s with heap := h2, toks := s.toks + 1 } :=
   d_write (s := { s with heap := h' }) I1 (by rw [upd_same]; exact True.intro) hs2 he2 (dk_new (by lia) hdS (rel.put _ ru2) dd')
  rw [upd_upd, ← dictOfK_snoc ep] at I2
  have nit : it ≠ d := fun e => by have := f.1; rw [e, upd_same] at this; cases this
  refine wpAny_pure ⟨plainId_quiet plain_dul _, ?_⟩
  have ei : rawInt ((i : Int) + 1) = rawInt ((i + 1 : Nat) : Int) := by push_cast; rfl
  rw [ei]
  refine ih (i + 1) _ (by lia) (by lia) I2 (st'.at fun o e => hs2.extBut _ _ nit e) ⟨?_, f.2⟩
  have := f.1
  rw [upd_ne nit] at this ⊢
  exact this
inductive Ccall_dict_ofKey (KX : Fg) (xs : List V) (H : Hp) (Q : VK) : Prop
 | mk (l : Addr) (vs : List V) (ps : List (Key × V)) (h1 : xs = [.ref l]) (h2 : SqL KX H l vs) (h3 : PairsK KX H vs ps) (h4 : ps.length < sizeLine) (h5 : ∀ d, H d = none → Q (.ref d) (upd H d (.dK (dictOfK ps))))
theorem call_dict_ofKey (hc : X.calm = true) : CallR X (.type "dict") (fun xs H Q => Ccall_dict_ofKey X.K xs H Q) := by
 intro pins s σ H xs us Q I rv h
 obtain ⟨l, vs, ps, rfl, hl, hp, hz, q⟩ := h
 obtain ⟨u, rfl, ru⟩ := rv.one
 cases ru
 refine callType_codes (Q₁ := fun obj s1 => obj = .ref s.heap.objs.size ∧ s1 = { s with heap := s.heap.push { cls := .type "dict", data := .dict #[] } }) F.kt_called_dict (F.kt_typeCall_dict_1 _) F.entry_dict_init (kt_code_dict_new _ ⟨rfl, rfl⟩) ?_
 rintro obj s1 ⟨rfl, rfl⟩
 have hd : H s.heap.objs.size = none := I.hok.fresh (Nat.le_refl _)
 have I1 : Inv X pins σ (upd H s.heap.objs.size (.dK [])) { s with heap := s.heap.push { cls := .type "dict", data := .dict #[] } } := I.laid (t' := s.toks) (fun _ _ q => Heap.get?_push_of_some _ q) (Nat.le_refl _) (dk_empty s.heap I.big)
 have sm : Same H (upd H s.heap.objs.size (.dK [])) := same_new' hd _
 obtain ⟨z, hdS, kv, rel, dd⟩ := dk_of I1.hok (upd_same (H := H) (a := s.heap.objs.size) (o := .dK []))
 refine ⟨dd.typeIs, F.args_dict_init_2 _ _, ?_⟩
 unfold Builtin.«dict.__init__»
 refine wpAny_bind ?_
 unfold Builtin.Dict.selfAndRest
 refine wpAny_bind (wpAny_notOrdered_dict dd.typeIs ?_)
 show wpAny _ _ (pure (s.heap.objs.size, [Value.ref l])) _ _ _
 refine wpAny_pure ?_
 show wpAny _ _ (Builtin.Dict.updateFrom "dict.__init__" s.heap.objs.size (.ref l) [] .none) _ _ _
 unfold Builtin.Dict.updateFrom
 obtain ⟨its, r, ⟨o, n, e, c, dn, sl⟩, _⟩ := I1.list (sm.seq hl)
 obtain ⟨cls, dct, dat, sls⟩ := o
 simp only at c dn sl
 subst c dn sl
 refine wpAny_bind (wpAny_typeOf (T := "list") ⟨_, e, rfl⟩ ?_)
 rw [if_pos (by decide)]
 refine wpAny_bind (getAttrQ_keys (s := { s with heap := s.heap.push { cls := .type "dict", data := .dict #[] } }) e (by exact I.ok.hd hc) fun h2 tk2 hk2 => ?_)
 have I2 : Inv X pins σ (upd H s.heap.objs.size (.dK [])) { s with heap := h2, toks := tk2 } := I1.kept hk2
 rw [if_pos (by rfl)]
 refine wpAny_bind (wpAny_rule (wpAny_bind ?_))
 obtain ⟨its2, r2, p2, _⟩ := I2.list (sm.seq hl)
 refine wpAny_pyIter_list (s := { s with heap := h2, toks := tk2 }) p2.isList ?_
 refine wpAny_pure ⟨plainId_quiet plain_dul _, ?_⟩
 have I3 : Inv X pins σ (upd H s.heap.objs.size (.dK [])) { s with heap := h2.push { cls := .type "list_iterator", data := .fields #[.ref l, .int 0 0] }, toks := tk2 } := I2.kept (t' := tk2) fun b o e => Heap.get?_push_of_some _ e
 have hfr := I2.hok.fresh (a := h2.objs.size) (Nat.le_refl _)
 refine upd_loopK (X := X) (pins := pins) (σ := σ) (H := H) (vs := vs) (ps := ps) (A := X.A.in1) (by exact I.ok.hd hc) hd hl hp hz (fun s' I' => ⟨rfl, .ref s.heap.objs.size, _, I', rfl, q _ hd⟩) ps.length 0 _ (by lia) (Nat.zero_le _) I3 ⟨_, Heap.get?_push_size _ rfl, rfl, rfl⟩ (I2.fpOk (Nat.le_refl _) hfr)
end
theorem strsAre_of : ∀ {us : List Value} {ss : List Str}, us.length = ss.length → (∀ (j : Nat) (u : Value), us[j]? = some u → ∃ x t, ss[j]? = some x ∧ u = .str x t) → StrsAre us ss
 | [], [], _, _ => .nil
 | [], _ :: _, e, _ => nomatch e
 | _ :: _, [], e, _ => nomatch e
 | u :: us, x :: ss, e, h => by
  obtain ⟨y, t, e1, rfl⟩ := h 0 u rfl
  obtain rfl : x = y := Option.some.inj e1
  exact .cons x t (strsAre_of (Nat.succ.inj e) fun j v ev => h (j + 1) v ev)
theorem vals_of_strs : ∀ {ss : List Str} {us : List Value}, StrsAre us ss → Vals (ss.map V.str) us := by
 intro ss us h
 induction h with
 | nil => exact .nil
 | cons => rename_i ih; exact .cons ⟨_, rfl⟩ ih
section
variable {X : Cx}
inductive Ccall_sortedD (xs : List V) (H : Hp) (Q : VK) : Prop
 | mk (d : Addr) (kvs : List (Key × V)) (ss : List Str) (h1 : xs = [.ref d]) (h2 : H d = some (.dK kvs)) (h3 : kvs.map (·.1) = ss.map Sum.inr) (h4 : kvs.length < 64) (h5 : ∀ (D : Addr) (qs : List Str), H D = none → qs.Perm ss → sortedS qs = true → Q (.ref D) (upd H D (.lst (qs.map V.str))))
open PySem.W in
theorem call_sortedD (hc : X.calm = true) : CallR X (.builtin "sorted") (fun xs H Q => Ccall_sortedD xs H Q) := by
 intro pins s σ H xs us Q I rv h
 obtain ⟨d, kvs, ss, rfl, hd, hk, h64, q⟩ := h
 obtain ⟨u, rfl, ru⟩ := rv.one
 cases ru
 obtain ⟨z, lo, vs, rel, dd⟩ := dk_of I.hok hd
 obtain ⟨o, es, ep, h1, h2, h3, h4⟩ := id dd
 have da : s.heap.DictAt (mixKind X.prog X.w) d vs ep := ⟨o, es, h1, h2, h3, h4⟩
 have lr := rel.length
 have lo' : (d == sysModules) = false := lo
 have hz64 : (64 : Nat) < sizeLine := by decide
 refine Calls.call_function_entry kind_sorted plain_sorted entry_sorted (args_sorted1 _) ?_
 unfold Builtin.«sorted»
 refine wpAny_bind (m := checkCount "sorted" 1 1 _) (wpAny_pure ?_)
 refine wpAny_bind (kdu_collect (A := X.A.in1) (kdl_dict (knd := mixKind X.prog X.w) (kvs := vs) (ep := ep) lo') (I.ok.hd hc) da (by lia) fun h' tk acc hkp hacc => ?_)
 have hl : acc.toList.length = vs.length := by rw [Array.length_toList]; exact hacc.1
 refine wpAny_bind (wpAny_newList ?_ (by rw [hl]; lia))
 have lk : kvs.length = ss.length := by
  have := congrArg List.length hk
  rwa [List.length_map, List.length_map] at this
 have hS : StrsAre acc.toList ss := by
  refine strsAre_of (by lia) fun j u eu => ?_
  obtain ⟨k, x, ek, hkx⟩ := hacc.2 j u (by rw [← Array.getElem?_toList]; exact eu)
  have e5 : (vs.map (·.1))[j]? = some k := by rw [List.getElem?_map, ek]; rfl
  rw [← kv_keys rel, hk, List.getElem?_map] at e5
  cases e6 : ss[j]? with
  | none => rw [e6] at e5; cases e5
  | some y =>
   rw [e6] at e5
   cases e5
   obtain ⟨t, rfl⟩ := (show ∃ t, u = Value.str y t from is_kV hkx)
   exact ⟨y, t, rfl, rfl⟩
 have hoL : (h'.push (seqObj "list" acc.toList.toArray 0)).get? h'.objs.size = some (seqObj "list" acc.toList.toArray 0) := Heap.get?_push_size _ rfl
 show wpAny _ _ _ _ _ { s with heap := h'.push (seqObj "list" acc.toList.toArray 0), toks := tk }
 refine wpAny_bind (wpAny_holding (wpAny_call_entry slot_list_sort ⟨_, hoL, rfl⟩ entry_list_sort (list_sort_treeK strKind_oneLt hoL hS.keysOf (fun v₁ v₂ rest e => keyKind_strs (by rw [← e]; exact hS)) (by lia) fun st' a1 a2 => ⟨_, rfl, ?_⟩) (args_list_sort _)))
 refine wpAny_pure ⟨_, rfl, ?_⟩
 obtain ⟨ss', b1, b2, b3⟩ := sorted_out_str hS a1 a2
 obtain ⟨e, he⟩ := sortedHeap_at (h := h'.push (seqObj "list" acc.toList.toArray 0)) (vs := acc.toList) (out := (arrOf st').map (·.2)) hoL
 have l5 : ss'.length = ss.length := b2.length_eq
 have I2 : Inv X pins σ H { s with heap := h', toks := tk } := I.kept hkp
 refine ⟨.ref h'.objs.size, _, I2.laid (t' := tk) (o := .lst (ss'.map V.str)) (fun b ob z5 => ?_) (Nat.le_refl _) ⟨by rw [List.length_map]; lia, ((arrOf st').map (·.2)).toList, e, vals_of_strs b1, by rw [Array.toArray_toList]; exact he⟩, rfl, q _ ss' (I2.hok.fresh (Nat.le_refl _)) b2 b3⟩
 have hb : h'.get? b = some ob := z5
 have lb := Heap.lt_size hb
 rw [sortedHeap_old (Nat.ne_of_lt lb) (by rw [size_push']; exact Nat.lt_succ_of_lt lb), Heap.get?_push_ne _ _ _ (Nat.ne_of_lt lb)]
 exact hb
theorem pe_fldK {K : Fg} {e : Expr} {f : Str} {pos : Pos} {ta : TE} (hK : X.K = K) (he : PE X e ta) (hb : attributeBase e f X.env (eval e X.env) = eval e X.env) : PE X (.Attribute e f pos) (tFld K ta f) := by subst hK; exact pe_fld he hb
end
end L2
namespace Nb
open PySem L2
abbrev sWA : Stmt := top 15
theorem dict_fun {f : Str → V} {w : Str} : ∀ (ws : List Str) (acc : List (Key × V)), (w ∈ ws ∨ valV acc (Sum.inr w : Key) = some (f w)) → valV ((ws.map fun w => ((Sum.inr w : Key), f w)).foldl (fun d p => putK d p.1 p.2) acc) (Sum.inr w : Key) = some (f w)
 | [], acc, h => h.resolve_left (fun z => nomatch z)
 | a :: ws, acc, h => by
  rw [List.map_cons, List.foldl_cons]
  refine dict_fun ws _ ?_
  by_cases e : a = w
  ·exact .inr (by rw [valV_put, e, if_pos rfl])
  ·rcases h with h | h
   ·exact .inl ((List.mem_cons.mp h).resolve_left fun z => e z.symm)
   ·exact .inr (by rw [valV_put, if_neg (fun z => e (Sum.inr.inj z).symm)]; exact h)
def endE (B : List BR) (pl : List (Str × Str × Int)) (w : Str) : V := .int ((look pl w).2 + lenB B w (look pl w).1)
def begE (pl : List (Str × Str × Int)) (w : Str) : V := .int (look pl w).2
theorem pairs_same {K : Fg} {H H' : Hp} {vs : List V} {ps : List (Key × V)} (h : PairsK K H vs ps) (s : Same H H') : PairsK K H' vs ps := h.imp fun _ _ z => s.tup z
theorem pairs_updL {K : Fg} {H : Hp} {W : Addr} {xs zs : List V} {vs : List V} {ps : List (Key × V)} (h : PairsK K H vs ps) (hW : H W = some (.lst xs)) : PairsK K (upd H W (.lst zs)) vs ps := h.imp fun _ _ z => SqT_upd hW z
inductive IspWA (K : Fg) (C : Addr) (vs : List V) (H : Hp) (Q : VK) : Prop
 | mk (p tk : Addr) (n : Int) (B : List BR) (pl : List (Str × Str × Int)) (ys : List V) (h1 : vs = [.ref p, .ref tk]) (h2 : FcAt K C H p n B) (h3 : BookOk n B) (h4 : PlanFor n B pl) (h5 : B.flatMap (gW pl) = []) (h6 : H tk = some (.lst ys)) (h7 : TakenAre K H pl ys (wks B)) (h8 : ∀ (D : Addr) (xs : List V) (H' : Hp), Same H H' → H' D = some (.lst xs) → xs.length ≤ 5200 → TupK H' xs (B.flatMap (gA B pl)) → Q (.ref D) H')
def spWA (K : Fg) (C : Addr) : Sp := fun vs H Q _ => IspWA K C vs H Q
section
variable {P : Program} {w : World} {K : Fg} {mg : Str → Option Value} {base : Heap}
theorem scWA : FnScope ["facts", "taken", "ends", "begins"] ["facts", "taken"] (defScope sWA) := ⟨rfl, rfl, rfl, by decide +kernel, rfl, by decide +kernel, by decide +kernel⟩
theorem okWA {C fE : Addr} {fdE : FuncData} (F : Fn K mg "wrong_afters" sWA) (M : Mg mg) (T : FcTxt K mg C) (GE : FnOk P w K mg base CX0 1 fE fdE ["self", "choice"] (spFEnd K C)) (bE : Binds K fdE ["self", "choice"] []) (mE : Meth K C "end_of" fE) : Cal P w K mg base 4 "wrong_afters" ["facts", "taken"] (spWA K C) := by
 refine cal_of F scWA (fun _ _ _ _ _ _ => bind2 (fun _ _ => rfl)) (fun vs H Q E h => ?_) (fun f cdv A outer s H vs Q E hr h => ?_)
 ·obtain ⟨p, tk, n, B, pl, ys, rfl, _⟩ := h
  rfl
 obtain ⟨p, tk, n, B, pl, ys, rfl, hFc, bk, hpf, hW, htk, hTk, q⟩ := h
 obtain ⟨dx, lw, lb, lh, ls, la, ds, fs, kvs, yh, ysS, ya, hF⟩ := id hFc
 have hz : (20000 : Nat) < sizeLine := by decide
 have hu : (A.deeper (PyProof.Rows.envOfC "wrong_afters" (defScope sWA) s.heap.objs.size f cdv)).units + 1 < cLine := Nat.lt_of_le_of_lt (Nat.add_le_add_left (by decide) _) hr.un
 have bl := bk.wb.len
 have lT := Paired.length hTk
 have wl : (wks B).length ≤ B.length := List.length_filterMap_le _ _
 have sl1 : (B.filter (selW "after")).length ≤ B.length := List.length_filter_le _ _
 have lA := Paired.length hF.tA
 have egA : B.flatMap (gA B pl) = (B.filter (selW "after")).flatMap (gA B pl) := fm_filter (fun a h => gA_no (of_decide_eq_false h)) B
 rw [egA] at q
 refine ⟨_, (pss_cons (ps_set (i := 2) scWA.nd rfl (Or.inr rfl) (pe_callTy (call_dict_ofKey rfl) rfl M.dict_ bt_dict (pa_cons (pe_lc ["choice", "facts"] [none, some 0] rfl (pi_list (pv 1)) (fun _ _ _ => (pg_name (i := 0) (show (["choice", "facts"] : List Str).Nodup by decide +kernel) rfl (Or.inl rfl) (Or.inr rfl))) (fun _ _ _ => pf_nil) (fun _ _ _ => (pe_tup (pa_cons (pe_ix (ix_tupK (K := K) rfl) (pv 0) pe_int (fun _ _ => rfl)) (pa_cons (pe_meth (pv 1) T.cl mE GE (hr.mono (by decide)) bE .nil pass0 (pa_cons (pv 0) pa_nil)) pa_nil))))) pa_nil)))
  (pss_cons (ps_set (i := 3) scWA.nd rfl (Or.inr rfl) (pe_callTy (call_dict_ofKey rfl) rfl M.dict_ bt_dict (pa_cons (pe_lc ["choice"] [none] rfl (pi_list (pv 1)) (fun _ _ _ => (pg_name (i := 0) (show (["choice"] : List Str).Nodup by decide +kernel) rfl (Or.inl rfl) (Or.inr rfl))) (fun _ _ _ => pf_nil) (fun _ _ _ => (pe_tup (pa_cons (pe_ix (ix_tupK (K := K) rfl) (pv 0) pe_int (fun _ _ => rfl)) (pa_cons (pe_ix (ix_tupK (K := K) rfl) (pv 0) pe_int (fun _ _ => rfl)) pa_nil))))) pa_nil)))
  (pss_one (ps_ret (pe_lc ["work", "other", "gap", "ends", "begins"] [none, none, none, some 2, some 3] rfl (pi_list (pe_fld (pv 0) rfl)) (fun _ _ _ => (pg_trip (K := K) (i := 0) (j := 1) (l := 2) rfl rfl (show (["work", "other", "gap", "ends", "begins"] : List Str).Nodup by decide +kernel) rfl rfl rfl rfl rfl rfl)) (fun _ _ _ => (pf_one (pt_cmpR op_lt (pe_dget hu (pv 4) (pv 1) (fun _ _ => rfl)) (pe_op op_add (pe_dget hu (pv 3) (pv 0) (fun _ _ => rfl)) (pv 2)) (nomark _)))) (fun _ _ _ => (pe_tup (pa_cons pe_str (pa_cons (pv 0) (pa_cons (pv 1) pa_nil)))))))))), ?_⟩
 refine seq_let3 ?_
 intro rT3 rT2
 refine ⟨_, rfl, tk, rfl, ⟨_, sqL_new htk⟩, fun D hD => ?_⟩
 let Pv42 : Nat → St → List V → Hp → Prop := fun m τ zs H1 => ∃ v : Option V, τ = [v, some (.ref p)] ∧ PairsK K H1 zs (((wks B).take m).map fun w => ((Sum.inr w : Key), endE B pl w)) ∧ zs.length ≤ m ∧ H1 D = some (.lst zs) ∧ Same H H1
 refine lc_any (n := (wks B).length) Pv42 ?_ (fun m τ zs H1 hm h => ?_) (fun m τ zs H1 hm h => ?_) (fun τ zs H1 h => ?_) ?_ ?_
 ·exact ⟨none, rfl, .nil, Nat.le_refl _, upd_same, same_new' hD _⟩
 ·obtain ⟨v, rfl, hY, hl, hE, s1⟩ := h
  exact ⟨hE, by lia⟩
 ·obtain ⟨v, rfl, hY, hl, hE, s1⟩ := h
  exact ⟨ys, ys[m]'(by lia), s1.seq (sqL_new htk), gE (by lia)⟩
 ·obtain ⟨v, rfl, hY, hl, hE, s1⟩ := h
  exact ⟨ys, s1.seq (sqL_new htk), by lia⟩
 ·rintro m τ zs H1 x H2 hm ⟨v, rfl, hY, hl, hE, s1⟩ ⟨rfl, e1⟩
  obtain ⟨wk, ewk, t, rfl, hT⟩ := paired_get hTk (e1 _ (s1.seq (sqL_new htk)))
  obtain ⟨l, c, hmem, hway, b0, b1⟩ := hpf.get bk.wb (hasK_of_gW hW (wks_mem.mp (List.mem_of_getElem? ewk)))
  have hT1 := s1.tup hT
  refine ⟨_, rfl, t, _, _, _, rfl, rfl, hT1, (show atI [V.str wk, V.str (look pl wk).1, V.int (look pl wk).2] 0 = some (.str wk) from rfl), ?_⟩
  refine ⟨_, rfl, p, dx, fs, rfl, s1 _ _ hF.hp, hF.nE, _, rfl, p, t, n, B, wk, _, _, l, c, rfl, hFc.same s1, hT1, hway, fun H3 s3 => ?_⟩
  refine ⟨by show 2 ≤ sizeLine; decide, fun t2 ht2 => ?_⟩
  have s4 := s3.trans (same_new' ht2 (.tup [.str wk, .int ((look pl wk).2 + l)]))
  have hE4 := s4 _ _ hE
  refine ⟨hE4, _, rfl, ?_, by rw [List.length_append]; exact Nat.succ_le_succ hl, upd_same, fun b o e => ?_⟩
  ·rw [takeS ewk, List.map_append]
   refine Paired.snoc (pairs_updL (pairs_same hY s4) hE4) ⟨t2, rfl, SqT_upd hE4 ?_⟩
   show SqT K _ t2 [.str wk, endE B pl wk]
   rw [show endE B pl wk = .int ((look pl wk).2 + l) by unfold endE; rw [lenB_of bk.wb hway]]
   exact sqT_new upd_same
  ·rw [upd_ne (ne_of_none e hD)]; exact s4 _ _ (s1 _ _ e)
 rintro τ zs H1 ⟨v, rfl, hY, hl, hE, s1⟩
 rw [List.take_length] at hY
 refine ⟨D, zs, _, rfl, sqL_new hE, hY, by rw [List.length_map]; lia, fun d1 hd1 => ?_⟩
 have s2 := same_new' hd1 (.dK (dictOfK ((wks B).map fun w => ((Sum.inr w : Key), endE B pl w))))
 have s12 := s1.trans s2
 have htk2 := s12 _ _ htk
 refine ⟨_, rfl, tk, rfl, ⟨_, sqL_new htk2⟩, fun D2 hD2 => ?_⟩
 let Pv43 : Nat → St → List V → Hp → Prop := fun m τ zs H3 => ∃ v : Option V, τ = [v] ∧ PairsK K H3 zs (((wks B).take m).map fun w => ((Sum.inr w : Key), begE pl w)) ∧ zs.length ≤ m ∧ H3 D2 = some (.lst zs) ∧ Same (upd H1 d1 (.dK (dictOfK ((wks B).map fun w => ((Sum.inr w : Key), endE B pl w))))) H3
 refine lc_any (n := (wks B).length) Pv43 ?_ (fun m τ zs H3 hm h => ?_) (fun m τ zs H3 hm h => ?_) (fun τ zs H3 h => ?_) ?_ ?_
 ·exact ⟨none, rfl, .nil, Nat.le_refl _, upd_same, same_new' hD2 _⟩
 ·obtain ⟨v, rfl, hY, hl, hE, s3⟩ := h
  exact ⟨hE, by lia⟩
 ·obtain ⟨v, rfl, hY, hl, hE, s3⟩ := h
  exact ⟨ys, ys[m]'(by lia), s3.seq (sqL_new htk2), gE (by lia)⟩
 ·obtain ⟨v, rfl, hY, hl, hE, s3⟩ := h
  exact ⟨ys, s3.seq (sqL_new htk2), by lia⟩
 ·rintro m τ zs H3 x H4 hm ⟨v, rfl, hY, hl, hE, s3⟩ ⟨rfl, e1⟩
  obtain ⟨wk, ewk, t, rfl, hT⟩ := paired_get hTk (e1 _ (s3.seq (sqL_new htk2)))
  have hT1 := s3.tup (s12.tup hT)
  refine ⟨_, rfl, t, _, _, _, rfl, rfl, hT1, (show atI [V.str wk, V.str (look pl wk).1, V.int (look pl wk).2] 0 = some (.str wk) from rfl), ?_⟩
  refine ⟨_, rfl, t, _, _, _, rfl, rfl, hT1, (show atI [V.str wk, V.str (look pl wk).1, V.int (look pl wk).2] 2 = some (.int (look pl wk).2) from rfl), ?_⟩
  refine ⟨by show 2 ≤ sizeLine; decide, fun t2 ht2 => ?_⟩
  have s4 := same_new' ht2 (.tup [.str wk, .int (look pl wk).2])
  have hE4 := s4 _ _ hE
  refine ⟨hE4, _, rfl, ?_, by rw [List.length_append]; exact Nat.succ_le_succ hl, upd_same, fun b o e => ?_⟩
  ·rw [takeS ewk, List.map_append]
   exact Paired.snoc (pairs_updL (pairs_same hY s4) hE4) ⟨t2, rfl, SqT_upd hE4 (sqT_new upd_same)⟩
  ·rw [upd_ne (ne_of_none e hD2)]; exact s4 _ _ (s3 _ _ e)
 rintro τ zs2 H3 ⟨v, rfl, hY2, hl2, hE2, s3⟩
 rw [List.take_length] at hY2
 refine ⟨D2, zs2, _, rfl, sqL_new hE2, hY2, by rw [List.length_map]; lia, fun d2 hd2 => ?_⟩
 have s4 := same_new' hd2 (.dK (dictOfK ((wks B).map fun w => ((Sum.inr w : Key), begE pl w))))
 have sA := (s12.trans s3).trans s4
 have h1 := s4 _ _ (s3 _ _ (upd_same (H := H1) (a := d1) (o := .dK (dictOfK ((wks B).map fun w => ((Sum.inr w : Key), endE B pl w))))))
 have h2 : (upd H3 d2 (.dK (dictOfK ((wks B).map fun w => ((Sum.inr w : Key), begE pl w))))) d2 = some (.dK (dictOfK ((wks B).map fun w => ((Sum.inr w : Key), begE pl w)))) := upd_same
 generalize upd H3 d2 (.dK (dictOfK ((wks B).map fun w => ((Sum.inr w : Key), begE pl w)))) = H5 at s4 sA h1 h2
 refine ⟨_, rfl, p, C, dx, fs, _, rfl, sA _ _ hF.hp, T.cl, T.nA, hF.fA, la, rfl, ⟨_, sqL_new (sA _ _ hF.hA)⟩, fun D3 hD3 => ?_⟩
 let Pv44 : Nat → St → List V → Hp → Prop := fun m τ xs H6 => ∃ v0 v1 v2 : Option V, τ = [v0, v1, v2, some (.ref d1), some (.ref d2)] ∧ TupK H6 xs (((B.filter (selW "after")).take m).flatMap (gA B pl)) ∧ xs.length ≤ m ∧ H6 D3 = some (.lst xs) ∧ Same H5 H6
 refine lc_any (n := (B.filter (selW "after")).length) Pv44 ?_ (fun m τ xs H6 hm h => ?_) (fun m τ xs H6 hm h => ?_) (fun τ xs H6 h => ?_) ?_ ?_
 ·exact ⟨none, none, none, rfl, .nil, Nat.le_refl _, upd_same, same_new' hD3 _⟩
 ·obtain ⟨v0, v1, v2, rfl, hX, hl, hE, s6⟩ := h
  exact ⟨hE, by lia⟩
 ·obtain ⟨v0, v1, v2, rfl, hX, hl, hE, s6⟩ := h
  exact ⟨ya, ya[m]'(by lia), (sA.trans s6).seq (sqL_new hF.hA), gE (by lia)⟩
 ·obtain ⟨v0, v1, v2, rfl, hX, hl, hE, s6⟩ := h
  exact ⟨ya, (sA.trans s6).seq (sqL_new hF.hA), by lia⟩
 ·rintro m τ xs H6 x H7 hm ⟨v0, v1, v2, rfl, hX, hl, hE, s6⟩ ⟨rfl, e1⟩
  obtain ⟨r', er', t, rfl, hT⟩ := paired_get hF.tA (e1 _ ((sA.trans s6).seq (sqL_new hF.hA)))
  have hr' := List.mem_filter.mp (List.mem_of_getElem? er')
  obtain ⟨wk, ot, g, rfl⟩ := word_after (of_decide_eq_true hr'.2)
  have hT' : SqT K _ t [.str wk, .str ot, .int g] := (sA.trans s6).tup hT
  have hw1 : wk ∈ wks B := wks_mem.mpr (bk.wb.ref _ hr'.1 wk (by show wk ∈ [wk, ot]; exact List.mem_cons_self))
  have hw2 : ot ∈ wks B := wks_mem.mpr (bk.wb.ref _ hr'.1 ot (by show ot ∈ [wk, ot]; exact List.mem_cons_of_mem _ List.mem_cons_self))
  have g1 := DGet.k (k := Sum.inr ot) (s6 _ _ h2)
  have g2 := DGet.k (k := Sum.inr wk) (s6 _ _ h1)
  rw [show valV (dictOfK ((wks B).map fun w => ((Sum.inr w : Key), begE pl w))) (Sum.inr ot) = some (begE pl ot) from dict_fun (f := begE pl) (wks B) [] (.inl hw2)] at g1
  rw [show valV (dictOfK ((wks B).map fun w => ((Sum.inr w : Key), endE B pl w))) (Sum.inr wk) = some (endE B pl wk) from dict_fun (f := endE B pl) (wks B) [] (.inl hw1)] at g2
  refine ⟨t, _, rfl, hT', rfl, _, _, rfl, _, _, rfl, _, _, rfl, rfl, ?_⟩
  refine ⟨_, rfl, _, rfl, d2, _, rfl, g1, _, rfl, _, rfl, d1, _, rfl, g2, _, rfl, _, _, rfl, rfl, _, _, rfl, rfl, _, rfl, ?_⟩
  have eg : gA B pl (.after wk ot g) = if (look pl ot).2 - (look pl wk).2 - lenB B wk (look pl wk).1 < g then [[Sum.inr ("after" : Str), Sum.inr wk, Sum.inr ot]] else [] := rfl
  refine ite2 (fun y => ?_) (fun y => ?_)
  ·have y' : (look pl ot).2 < (look pl wk).2 + lenB B wk (look pl wk).1 + g := of_decide_eq_true y
   refine ⟨_, rfl, _, rfl, by show 3 ≤ sizeLine; decide, fun t2 ht2 => ?_⟩
   have s7 := same_new' ht2 (.tup [.str "after", .str wk, .str ot])
   have hE7 := s7 _ _ hE
   refine ⟨hE7, _, _, _, rfl, ?_, by rw [List.length_append]; exact Nat.succ_le_succ hl, upd_same, fun b o e => ?_⟩
   ·rw [fm_next _ er', eg, if_pos (by lia)]
    exact Paired.snoc ((hX.same s7).updL hE7) ⟨t2, rfl, by rw [upd_ne (ne_of upd_same hE7 (by intro z; cases z))]; exact upd_same⟩
   ·rw [upd_ne (ne_of_none e hD3)]; exact s7 _ _ (s6 _ _ e)
  ·have y' : ¬ (look pl ot).2 < (look pl wk).2 + lenB B wk (look pl wk).1 + g := fun z => y (decide_eq_true z)
   refine ⟨_, _, _, rfl, ?_, by lia, hE, s6⟩
   rw [fm_next _ er', eg, if_neg (by lia), List.append_nil]
   exact hX
 ·rintro τ xs H6 ⟨v0, v1, v2, rfl, hX, hl, hE, s6⟩
  rw [List.take_length] at hX
  exact q D3 xs H6 (sA.trans s6) hE (by lia) hX
end
abbrev sIW : Stmt := top 2
abbrev sIP : Stmt := top 3
abbrev sTold : Stmt := top 11
abbrev sWW : Stmt := top 12
inductive IspIW (vs : List V) (H : Hp) (Q : VK) : Prop
 | mk (i : Int) (h1 : vs = [.int i]) (h2 : Q (.bl true) H)
def spIW (K : Fg) : Sp := fun vs H Q _ => IspIW vs H Q
def spIP (K : Fg) : Sp := fun vs H Q _ => (vs = [.non] ∧ Q (.bl false) H) ∨ ∃ (t : Addr) (a b : V), vs = [.ref t] ∧ SqT K H t [a, b] ∧ Q (.bl true) H
inductive IspTold (K : Fg) (C : Addr) (vs : List V) (H : Hp) (Q : VK) : Prop
 | mk (p : Addr) (n : Int) (B : List BR) (w : Str) (h1 : FcAt K C H p n B) (h2 : ((vs = [.ref p, .str w, .non] ∧ ∀ H', Same H H' → Q (.bl false) H') ∨ ∃ (t : Addr) (v : Str) (b l c : Int), vs = [.ref p, .str w, .ref t] ∧ SqT K H t [.str v, .int b] ∧ BR.way w v l c ∈ B ∧ 0 ≤ b ∧ b + l ≤ n ∧ ∀ H', Same H H' → Q (.bl true) H'))
def spTold (K : Fg) (C : Addr) : Sp := fun vs H Q _ => IspTold K C vs H Q
def noK (pl : List (Str × Str × Int)) (w : Str) : Bool := !hasK pl w
theorem gW_eq (pl : List (Str × Str × Int)) : ∀ B : List BR, B.flatMap (gW pl) = ((wks B).filter (noK pl)).map fun w => [(Sum.inr ("work" : Str) : Key), Sum.inr w]
 | [] => rfl
 | r :: B => by
  rw [List.flatMap_cons, gW_eq pl B]
  cases r with
  | work w =>
   show (if hasK pl w = true then [] else [[(Sum.inr ("work" : Str) : Key), Sum.inr w]]) ++ _ = ((w :: wks B).filter (noK pl)).map _
   cases e : hasK pl w with
   | true => rw [if_pos rfl, List.filter_cons_of_neg (by unfold noK; rw [e]; decide)]; rfl
   | false => rw [if_neg (by decide), List.filter_cons_of_pos (by unfold noK; rw [e]; rfl)]; rfl
  | _ => rfl
theorem str_flat (ws : List Str) : (ws.map V.str).all flatV = true := List.all_eq_true.mpr fun v hv => by
 obtain ⟨w, _, rfl⟩ := List.mem_map.mp hv
 rfl
theorem inV_str {w : Str} {ws : List Str} (h : w ∈ ws) : inV (.str w) (ws.map V.str) = true := List.any_eq_true.mpr ⟨.str w, List.mem_map.mpr ⟨w, h, rfl⟩, by
 show (w == w) = true
 exact beq_self_eq_true w⟩
theorem plan_val {K : Fg} {H : Hp} {kvs : List (Key × V)} {pl : List (Str × Str × Int)} {w v : Str} {b : Int} (h2 : Paired (fun (p : Key × V) (q : Str × Str × Int) => p.1 = Sum.inr q.1 ∧ ∃ t, p.2 = .ref t ∧ SqT K H t [.str q.2.1, .int q.2.2]) kvs pl) (nd : (pl.map (·.1)).Nodup) (hm : (w, v, b) ∈ pl) : ∃ t, valV kvs (Sum.inr w) = some (.ref t) ∧ SqT K H t [.str v, .int b] := by
 obtain ⟨i, ei⟩ := List.mem_iff_getElem?.mp hm
 obtain ⟨⟨k, x⟩, ex, ek, t, et, hT⟩ := paired_getB h2 ei
 have ek' : k = Sum.inr w := ek
 have et' : x = .ref t := et
 subst ek' et'
 have ndk : (kvs.map (·.1)).Nodup := by
  rw [plan_keys h2]
  exact List.Pairwise.map Sum.inr (fun a b (hab : a ≠ b) e => hab (Sum.inr.inj e)) nd
 exact ⟨t, val_at ndk ex, hT⟩
inductive IspWW (K : Fg) (C : Addr) (vs : List V) (H : Hp) (Q : VK) : Prop
 | mk (p P : Addr) (n : Int) (B : List BR) (pl : List (Str × Str × Int)) (h1 : vs = [.ref p, .ref P]) (h2 : FcAt K C H p n B) (h3 : BookOk n B) (h4 : PlanAt K H P pl) (h5 : PlanFor n B pl) (h6 : pl.length < 64) (h7 : ∀ (D : Addr) (xs : List V) (H' : Hp), Same H H' → H' D = some (.lst xs) → xs.length ≤ 5200 → TupK H' xs (B.flatMap (gW pl)) → Q (.ref D) H')
def spWW (K : Fg) (C : Addr) : Sp := fun vs H Q _ => IspWW K C vs H Q
section
variable {P : Program} {w : World} {K : Fg} {mg : Str → Option Value} {base : Heap}
theorem scIW : FnScope ["thing"] ["thing"] (defScope sIW) := ⟨rfl, rfl, rfl, by decide +kernel, rfl, by decide +kernel, by decide +kernel⟩
theorem okIW (F : Fn K mg "is_whole" sIW) (M : Mg mg) : Cal P w K mg base 1 "is_whole" ["thing"] (spIW K) := by
 refine cal_of F scIW (fun _ _ _ _ _ _ => bind1 (fun _ => rfl)) (fun vs H Q E h => ?_) (fun f cdv A outer s H vs Q E hr h => ?_)
 ·obtain ⟨i, rfl, _⟩ := h
  rfl
 obtain ⟨i, rfl, q⟩ := h
 refine ⟨_, (pss_one (ps_ret (pe_and (pe_callB call_isiW rfl M.isinstance bt_isinstance (pa_cons (pv 0) (pa_cons (pe_ty M.int_ bt_int) pa_nil))) (pe_one (pe_not (pe_callB call_isiW rfl M.isinstance bt_isinstance (pa_cons (pv 0) (pa_cons (pe_ty M.bool_ bt_bool) pa_nil)))))))), ?_⟩
 exact ⟨_, rfl, _, _, _, rfl, .int, rfl, _, rfl, _, rfl, _, _, _, rfl, .bool, rfl, _, rfl, q⟩
theorem scIP : FnScope ["thing"] ["thing"] (defScope sIP) := ⟨rfl, rfl, rfl, by decide +kernel, rfl, by decide +kernel, by decide +kernel⟩
theorem okIP (F : Fn K mg "is_pair" sIP) (M : Mg mg) : Cal P w K mg base 1 "is_pair" ["thing"] (spIP K) := by
 refine cal_of F scIP (fun _ _ _ _ _ _ => bind1 (fun _ => rfl)) (fun vs H Q E h => ?_) (fun f cdv A outer s H vs Q E hr h => ?_)
 ·rcases h with ⟨rfl, _⟩ | ⟨t, a, b, rfl, _⟩ <;> rfl
 refine ⟨_, (pss_one (ps_ret (pe_and (pe_callB call_isiW rfl M.isinstance bt_isinstance (pa_cons (pv 0) (pa_cons (pe_ty M.tuple_ bt_tuple) pa_nil))) (pe_one (pe_cmpR op_eq (pe_callB call_len_seq rfl M.len bt_len (pa_cons (pv 0) pa_nil)) pe_int (nomark _)))))), ?_⟩
 rcases h with ⟨rfl, q⟩ | ⟨t, a, b, rfl, hT, q⟩
 ·exact ⟨_, rfl, _, _, _, rfl, .tuple, rfl, _, rfl, q⟩
 ·exact ⟨_, rfl, _, _, _, rfl, .tuple, .inl ⟨⟨_, hT⟩, rfl⟩, _, rfl, _, rfl, _, _, rfl, .inr hT, rfl, q⟩
theorem scTold : FnScope ["facts", "work", "thing"] ["facts", "work", "thing"] (defScope sTold) := ⟨rfl, rfl, rfl, by decide +kernel, rfl, by decide +kernel, by decide +kernel⟩
theorem okTold {C fY fL : Addr} {fdY fdL : FuncData} (F : Fn K mg "is_as_told" sTold) (M : Mg mg) (T : FcTxt K mg C) (GY : FnOk P w K mg base CX0 1 fY fdY ["self", "work", "way"] (spFIsWay K C)) (bY : Binds K fdY ["self", "work", "way"] []) (mY : Meth K C "is_way" fY) (GL : FnOk P w K mg base CX0 1 fL fdL ["self", "work", "way"] (spFLast K C)) (bL : Binds K fdL ["self", "work", "way"] []) (mL : Meth K C "last_begin" fL) (c_is_whole : Cal P w K mg base 1 "is_whole" ["thing"] (spIW K)) (c_is_pair : Cal P w K mg base 1 "is_pair" ["thing"] (spIP K)) : Cal P w K mg base 2 "is_as_told" ["facts", "work", "thing"] (spTold K C) := by
 refine cal_of F scTold (fun _ _ _ _ _ _ => bind3 (fun _ _ _ => rfl)) (fun vs H Q E h => ?_) (fun f cdv A outer s H vs Q E hr h => ?_)
 ·obtain ⟨p, n, B, w, _, ⟨rfl, _⟩ | ⟨t, v, b, l, c, rfl, _⟩⟩ := h <;> rfl
 refine ⟨_, (pss_cons (ps_if (PW.pt (pw_or (pt_not (pt_val (pe_fn c_is_pair (hr.mono (by decide)) (pa_cons (pv 2) pa_nil)))) (pw_or (pt_not (pt_val (pe_callB call_isiW rfl M.isinstance bt_isinstance (pa_cons (pe_ix ix_tup (pv 2) pe_int (fun _ _ => rfl)) (pa_cons (pe_ty M.str_ bt_str) pa_nil))))) (pw_or1 (pt_not (pt_val (pe_meth (pv 0) T.cl mY GY (hr.mono (by decide)) bY .nil pass0 (pa_cons (pv 1) (pa_cons (pe_ix ix_tup (pv 2) pe_int (fun _ _ => rfl)) pa_nil))))))))) (pss_one (ps_ret pe_bl)) pss_nil)
  (pss_one (ps_ret (pe_and (pe_fn c_is_whole (hr.mono (by decide)) (pa_cons (pe_ix ix_tup (pv 2) pe_int (fun _ _ => rfl)) pa_nil)) (pe_one (pe_chain op_le op_le pe_int (pe_ix ix_tup (pv 2) pe_int (fun _ _ => rfl)) (pe_meth (pv 0) T.cl mL GL (hr.mono (by decide)) bL .nil pass0 (pa_cons (pv 1) (pa_cons (pe_ix ix_tup (pv 2) pe_int (fun _ _ => rfl)) pa_nil))))))))), ?_⟩
 obtain ⟨p, n, B, w, hFc, ⟨rfl, q⟩ | ⟨t, v, b, l, c, rfl, hT, hway, b0, b1, q⟩⟩ := h
 ·refine ⟨_, rfl, .inl ⟨rfl, ?_⟩⟩
  exact ⟨_, rfl, ite2 (fun _ => ite2 (fun _ => q H (Same.refl _)) (fun y => absurd rfl y)) (fun y => absurd rfl y)⟩
 obtain ⟨dx, lw, lb, lh, ls, la, ds, fs, kvs, yh, ysS, ya, hF⟩ := id hFc
 refine ⟨_, rfl, .inr ⟨t, _, _, rfl, hT, ?_⟩⟩
 refine ⟨_, rfl, ite2 (fun y => nomatch y) (fun _ => ?_)⟩
 refine ⟨_, rfl, t, _, _, _, rfl, rfl, hT, (show atI [V.str v, V.int b] 0 = some (.str v) from rfl), _, _, _, rfl, .str, rfl, _, rfl, ite2 (fun y => nomatch y) (fun _ => ?_)⟩
 refine ⟨_, rfl, p, dx, fs, rfl, hF.hp, hF.nY, _, rfl, _, rfl, t, _, _, _, rfl, rfl, hT, (show atI [V.str v, V.int b] 0 = some (.str v) from rfl), ?_⟩
 refine ⟨p, n, B, w, v, l, c, rfl, hFc, hway, fun H1 s1 => ?_⟩
 refine ⟨_, rfl, ite2 (fun y => nomatch y) (fun _ => ?_)⟩
 have hT1 := s1.tup hT
 refine ⟨_, rfl, t, _, _, _, rfl, rfl, hT1, (show atI [V.str v, V.int b] 1 = some (.int b) from rfl), b, rfl, _, rfl, ite2 (fun _ => ?_) (fun y => absurd rfl y)⟩
 refine ⟨_, rfl, t, _, _, _, rfl, rfl, hT1, (show atI [V.str v, V.int b] 1 = some (.int b) from rfl), ?_⟩
 refine ⟨_, _, rfl, rfl, _, rfl, ite2 (fun _ => ?_) (fun y => absurd (decide_eq_true b0) y)⟩
 refine ⟨_, rfl, p, dx, fs, rfl, s1 _ _ hF.hp, hF.nL, _, rfl, _, rfl, t, _, _, _, rfl, rfl, hT1, (show atI [V.str v, V.int b] 0 = some (.str v) from rfl), p, n, B, w, v, l, c, rfl, hFc.same s1, hway, fun H2 s2 => ⟨_, _, rfl, rfl, ?_⟩⟩
 dsimp only
 rw [decide_eq_true (show b ≤ n - l by lia)]
 exact q _ (s1.trans s2)
theorem scWW : FnScope ["facts", "plan", "wrong"] ["facts", "plan"] (defScope sWW) := ⟨rfl, rfl, rfl, by decide +kernel, rfl, by decide +kernel, by decide +kernel⟩
theorem okWW {C : Addr} (F : Fn K mg "wrong_works" sWW) (M : Mg mg) (T : FcTxt K mg C) (c_is_as_told : Cal P w K mg base 2 "is_as_told" ["facts", "work", "thing"] (spTold K C)) : Cal P w K mg base 4 "wrong_works" ["facts", "plan"] (spWW K C) := by
 refine cal_of F scWW (fun _ _ _ _ _ _ => bind2 (fun _ _ => rfl)) (fun vs H Q E h => ?_) (fun f cdv A outer s H vs Q E hr h => ?_)
 ·obtain ⟨p, P, n, B, pl, rfl, _⟩ := h
  rfl
 obtain ⟨p, P, n, B, pl, rfl, hFc, bk, hP, hpf, h64, q⟩ := h
 obtain ⟨dx, lw, lb, lh, ls, la, ds, fs, kvs, yh, ysS, ya, hF⟩ := id hFc
 have hz : (20000 : Nat) < sizeLine := by decide
 have hu : (A.deeper (PyProof.Rows.envOfC "wrong_works" (defScope sWW) s.heap.objs.size f cdv)).units + 1 < cLine := Nat.lt_of_le_of_lt (Nat.add_le_add_left (by decide) _) hr.un
 have bl := bk.wb.len
 have wl : (wks B).length ≤ B.length := List.length_filterMap_le _ _
 have fl : ((wks B).filter (noK pl)).length ≤ (wks B).length := List.length_filter_le _ _
 have nd := hpf.nd bk.wb
 rw [gW_eq] at q
 refine ⟨_, (pss_cons (ps_setC (i := 2) ["work", "facts", "plan"] [none, some 0, some 1] rfl scWW.nd rfl (Or.inl rfl) (pi_list (pe_fld (pv 0) rfl)) (fun _ _ _ => (pg_name (i := 0) (show (["work", "facts", "plan"] : List Str).Nodup by decide +kernel) rfl (Or.inl rfl) (Or.inr rfl))) (fun _ _ _ => (pf_one (pt_not (pt_val (pe_fn c_is_as_told (hr.mono (by decide)) (pa_cons (pv 1) (pa_cons (pv 0) (pa_cons (pe_dget1 hu (pv 2) (pv 0) ⟨rfl, rfl, rfl, rfl⟩) pa_nil)))))))) (fun _ _ _ => (pv 0)))
  (pss_one (ps_ret (pe_lc ["work"] [none] rfl (pi_list (pe_op op_cat (pv 2) (pe_lc ["work", "facts"] [none, some 0] rfl (pi_list (pe_callB (call_sortedD rfl) rfl M.sorted bt_sorted (pa_cons (pv 1) pa_nil))) (fun _ _ _ => (pg_name (i := 0) (show (["work", "facts"] : List Str).Nodup by decide +kernel) rfl (Or.inl rfl) (Or.inr rfl))) (fun _ _ _ => (pf_one (pt_cmpR (op_notIn_seqK (K := K) rfl) (pv 0) (pe_fldK (K := K) rfl (pv 1) rfl) rfl))) (fun _ _ _ => (pv 0))))) (fun _ _ _ => (pg_name (i := 0) (show (["work"] : List Str).Nodup by decide +kernel) rfl (Or.inl rfl) (Or.inr rfl))) (fun _ _ _ => pf_nil) (fun _ _ _ => (pe_tup (pa_cons pe_str (pa_cons (pv 0) pa_nil)))))))), ?_⟩
 refine ⟨_, rfl, p, C, dx, fs, _, rfl, hF.hp, T.cl, T.nW, hF.fW, lw, rfl, ⟨_, sqL_new hF.hW⟩, fun D hD => ?_⟩
 let Pv45 : Nat → St → List V → Hp → Prop := fun m τ zs H1 => ∃ v : Option V, τ = [v, some (.ref p), some (.ref P)] ∧ zs = (((wks B).take m).filter (noK pl)).map V.str ∧ H1 D = some (.lst zs) ∧ Same H H1
 refine lc_any (n := (wks B).length) Pv45 ?_ (fun m τ zs H1 hm h => ?_) (fun m τ zs H1 hm h => ?_) (fun τ zs H1 h => ?_) ?_ ?_
 ·exact ⟨none, rfl, rfl, upd_same, same_new' hD _⟩
 ·obtain ⟨v, rfl, rfl, hE, s1⟩ := h
  have := List.length_filter_le (noK pl) ((wks B).take m)
  rw [List.length_take] at this
  exact ⟨hE, by rw [List.length_map]; lia⟩
 ·obtain ⟨v, rfl, rfl, hE, s1⟩ := h
  exact ⟨_, .str (wks B)[m], s1.seq (sqL_new hF.hW), by rw [List.getElem?_map, gE hm]; rfl⟩
 ·obtain ⟨v, rfl, rfl, hE, s1⟩ := h
  exact ⟨_, s1.seq (sqL_new hF.hW), by rw [List.length_map]; exact Nat.le_refl _⟩
 ·rintro m τ zs H1 x H2 hm ⟨v, rfl, rfl, hE, s1⟩ ⟨rfl, e1⟩
  have ew : (wks B)[m]? = some (wks B)[m] := gE hm
  have ex := e1 _ (s1.seq (sqL_new hF.hW))
  rw [List.getElem?_map, ew] at ex
  cases ex
  generalize (wks B)[m] = wk at ew
  have hP1 := PlanAt.same hP s1
  obtain ⟨kvs1, hk1, hk2⟩ := id hP1
  refine ⟨_, rfl, _, rfl, _, rfl, P, rfl, .inl ⟨kvs1, .inl hk1⟩, _, rfl, _, DGet.k (k := Sum.inr wk) hk1, ?_⟩
  cases ehk : hasK pl wk with
  | false =>
   have en : valV kvs1 (Sum.inr wk) = none := by
    have := plan_some (w := wk) hk2
    rw [ehk] at this
    cases e : valV kvs1 (Sum.inr wk) with
    | none => rfl
    | some v => rw [e] at this; cases this
   rw [en]
   refine ⟨p, n, B, wk, hFc.same s1, .inl ⟨rfl, fun H3 s3 => ⟨_, rfl, ite2 (fun y => ⟨_, rfl, s3 _ _ hE, _, rfl, ?_, upd_same, fun b o e => ?_⟩) (fun y => absurd rfl y)⟩⟩⟩
   ·rw [takeS ew, List.filter_append, List.map_append, List.filter_cons_of_pos (by unfold noK; rw [ehk]; rfl)]; rfl
   ·rw [upd_ne (ne_of_none e hD)]; exact s3 _ _ (s1 _ _ e)
  | true =>
   obtain ⟨l, c, hmem, hway, b0, b1⟩ := hpf.get bk.wb ehk
   obtain ⟨t, en, hT⟩ := plan_val hk2 nd hmem
   rw [en]
   refine ⟨p, n, B, wk, hFc.same s1, .inr ⟨t, _, _, l, c, rfl, hT, hway, b0, b1, fun H3 s3 => ⟨_, rfl, ite2 (fun y => nomatch y) (fun y => ⟨_, rfl, ?_, s3 _ _ hE, s1.trans s3⟩)⟩⟩⟩
   rw [takeS ew, List.filter_append, List.map_append, List.filter_cons_of_neg (by unfold noK; rw [ehk]; decide)]
   simp
 rintro τ zs H1 ⟨v, rfl, rfl, hE, s1⟩
 rw [List.take_length] at hE
 have hP1 := PlanAt.same hP s1
 obtain ⟨kvs1, hk1, hk2⟩ := id hP1
 have lk := Paired.length hk2
 refine ⟨_, rfl, _, rfl, P, kvs1, pl.map (·.1), rfl, hk1, plan_keys hk2, by lia, fun S qs hS hq _ => ?_⟩
 have s2 := same_new' hS (.lst (qs.map V.str))
 have s12 := s1.trans s2
 have lq : qs.length = pl.length := by rw [hq.length_eq, List.length_map]
 have hqs : (upd H1 S (.lst (qs.map V.str))) S = some (.lst (qs.map V.str)) := upd_same
 have hD2 := s2 _ _ hE
 generalize upd H1 S (.lst (qs.map V.str)) = H2 at s2 s12 hqs hD2
 have qw : ∀ x ∈ qs, x ∈ wks B := fun x hx => by
  have := hq.mem_iff.mp hx
  rw [hpf.keys] at this
  exact (List.mem_filter.mp (List.mem_reverse.mp this)).1
 refine ⟨S, rfl, ⟨_, sqL_new hqs⟩, fun D2 hD20 => ?_⟩
 let Pv46 : Nat → St → List V → Hp → Prop := fun m τ zs H3 => ∃ v : Option V, τ = [v, some (.ref p)] ∧ zs = [] ∧ H3 D2 = some (.lst zs) ∧ Same H2 H3
 refine lc_any (n := qs.length) Pv46 ?_ (fun m τ zs H3 hm h => ?_) (fun m τ zs H3 hm h => ?_) (fun τ zs H3 h => ?_) ?_ ?_
 ·exact ⟨none, rfl, rfl, upd_same, same_new' hD20 _⟩
 ·obtain ⟨v, rfl, rfl, hE, s3⟩ := h
  exact ⟨hE, by decide⟩
 ·obtain ⟨v, rfl, rfl, hE, s3⟩ := h
  exact ⟨_, .str qs[m], s3.seq (sqL_new hqs), by rw [List.getElem?_map, gE hm]; rfl⟩
 ·obtain ⟨v, rfl, rfl, hE, s3⟩ := h
  exact ⟨_, s3.seq (sqL_new hqs), by rw [List.length_map]; exact Nat.le_refl _⟩
 ·rintro m τ zs H3 x H4 hm ⟨v, rfl, rfl, hE, s3⟩ ⟨rfl, e1⟩
  have ew : qs[m]? = some qs[m] := gE hm
  have ex := e1 _ (s3.seq (sqL_new hqs))
  rw [List.getElem?_map, ew] at ex
  cases ex
  have hin := qw _ (List.mem_of_getElem? ew)
  generalize qs[m] = wk at ew hin
  have s13 := s12.trans s3
  refine ⟨_, rfl, _, rfl, p, C, dx, fs, _, rfl, s13 _ _ hF.hp, T.cl, T.nW, hF.fW, lw, _, rfl, .inl (s13.seq (sqL_new hF.hW)), rfl, str_flat _, _, rfl, ite2 (fun y => ?_) (fun y => ⟨_, rfl, rfl, hE, s3⟩)⟩
  have y' : (!inV (.str wk) ((wks B).map V.str)) = true := y
  rw [inV_str hin] at y'
  exact nomatch y'
 rintro τ zs H3 ⟨v, rfl, rfl, hE3, s3⟩
 refine ⟨D, D2, _, _, rfl, rfl, s3 _ _ hD2, hE3, ?_, fun W hW0 => ?_⟩
 ·rw [List.length_map, List.length_nil]; lia
 rw [List.append_nil]
 have s4 := same_new' hW0 (.lst (((wks B).filter (noK pl)).map V.str))
 have hWx : (upd H3 W (.lst (((wks B).filter (noK pl)).map V.str))) W = some (.lst (((wks B).filter (noK pl)).map V.str)) := upd_same
 have sA := (s12.trans s3).trans s4
 generalize upd H3 W (.lst (((wks B).filter (noK pl)).map V.str)) = H4 at s4 hWx sA
 refine ⟨W, rfl, ⟨_, sqL_new hWx⟩, fun D3 hD3 => ?_⟩
 let Pv47 : Nat → St → List V → Hp → Prop := fun m τ xs H5 => ∃ v : Option V, τ = [v] ∧ TupK H5 xs ((((wks B).filter (noK pl)).take m).map fun w => [(Sum.inr ("work" : Str) : Key), Sum.inr w]) ∧ xs.length ≤ m ∧ H5 D3 = some (.lst xs) ∧ Same H4 H5
 refine lc_any (n := ((wks B).filter (noK pl)).length) Pv47 ?_ (fun m τ xs H5 hm h => ?_) (fun m τ xs H5 hm h => ?_) (fun τ xs H5 h => ?_) ?_ ?_
 ·exact ⟨none, rfl, .nil, Nat.le_refl _, upd_same, same_new' hD3 _⟩
 ·obtain ⟨v, rfl, hX, hl, hE, s5⟩ := h
  exact ⟨hE, by lia⟩
 ·obtain ⟨v, rfl, hX, hl, hE, s5⟩ := h
  exact ⟨_, .str ((wks B).filter (noK pl))[m], s5.seq (sqL_new hWx), by rw [List.getElem?_map, gE hm]; rfl⟩
 ·obtain ⟨v, rfl, hX, hl, hE, s5⟩ := h
  exact ⟨_, s5.seq (sqL_new hWx), by rw [List.length_map]; exact Nat.le_refl _⟩
 ·rintro m τ xs H5 x H6 hm ⟨v, rfl, hX, hl, hE, s5⟩ ⟨rfl, e1⟩
  have ew : ((wks B).filter (noK pl))[m]? = some ((wks B).filter (noK pl))[m] := gE hm
  have ex := e1 _ (s5.seq (sqL_new hWx))
  rw [List.getElem?_map, ew] at ex
  cases ex
  generalize ((wks B).filter (noK pl))[m] = wk at ew
  refine ⟨_, rfl, by show 2 ≤ sizeLine; decide, fun t2 ht2 => ?_⟩
  have s7 := same_new' ht2 (.tup [.str "work", .str wk])
  have hE7 := s7 _ _ hE
  refine ⟨hE7, _, rfl, ?_, by rw [List.length_append]; exact Nat.succ_le_succ hl, upd_same, fun b o e => ?_⟩
  ·rw [takeS ew, List.map_append]
   exact Paired.snoc ((hX.same s7).updL hE7) ⟨t2, rfl, by rw [upd_ne (ne_of upd_same hE7 (by intro z; cases z))]; exact upd_same⟩
  ·rw [upd_ne (ne_of_none e hD3)]; exact s7 _ _ (s5 _ _ e)
 ·rintro τ xs H5 ⟨v, rfl, hX, hl, hE, s5⟩
  rw [List.take_length] at hX
  exact q D3 xs H5 (sA.trans s5) hE (by lia) hX
end
abbrev sBroken : Stmt := top 16
theorem findBy_cons (e : DictEntry) (l : List DictEntry) (x : Str) (t : Tok) (h : e.key = .str x t) (s : Str) : PySem.findBy PySem.Value.isStrOf ⟨e :: l⟩ s = if s = x then some e.val else PySem.findBy PySem.Value.isStrOf ⟨l⟩ s := by
 unfold PySem.findBy
 rw [List.find?_toArray, List.find?_toArray, List.find?_cons]
 by_cases hs : s = x
 ·subst hs
  rw [if_pos rfl, h]
  have : PySem.Value.isStrOf s (.str s t) = true := by simp [PySem.Value.isStrOf]
  rw [this]
  rfl
 ·rw [if_neg hs, h]
  have : PySem.Value.isStrOf s (.str x t) = false := by simp [PySem.Value.isStrOf]; exact fun z => hs z.symm
  rw [this]
theorem names_tab {w : World} {K : Fg} {mg : Str → Option Value} {aN : Addr} {es : Array DictEntry} {m : Nat} {h1 h2 h3 h4 h5 h6 h7 h8 h9 h10 h11 : Int} {t1 j1 t2 j2 t3 j3 t4 j4 t5 j5 t6 j6 t7 j7 t8 j8 t9 j9 t10 j10 t11 j11 : Tok}
  (b1 : mg "NAMES" = some (.ref aN)) (l1 : K.lookup aN = some ⟨.type "dict", none, .dict es m, #[]⟩) (k1 : PySem.W.KeysLit w.params es.toList) (o1 : (aN == sysModules) = false) (e1 : es = ⟨[⟨h1, .str "days" t1, .int 0 j1⟩, ⟨h2, .str "bench" t2, .int 1 j2⟩, ⟨h3, .str "shut" t3, .int 1 j3⟩, ⟨h4, .str "store" t4, .int 1 j4⟩, ⟨h5, .str "work" t5, .int 1 j5⟩, ⟨h6, .str "way" t6, .int 2 j6⟩, ⟨h7, .str "uses" t7, .int 3 j7⟩, ⟨h8, .str "takes" t8, .int 3 j8⟩, ⟨h9, .str "gives" t9, .int 3 j9⟩, ⟨h10, .str "after" t10, .int 2 j10⟩, ⟨h11, .str "late" t11, .int 1 j11⟩]⟩) : ∃ fN, Tab w K mg "NAMES" aN fN ∧ NamesOk fN := by
 refine ⟨_, tab_mk b1 l1 k1 o1, fun r => ?_⟩
 have ef : ∀ s : Str, PySem.findBy PySem.Value.isStrOf es s = if s = "days" then some (.int 0 j1) else if s = "bench" then some (.int 1 j2) else if s = "shut" then some (.int 1 j3) else if s = "store" then some (.int 1 j4) else if s = "work" then some (.int 1 j5) else if s = "way" then some (.int 2 j6) else if s = "uses" then some (.int 3 j7) else if s = "takes" then some (.int 3 j8) else if s = "gives" then some (.int 3 j9) else if s = "after" then some (.int 2 j10) else if s = "late" then some (.int 1 j11) else none := fun s => by
  subst e1
  rw [findBy_cons _ _ "days" t1 rfl, findBy_cons _ _ "bench" t2 rfl, findBy_cons _ _ "shut" t3 rfl, findBy_cons _ _ "store" t4 rfl, findBy_cons _ _ "work" t5 rfl, findBy_cons _ _ "way" t6 rfl, findBy_cons _ _ "uses" t7 rfl, findBy_cons _ _ "takes" t8 rfl, findBy_cons _ _ "gives" t9 rfl, findBy_cons _ _ "after" t10 rfl, findBy_cons _ _ "late" t11 rfl]
  rfl
 cases r with
 | days n => exact ⟨j1, by rw [ef]; rw [if_pos (show (BR.days n).word = "days" from rfl)]; rfl⟩
 | bench b r => exact ⟨j2, by rw [ef]; rw [if_neg (by show ¬ (("bench" : Str) = "days"); decide +kernel), if_pos (show (BR.bench b r).word = "bench" from rfl)]; rfl⟩
 | shut b f t => exact ⟨j3, by rw [ef]; rw [if_neg (by show ¬ (("shut" : Str) = "days"); decide +kernel), if_neg (by show ¬ (("shut" : Str) = "bench"); decide +kernel), if_pos (show (BR.shut b f t).word = "shut" from rfl)]; rfl⟩
 | store b m f => exact ⟨j4, by rw [ef]; rw [if_neg (by show ¬ (("store" : Str) = "days"); decide +kernel), if_neg (by show ¬ (("store" : Str) = "bench"); decide +kernel), if_neg (by show ¬ (("store" : Str) = "shut"); decide +kernel), if_pos (show (BR.store b m f).word = "store" from rfl)]; rfl⟩
 | work w => exact ⟨j5, by rw [ef]; rw [if_neg (by show ¬ (("work" : Str) = "days"); decide +kernel), if_neg (by show ¬ (("work" : Str) = "bench"); decide +kernel), if_neg (by show ¬ (("work" : Str) = "shut"); decide +kernel), if_neg (by show ¬ (("work" : Str) = "store"); decide +kernel), if_pos (show (BR.work w).word = "work" from rfl)]; rfl⟩
 | way w v l c => exact ⟨j6, by rw [ef]; rw [if_neg (by show ¬ (("way" : Str) = "days"); decide +kernel), if_neg (by show ¬ (("way" : Str) = "bench"); decide +kernel), if_neg (by show ¬ (("way" : Str) = "shut"); decide +kernel), if_neg (by show ¬ (("way" : Str) = "store"); decide +kernel), if_neg (by show ¬ (("way" : Str) = "work"); decide +kernel), if_pos (show (BR.way w v l c).word = "way" from rfl)]; rfl⟩
 | use k w v t m => match k with
  | 0 => exact ⟨j7, by rw [ef]; rw [if_neg (by show ¬ (("uses" : Str) = "days"); decide +kernel), if_neg (by show ¬ (("uses" : Str) = "bench"); decide +kernel), if_neg (by show ¬ (("uses" : Str) = "shut"); decide +kernel), if_neg (by show ¬ (("uses" : Str) = "store"); decide +kernel), if_neg (by show ¬ (("uses" : Str) = "work"); decide +kernel), if_neg (by show ¬ (("uses" : Str) = "way"); decide +kernel), if_pos (show (BR.use 0 w v t m).word = "uses" from rfl)]; rfl⟩
  | 1 => exact ⟨j8, by rw [ef]; rw [if_neg (by show ¬ (("takes" : Str) = "days"); decide +kernel), if_neg (by show ¬ (("takes" : Str) = "bench"); decide +kernel), if_neg (by show ¬ (("takes" : Str) = "shut"); decide +kernel), if_neg (by show ¬ (("takes" : Str) = "store"); decide +kernel), if_neg (by show ¬ (("takes" : Str) = "work"); decide +kernel), if_neg (by show ¬ (("takes" : Str) = "way"); decide +kernel), if_neg (by show ¬ (("takes" : Str) = "uses"); decide +kernel), if_pos (show (BR.use 1 w v t m).word = "takes" from rfl)]; rfl⟩
  | 2 => exact ⟨j9, by rw [ef]; rw [if_neg (by show ¬ (("gives" : Str) = "days"); decide +kernel), if_neg (by show ¬ (("gives" : Str) = "bench"); decide +kernel), if_neg (by show ¬ (("gives" : Str) = "shut"); decide +kernel), if_neg (by show ¬ (("gives" : Str) = "store"); decide +kernel), if_neg (by show ¬ (("gives" : Str) = "work"); decide +kernel), if_neg (by show ¬ (("gives" : Str) = "way"); decide +kernel), if_neg (by show ¬ (("gives" : Str) = "uses"); decide +kernel), if_neg (by show ¬ (("gives" : Str) = "takes"); decide +kernel), if_pos (show (BR.use 2 w v t m).word = "gives" from rfl)]; rfl⟩
 | after w x g => exact ⟨j10, by rw [ef]; rw [if_neg (by show ¬ (("after" : Str) = "days"); decide +kernel), if_neg (by show ¬ (("after" : Str) = "bench"); decide +kernel), if_neg (by show ¬ (("after" : Str) = "shut"); decide +kernel), if_neg (by show ¬ (("after" : Str) = "store"); decide +kernel), if_neg (by show ¬ (("after" : Str) = "work"); decide +kernel), if_neg (by show ¬ (("after" : Str) = "way"); decide +kernel), if_neg (by show ¬ (("after" : Str) = "uses"); decide +kernel), if_neg (by show ¬ (("after" : Str) = "takes"); decide +kernel), if_neg (by show ¬ (("after" : Str) = "gives"); decide +kernel), if_pos (show (BR.after w x g).word = "after" from rfl)]; rfl⟩
 | late w d c => exact ⟨j11, by rw [ef]; rw [if_neg (by show ¬ (("late" : Str) = "days"); decide +kernel), if_neg (by show ¬ (("late" : Str) = "bench"); decide +kernel), if_neg (by show ¬ (("late" : Str) = "shut"); decide +kernel), if_neg (by show ¬ (("late" : Str) = "store"); decide +kernel), if_neg (by show ¬ (("late" : Str) = "work"); decide +kernel), if_neg (by show ¬ (("late" : Str) = "way"); decide +kernel), if_neg (by show ¬ (("late" : Str) = "uses"); decide +kernel), if_neg (by show ¬ (("late" : Str) = "takes"); decide +kernel), if_neg (by show ¬ (("late" : Str) = "gives"); decide +kernel), if_neg (by show ¬ (("late" : Str) = "after"); decide +kernel), if_pos (show (BR.late w d c).word = "late" from rfl)]; rfl⟩
theorem nd_le {α : Type} [DecidableEq α] : ∀ {l m : List α}, l.Nodup → (∀ x ∈ l, x ∈ m) → l.length ≤ m.length
 | [], _, _, _ => Nat.zero_le _
 | a :: l, m, nd, h => by
  obtain ⟨n1, n2⟩ := List.nodup_cons.mp nd
  have ha := h a List.mem_cons_self
  have := nd_le (m := m.erase a) n2 fun x hx => (List.mem_erase_of_ne (fun e => n1 (by rw [← e]; exact hx))).mpr (h x (List.mem_cons_of_mem _ hx))
  rw [List.length_erase_of_mem ha] at this
  have := List.length_pos_of_mem ha
  rw [List.length_cons]
  lia
theorem plan_few {n : Int} {B : List BR} {pl : List (Str × Str × Int)} (wb : WB n B) (h : PlanFor n B pl) : pl.length < 64 := by
 obtain ⟨nm, l5, hm⟩ := wb.few
 have := nd_le (h.nd wb) (m := nm) fun x hx => by
  rw [h.keys] at hx
  have hx' := (List.mem_filter.mp (List.mem_reverse.mp hx)).1
  exact hm _ (wks_mem.mp hx') x (by show x ∈ [x]; exact List.mem_cons_self)
 rw [List.length_map] at this
 lia
theorem TupK.app {H : Hp} {a b : List V} {ks ls : List (List Key)} (h1 : TupK H a ks) (h2 : TupK H b ls) : TupK H (a ++ b) (ks ++ ls) := by
 unfold TupK at h1 h2 ⊢
 induction h1 with
 | nil => exact h2
 | cons z _ ih => exact .cons z ih
section
variable {P : Program} {w : World} {K : Fg} {mg : Str → Option Value} {base : Heap}
theorem scBroken : FnScope ["book", "plan", "facts", "wrong", "taken"] ["book", "plan"] (defScope sBroken) := ⟨rfl, rfl, rfl, by decide +kernel, rfl, by decide +kernel, by decide +kernel⟩
theorem okBroken {C fI : Addr} {fdI : FuncData} (F : Fn K mg "broken" sBroken) (M : Mg mg) (T : FcTxt K mg C) (mkI : Mk K C fI) (GI : FnOk P w K mg base CX0 2 fI fdI ["self", "book"] (spFInit K C)) (bI : Binds K fdI ["self", "book"] []) (c_wrong_works : Cal P w K mg base 4 "wrong_works" ["facts", "plan"] (spWW K C)) (c_choices_taken : Cal P w K mg base 1 "choices_taken" ["facts", "plan"] (spTaken K C)) (c_wrong_rooms : Cal P w K mg base 4 "wrong_rooms" ["facts", "taken"] (spWR K C)) (c_wrong_stores : Cal P w K mg base 4 "wrong_stores" ["facts", "taken"] (spWS K C)) (c_wrong_afters : Cal P w K mg base 4 "wrong_afters" ["facts", "taken"] (spWA K C)) : Cal P w K mg base 5 "broken" ["book", "plan"] (spDue K) := by
 refine cal_of F scBroken (fun _ _ _ _ _ _ => bind2 (fun _ _ => rfl)) (fun vs H Q E h => ?_) (fun f cdv A outer s H vs Q E hr h => ?_)
 ·obtain ⟨d, P, n, us, B, pl, rfl, _⟩ := h
  rfl
 obtain ⟨d, P, n, us, B, pl, rfl, hd, hB, bk, hP, hpf, q⟩ := h
 have hz : (20000 : Nat) < sizeLine := by decide
 refine ⟨_, (pss_cons (ps_set (i := 2) scBroken.nd rfl (Or.inl rfl) (pe_make mkI GI (hr.mono (by decide)) rfl T.mgC bI .nil pass0 (pa_cons (pv 0) pa_nil)))
  (pss_cons (ps_set (i := 3) scBroken.nd rfl (Or.inl rfl) (pe_fn c_wrong_works (hr.mono (by decide)) (pa_cons (pv 2) (pa_cons (pv 1) pa_nil))))
  (pss_cons (ps_if (pt_cmpR op_eq (pe_callB call_len_seq rfl M.len bt_len (pa_cons (pv 3) pa_nil)) pe_int (nomark _)) (pss_cons (ps_set (i := 4) scBroken.nd rfl (Or.inl rfl) (pe_fn c_choices_taken (hr.mono (by decide)) (pa_cons (pv 2) (pa_cons (pv 1) pa_nil))))
  (pss_one (ps_set (i := 3) scBroken.nd rfl (Or.inl rfl) (pe_op op_cat (pe_op op_cat (pe_fn c_wrong_rooms (hr.mono (by decide)) (pa_cons (pv 2) (pa_cons (pv 4) pa_nil))) (pe_fn c_wrong_stores (hr.mono (by decide)) (pa_cons (pv 2) (pa_cons (pv 4) pa_nil)))) (pe_fn c_wrong_afters (hr.mono (by decide)) (pa_cons (pv 2) (pa_cons (pv 4) pa_nil))))))) pss_nil)
  (pss_one (ps_ret (pe_ifExp (pt_cmpR op_gt (pe_callB call_len_seq rfl M.len bt_len (pa_cons (pv 3) pa_nil)) pe_int (nomark _)) (pe_ix ix_list (pv 3) pe_int (fun _ _ => rfl)) pe_non)))))), ?_⟩
 refine seq_let4 ?_
 intro rT4 rT3 rT2
 refine ⟨_, rfl, fun p dx fp fdx ndx => ?_⟩
 dsimp only [tNil]
 have s1 : Same H (upd (upd H dx (.own p)) p (.ins C dx [])) := (same_new' fdx _).trans (same_new' (by rw [upd_ne ndx.symm]; exact fp) _)
 have hp1 : upd (upd H dx (.own p)) p (.ins C dx []) p = some (.ins C dx []) := upd_same
 generalize upd (upd H dx (.own p)) p (.ins C dx []) = H1 at s1 hp1 ⊢
 refine ⟨p, d, dx, n, us, B, rfl, hp1, s1 _ _ hd, hB.same s1, bk, fun H2 hF fr => ⟨rfl, ?_⟩⟩
 have s2 : Same H H2 := fun b o e => fr b o (s1 _ _ e) (ne_of_none e fp)
 refine ⟨_, rfl, _, rfl, p, P, n, B, pl, rfl, hF, bk, PlanAt.same hP s2, hpf, plan_few bk.wb hpf, fun D xs H3 s3 hD hl hX => ?_⟩
 have s23 := s2.trans s3
 refine ⟨_, rfl, _, _, rfl, .inl (sqL_new hD), rfl, _, rfl, ite2 (fun y => ?_) (fun y => ?_)⟩
 rotate_left
 ·have eD : dueF n B pl = (B.flatMap (gW pl)).head? := by
   unfold dueF
   cases e : B.flatMap (gW pl) with
   | nil =>
    rw [e] at hX
    cases hX
    exact absurd rfl y
   | cons k r => rfl
  generalize B.flatMap (gW pl) = ks at eD hX
  refine ⟨_, rfl, _, _, rfl, .inl (sqL_new hD), _, _, rfl, rfl, _, rfl, ite2 (fun y => ?_) (fun y => ?_)⟩
  ·cases hX with
   | nil => exact nomatch y
   | cons z zs =>
    obtain ⟨t, rfl, ht⟩ := z
    exact ⟨_, rfl, D, _, _, _, rfl, rfl, sqL_new hD, (show atI (V.ref t :: _) ((0 : Nat) : Int) = some (V.ref t) from atI_nat rfl), q (.ref t) H3 s23 (by rw [eD]; exact ⟨t, rfl, ht⟩)⟩
  ·cases hX with
   | nil => exact q .non H3 s23 (by rw [eD]; rfl)
   | cons z zs => exact absurd (decide_eq_true (by rw [List.length_cons]; lia)) y
 have hW : B.flatMap (gW pl) = [] := by
  cases e : B.flatMap (gW pl) with
  | nil => rfl
  | cons k r =>
   rw [e] at hX
   cases hX
   exact nomatch y
 have hF3 := hF.same s3
 refine ⟨_, rfl, _, rfl, p, P, n, B, pl, rfl, hF3, bk, PlanAt.same hP s23, hpf, hW, fun tk ys H4 s4 htk hTk => ?_⟩
 have hF4 := hF3.same s4
 refine ⟨_, rfl, _, rfl, p, tk, n, B, pl, ys, rfl, hF4, bk, hpf, hW, htk, hTk, fun D1 x1 H5 s5 h1 l1 t1 => ?_⟩
 have hTk5 : TakenAre K H5 pl ys (wks B) := Paired.mapP hTk fun _ _ ⟨t, e, z⟩ => ⟨t, e, s5.tup z⟩
 refine ⟨_, rfl, _, rfl, p, tk, n, B, pl, ys, rfl, hF4.same s5, bk, hpf, hW, s5 _ _ htk, hTk5, fun D2 x2 H6 s6 h2 l2 t2 => ?_⟩
 refine ⟨D1, D2, x1, x2, rfl, rfl, s6 _ _ h1, h2, by lia, fun W1 hW1 => ?_⟩
 have s7 := same_new' hW1 (.lst (x1 ++ x2))
 have h7 : (upd H6 W1 (.lst (x1 ++ x2))) W1 = some (.lst (x1 ++ x2)) := upd_same
 have t7 := (TupK.app (t1.same s6) t2).same s7
 generalize upd H6 W1 (.lst (x1 ++ x2)) = H7 at s7 h7 t7
 have s57 := s6.trans s7
 have hTk7 : TakenAre K H7 pl ys (wks B) := Paired.mapP hTk5 fun _ _ ⟨t, e, z⟩ => ⟨t, e, s57.tup z⟩
 refine ⟨_, rfl, _, rfl, p, tk, n, B, pl, ys, rfl, (hF4.same s5).same s57, bk, hpf, hW, s57 _ _ (s5 _ _ htk), hTk7, fun D3 x3 H8 s8 h3 l3 t3 => ?_⟩
 refine ⟨W1, D3, x1 ++ x2, x3, rfl, rfl, s8 _ _ h7, h3, by rw [List.length_append]; lia, fun W2 hW2 => ?_⟩
 have s9 := same_new' hW2 (.lst (x1 ++ x2 ++ x3))
 have h9 : (upd H8 W2 (.lst (x1 ++ x2 ++ x3))) W2 = some (.lst (x1 ++ x2 ++ x3)) := upd_same
 have t9 := (TupK.app (t7.same s8) t3).same s9
 generalize upd H8 W2 (.lst (x1 ++ x2 ++ x3)) = H9 at s9 h9 t9
 have sA : Same H H9 := ((((s23.trans s4).trans s5).trans s57).trans s8).trans s9
 have eD : dueF n B pl = (B.flatMap (gR n B pl) ++ B.flatMap (gS n B pl) ++ B.flatMap (gA B pl)).head? := by
  unfold dueF
  rw [hW, List.nil_append, List.append_assoc]
 generalize x1 ++ x2 ++ x3 = xs at h9 t9
 generalize B.flatMap (gR n B pl) ++ B.flatMap (gS n B pl) ++ B.flatMap (gA B pl) = ks at eD t9
 refine ⟨_, rfl, _, _, rfl, .inl (sqL_new h9), _, _, rfl, rfl, _, rfl, ite2 (fun y => ?_) (fun y => ?_)⟩
 ·cases t9 with
  | nil => exact nomatch y
  | cons z zs =>
   obtain ⟨t, rfl, ht⟩ := z
   exact ⟨_, rfl, W2, _, _, _, rfl, rfl, sqL_new h9, (show atI (V.ref t :: _) ((0 : Nat) : Int) = some (V.ref t) from atI_nat rfl), q (.ref t) H9 sA (by rw [eD]; exact ⟨t, rfl, ht⟩)⟩
 ·cases t9 with
  | nil => exact q .non H9 sA (by rw [eD]; rfl)
  | cons z zs => exact absurd (decide_eq_true (by rw [List.length_cons]; lia)) y
end
def htop (i : Nat) : Stmt := PySem.Challenge.pw_nonebetter_k61_whole_broken_plans.main.body.getD i (.Pass ⟨0, 0, 0, 0⟩)
def hob0 (i : Nat) (P : Params) : Obj :=
 bif Nat.beq i 2 then Obj.mk Value.none none (Data.dict #[]) #[] else
 bif Nat.beq i 3 then Obj.mk (Value.type "dict") none (Data.dict #[DictEntry.mk (PyData.keyHash P "__name__") (Value.str "__name__" 165) (Value.str "law_nonebetter_k61_whole_broken_plans" 418), DictEntry.mk (PyData.keyHash P "__doc__") (Value.str "__doc__" 166) Value.none, DictEntry.mk (PyData.keyHash P "__package__") (Value.str "__package__" 167) Value.none, DictEntry.mk (PyData.keyHash P "__loader__") (Value.str "__loader__" 168) (Value.builtin "__main__.__loader__#opaque"), DictEntry.mk (PyData.keyHash P "__spec__") (Value.str "__spec__" 169) Value.none, DictEntry.mk (PyData.keyHash P "__annotations__") (Value.str "__annotations__" 170) (Value.ref 6), DictEntry.mk (PyData.keyHash P "__builtins__") (Value.str "__builtins__" 171) (Value.ref 4), DictEntry.mk (PyData.keyHash P "__file__") (Value.str "__file__" 173) (Value.str "/claim/cut.py" 172), DictEntry.mk (PyData.keyHash P "__cached__") (Value.str "__cached__" 174) Value.none, DictEntry.mk (PyData.keyHash P "_wall") (Value.str "_wall" 193) (Value.ref 21), DictEntry.mk (PyData.keyHash P "is_whole") (Value.str "is_whole" 202) (Value.ref 28), DictEntry.mk (PyData.keyHash P "is_pair") (Value.str "is_pair" 209) (Value.ref 35), DictEntry.mk (PyData.keyHash P "NAMES") (Value.str "NAMES" 245) (Value.ref 36), DictEntry.mk (PyData.keyHash P "said_by") (Value.str "said_by" 252) (Value.ref 43), DictEntry.mk (PyData.keyHash P "Facts") (Value.str "Facts" 365) (Value.ref 119), DictEntry.mk (PyData.keyHash P "choices_taken") (Value.str "choices_taken" 373) (Value.ref 128), DictEntry.mk (PyData.keyHash P "is_as_told") (Value.str "is_as_told" 382) (Value.ref 135), DictEntry.mk (PyData.keyHash P "wrong_works") (Value.str "wrong_works" 388) (Value.ref 140), DictEntry.mk (PyData.keyHash P "wrong_rooms") (Value.str "wrong_rooms" 394) (Value.ref 145), DictEntry.mk (PyData.keyHash P "wrong_stores") (Value.str "wrong_stores" 400) (Value.ref 150), DictEntry.mk (PyData.keyHash P "wrong_afters") (Value.str "wrong_afters" 406) (Value.ref 155), DictEntry.mk (PyData.keyHash P "broken") (Value.str "broken" 417) (Value.ref 162), DictEntry.mk (PyData.keyHash P "_law_cell_at") (Value.str "_law_cell_at" 427) (Value.ref 169), DictEntry.mk (PyData.keyHash P "_law_whole") (Value.str "_law_whole" 434) (Value.ref 176), DictEntry.mk (PyData.keyHash P "_law_block") (Value.str "_law_block" 444) (Value.ref 183), DictEntry.mk (PyData.keyHash P "_law_mixed") (Value.str "_law_mixed" 454) (Value.ref 190), DictEntry.mk (PyData.keyHash P "_law_name") (Value.str "_law_name" 466) (Value.ref 197), DictEntry.mk (PyData.keyHash P "_law_things") (Value.str "_law_things" 482) (Value.ref 204), DictEntry.mk (PyData.keyHash P "_law_way") (Value.str "_law_way" 499) (Value.ref 211), DictEntry.mk (PyData.keyHash P "_law_works") (Value.str "_law_works" 517) (Value.ref 218), DictEntry.mk (PyData.keyHash P "_law_put") (Value.str "_law_put" 529) (Value.ref 225), DictEntry.mk (PyData.keyHash P "_law_book") (Value.str "_law_book" 542) (Value.ref 232), DictEntry.mk (PyData.keyHash P "_law_ways") (Value.str "_law_ways" 548) (Value.ref 237), DictEntry.mk (PyData.keyHash P "_law_plan") (Value.str "_law_plan" 554) (Value.ref 242), DictEntry.mk (PyData.keyHash P "_law_length") (Value.str "_law_length" 560) (Value.ref 247), DictEntry.mk (PyData.keyHash P "_law_many") (Value.str "_law_many" 566) (Value.ref 252), DictEntry.mk (PyData.keyHash P "_law_room") (Value.str "_law_room" 572) (Value.ref 257), DictEntry.mk (PyData.keyHash P "_law_store") (Value.str "_law_store" 578) (Value.ref 262), DictEntry.mk (PyData.keyHash P "_law_due") (Value.str "_law_due" 590) (Value.ref 269), DictEntry.mk (PyData.keyHash P "_law_right") (Value.str "_law_right" 598) (Value.ref 276), DictEntry.mk (PyData.keyHash P "law") (Value.str "law" 604) (Value.ref 281)] 41) #[] else
 bif Nat.beq i 15 then Obj.mk (Value.type "tuple") none (Data.seq #[]) #[] else
 bif Nat.beq i 17 then Obj.mk (Value.type "tuple") none (Data.seq #[Value.str "k" 190]) #[] else
 Obj.mk (Value.type "tuple") none (Data.seq #[]) #[]
def hob1 (i : Nat) (P : Params) : Obj :=
 bif Nat.beq i 20 then Obj.mk (Value.type "code") none (Data.fields #[Value.str "_wall" 187, Value.str "_wall" 188, Value.str "/claim/cut.py" 189, Value.int 1 0, Value.int 1 0, Value.int 0 0, Value.int 0 0, Value.int 3 0, Value.ref 15, Value.bool Bool.true, Value.int 181 0, Value.ref 16, Value.none, Value.ref 17, Value.ref 18, Value.ref 19, Value.int 191 0, Value.int 1 0, Value.str "/claim/cut.py" 192]) #[] else
 bif Nat.beq i 21 then Obj.mk (Value.type "function") none (Data.func (FuncData.mk "_wall" "_wall" (L2.defArgs (htop 0)) (FuncBody.stmts (L2.defBody (htop 0))) (L2.defScope (htop 0)) (3) ([]) (Value.none) (Value.none) (Value.none) (Value.str "__main__" 164) none (Value.ref 20) (Value.none) (0))) (#[]) else
 bif Nat.beq i 22 then Obj.mk (Value.type "tuple") none (Data.seq #[]) #[] else
 bif Nat.beq i 24 then Obj.mk (Value.type "tuple") none (Data.seq #[Value.str "thing" 199]) #[] else
 Obj.mk (Value.type "tuple") none (Data.seq #[]) #[]
def hob2 (i : Nat) (P : Params) : Obj :=
 bif Nat.beq i 27 then Obj.mk (Value.type "code") none (Data.fields #[Value.str "is_whole" 196, Value.str "is_whole" 197, Value.str "/claim/cut.py" 198, Value.int 5 0, Value.int 1 0, Value.int 0 0, Value.int 0 0, Value.int 3 0, Value.ref 22, Value.bool Bool.true, Value.int 181 0, Value.ref 23, Value.none, Value.ref 24, Value.ref 25, Value.ref 26, Value.int 200 0, Value.int 5 0, Value.str "/claim/cut.py" 201]) #[] else
 bif Nat.beq i 28 then Obj.mk (Value.type "function") none (Data.func (FuncData.mk "is_whole" "is_whole" (L2.defArgs (htop 2)) (FuncBody.stmts (L2.defBody (htop 2))) (L2.defScope (htop 2)) (3) ([]) (Value.none) (Value.none) (Value.none) (Value.str "nonebetter.kinds" 194) none (Value.ref 27) (Value.none) (0))) (#[]) else
 bif Nat.beq i 29 then Obj.mk (Value.type "tuple") none (Data.seq #[]) #[] else
 bif Nat.beq i 31 then Obj.mk (Value.type "tuple") none (Data.seq #[Value.str "thing" 206]) #[] else
 Obj.mk (Value.type "tuple") none (Data.seq #[]) #[]
def hob3 (i : Nat) (P : Params) : Obj :=
 bif Nat.beq i 34 then Obj.mk (Value.type "code") none (Data.fields #[Value.str "is_pair" 203, Value.str "is_pair" 204, Value.str "/claim/cut.py" 205, Value.int 7 0, Value.int 1 0, Value.int 0 0, Value.int 0 0, Value.int 3 0, Value.ref 29, Value.bool Bool.true, Value.int 181 0, Value.ref 30, Value.none, Value.ref 31, Value.ref 32, Value.ref 33, Value.int 207 0, Value.int 7 0, Value.str "/claim/cut.py" 208]) #[] else
 bif Nat.beq i 35 then Obj.mk (Value.type "function") none (Data.func (FuncData.mk "is_pair" "is_pair" (L2.defArgs (htop 3)) (FuncBody.stmts (L2.defBody (htop 3))) (L2.defScope (htop 3)) (3) ([]) (Value.none) (Value.none) (Value.none) (Value.str "nonebetter.kinds" 194) none (Value.ref 34) (Value.none) (0))) (#[]) else
 bif Nat.beq i 36 then Obj.mk (Value.type "dict") none (Data.dict #[DictEntry.mk (PyData.keyHash P "days") (Value.str "days" 212) (Value.int 0 213), DictEntry.mk (PyData.keyHash P "bench") (Value.str "bench" 214) (Value.int 1 215), DictEntry.mk (PyData.keyHash P "shut") (Value.str "shut" 216) (Value.int 1 217), DictEntry.mk (PyData.keyHash P "store") (Value.str "store" 218) (Value.int 1 219), DictEntry.mk (PyData.keyHash P "work") (Value.str "work" 220) (Value.int 1 221), DictEntry.mk (PyData.keyHash P "way") (Value.str "way" 222) (Value.int 2 223), DictEntry.mk (PyData.keyHash P "uses") (Value.str "uses" 224) (Value.int 3 225), DictEntry.mk (PyData.keyHash P "takes") (Value.str "takes" 226) (Value.int 3 227), DictEntry.mk (PyData.keyHash P "gives") (Value.str "gives" 228) (Value.int 3 229), DictEntry.mk (PyData.keyHash P "after") (Value.str "after" 230) (Value.int 2 231), DictEntry.mk (PyData.keyHash P "late") (Value.str "late" 232) (Value.int 1 233)] 11) #[] else
 bif Nat.beq i 37 then Obj.mk (Value.type "tuple") none (Data.seq #[]) #[] else
 Obj.mk (Value.type "tuple") none (Data.seq #[Value.str "row" 249]) #[]
def hob4 (i : Nat) (P : Params) : Obj :=
 bif Nat.beq i 40 then Obj.mk (Value.type "tuple") none (Data.seq #[]) #[] else
 bif Nat.beq i 42 then Obj.mk (Value.type "code") none (Data.fields #[Value.str "said_by" 246, Value.str "said_by" 247, Value.str "/claim/cut.py" 248, Value.int 11 0, Value.int 1 0, Value.int 0 0, Value.int 0 0, Value.int 3 0, Value.ref 37, Value.bool Bool.true, Value.int 181 0, Value.ref 38, Value.none, Value.ref 39, Value.ref 40, Value.ref 41, Value.int 250 0, Value.int 11 0, Value.str "/claim/cut.py" 251]) #[] else
 bif Nat.beq i 43 then Obj.mk (Value.type "function") none (Data.func (FuncData.mk "said_by" "said_by" (L2.defArgs (htop 6)) (FuncBody.stmts (L2.defBody (htop 6))) (L2.defScope (htop 6)) (3) ([]) (Value.none) (Value.none) (Value.none) (Value.str "nonebetter.books" 210) none (Value.ref 42) (Value.none) (0))) (#[]) else
 bif Nat.beq i 51 then Obj.mk (Value.type "tuple") none (Data.seq #[]) #[] else
 Obj.mk (Value.type "code") none (Data.fields #[Value.str "__init__" 267, Value.str "Facts.__init__" 268, Value.str "/claim/cut.py" 269, Value.int 16 0, Value.int 2 0, Value.int 0 0, Value.int 0 0, Value.int 3 0, Value.ref 51, Value.bool Bool.true, Value.int 181 0, Value.ref 52, Value.none, Value.none, Value.none, Value.ref 53, Value.int 270 0, Value.int 16 0, Value.str "/claim/cut.py" 271]) #[]
def hob5 (i : Nat) (P : Params) : Obj :=
 bif Nat.beq i 55 then Obj.mk (Value.type "function") none (Data.func (FuncData.mk "__init__" "Facts.__init__" (Arguments.mk [] [Arg.mk "self" none (Pos.mk 16 17 16 21), Arg.mk "book" none (Pos.mk 16 23 16 27)] none [] [] none []) (FuncBody.stmts [Stmt.Assign [Expr.Attribute (Expr.Name "self" (Pos.mk 17 8 17 12)) "days" (Pos.mk 17 8 17 17)] (Expr.Subscript (Expr.Subscript (Expr.Name "book" (Pos.mk 17 20 17 24)) (Expr.Constant (Const.int 0) 0 (Pos.mk 17 25 17 26)) (Pos.mk 17 20 17 27)) (Expr.Constant (Const.int 1) 0 (Pos.mk 17 28 17 29)) (Pos.mk 17 20 17 30)) (Pos.mk 17 8 17 30), Stmt.Assign [Expr.Attribute (Expr.Name "self" (Pos.mk 18 8 18 12)) "works" (Pos.mk 18 8 18 18)] (Expr.ListComp (Expr.Subscript (Expr.Name "row" (Pos.mk 18 22 18 25)) (Expr.Constant (Const.int 1) 0 (Pos.mk 18 26 18 27)) (Pos.mk 18 22 18 28)) [Comprehension.mk (Expr.Name "row" (Pos.mk 18 33 18 36)) (Expr.Name "book" (Pos.mk 18 40 18 44)) [Expr.Compare (Expr.Subscript (Expr.Name "row" (Pos.mk 18 48 18 51)) (Expr.Constant (Const.int 0) 0 (Pos.mk 18 52 18 53)) (Pos.mk 18 48 18 54)) [CmpOp.Eq] [Expr.Constant (Const.str "work") 0 (Pos.mk 18 58 18 64)] (Pos.mk 18 48 18 64)] 0] (Scope.mk ScopeKind.function [(Str.ofString ".0", NameKind.local), (Str.ofString "row", NameKind.local)] Bool.false Bool.false []) (Pos.mk 18 21 18 65)) (Pos.mk 18 8 18 65), Stmt.Assign [Expr.Attribute (Expr.Name "self" (Pos.mk 19 8 19 12)) "benches" (Pos.mk 19 8 19 20)] (Expr.ListComp (Expr.Subscript (Expr.Name "row" (Pos.mk 19 24 19 27)) (Expr.Constant (Const.int 1) 0 (Pos.mk 19 28 19 29)) (Pos.mk 19 24 19 30)) [Comprehension.mk (Expr.Name "row" (Pos.mk 19 35 19 38)) (Expr.Name "book" (Pos.mk 19 42 19 46)) [Expr.Compare (Expr.Subscript (Expr.Name "row" (Pos.mk 19 50 19 53)) (Expr.Constant (Const.int 0) 0 (Pos.mk 19 54 19 55)) (Pos.mk 19 50 19 56)) [CmpOp.Eq] [Expr.Constant (Const.str "bench") 0 (Pos.mk 19 60 19 67)] (Pos.mk 19 50 19 67)] 0] (Scope.mk ScopeKind.function [(Str.ofString ".0", NameKind.local), (Str.ofString "row", NameKind.local)] Bool.false Bool.false []) (Pos.mk 19 23 19 68)) (Pos.mk 19 8 19 68), Stmt.Assign [Expr.Attribute (Expr.Name "self" (Pos.mk 20 8 20 12)) "shuts" (Pos.mk 20 8 20 18)] (Expr.ListComp (Expr.Call (Expr.Name "tuple" (Pos.mk 20 22 20 27)) [Expr.Subscript (Expr.Name "row" (Pos.mk 20 28 20 31)) (Expr.Slice (Option.some (Expr.Constant (Const.int 1) 0 (Pos.mk 20 32 20 33))) none Option.none (Pos.mk 20 32 20 34)) (Pos.mk 20 28 20 35)] [] (Pos.mk 20 22 20 36)) [Comprehension.mk (Expr.Name "row" (Pos.mk 20 41 20 44)) (Expr.Name "book" (Pos.mk 20 48 20 52)) [Expr.Compare (Expr.Subscript (Expr.Name "row" (Pos.mk 20 56 20 59)) (Expr.Constant (Const.int 0) 0 (Pos.mk 20 60 20 61)) (Pos.mk 20 56 20 62)) [CmpOp.Eq] [Expr.Constant (Const.str "shut") 0 (Pos.mk 20 66 20 72)] (Pos.mk 20 56 20 72)] 0] (Scope.mk ScopeKind.function [(Str.ofString ".0", NameKind.local), (Str.ofString "row", NameKind.local), (Str.ofString "tuple", NameKind.globalImplicit)] Bool.false Bool.false []) (Pos.mk 20 21 20 73)) (Pos.mk 20 8 20 73), Stmt.Assign [Expr.Attribute (Expr.Name "self" (Pos.mk 21 8 21 12)) "stores" (Pos.mk 21 8 21 19)] (Expr.ListComp (Expr.Call (Expr.Name "tuple" (Pos.mk 21 23 21 28)) [Expr.Subscript (Expr.Name "row" (Pos.mk 21 29 21 32)) (Expr.Slice (Option.some (Expr.Constant (Const.int 1) 0 (Pos.mk 21 33 21 34))) none Option.none (Pos.mk 21 33 21 35)) (Pos.mk 21 29 21 36)] [] (Pos.mk 21 23 21 37)) [Comprehension.mk (Expr.Name "row" (Pos.mk 21 42 21 45)) (Expr.Name "book" (Pos.mk 21 49 21 53)) [Expr.Compare (Expr.Subscript (Expr.Name "row" (Pos.mk 21 57 21 60)) (Expr.Constant (Const.int 0) 0 (Pos.mk 21 61 21 62)) (Pos.mk 21 57 21 63)) [CmpOp.Eq] [Expr.Constant (Const.str "store") 0 (Pos.mk 21 67 21 74)] (Pos.mk 21 57 21 74)] 0] (Scope.mk ScopeKind.function [(Str.ofString ".0", NameKind.local), (Str.ofString "row", NameKind.local), (Str.ofString "tuple", NameKind.globalImplicit)] Bool.false Bool.false []) (Pos.mk 21 22 21 75)) (Pos.mk 21 8 21 75), Stmt.Assign [Expr.Attribute (Expr.Name "self" (Pos.mk 22 8 22 12)) "afters" (Pos.mk 22 8 22 19)] (Expr.ListComp (Expr.Call (Expr.Name "tuple" (Pos.mk 22 23 22 28)) [Expr.Subscript (Expr.Name "row" (Pos.mk 22 29 22 32)) (Expr.Slice (Option.some (Expr.Constant (Const.int 1) 0 (Pos.mk 22 33 22 34))) none Option.none (Pos.mk 22 33 22 35)) (Pos.mk 22 29 22 36)] [] (Pos.mk 22 23 22 37)) [Comprehension.mk (Expr.Name "row" (Pos.mk 22 42 22 45)) (Expr.Name "book" (Pos.mk 22 49 22 53)) [Expr.Compare (Expr.Subscript (Expr.Name "row" (Pos.mk 22 57 22 60)) (Expr.Constant (Const.int 0) 0 (Pos.mk 22 61 22 62)) (Pos.mk 22 57 22 63)) [CmpOp.Eq] [Expr.Constant (Const.str "after") 0 (Pos.mk 22 67 22 74)] (Pos.mk 22 57 22 74)] 0] (Scope.mk ScopeKind.function [(Str.ofString ".0", NameKind.local), (Str.ofString "row", NameKind.local), (Str.ofString "tuple", NameKind.globalImplicit)] Bool.false Bool.false []) (Pos.mk 22 22 22 75)) (Pos.mk 22 8 22 75), Stmt.Assign [Expr.Attribute (Expr.Name "self" (Pos.mk 23 8 23 12)) "said" (Pos.mk 23 8 23 17)] (Expr.Call (Expr.Name "dict" (Pos.mk 23 20 23 24)) [Expr.ListComp (Expr.Tuple [Expr.Call (Expr.Name "said_by" (Pos.mk 23 27 23 34)) [Expr.Name "row" (Pos.mk 23 35 23 38)] [] (Pos.mk 23 27 23 39), Expr.Call (Expr.Name "tuple" (Pos.mk 23 41 23 46)) [Expr.Subscript (Expr.Name "row" (Pos.mk 23 47 23 50)) (Expr.Slice (Option.some (Expr.Call (Expr.Name "len" (Pos.mk 23 51 23 54)) [Expr.Call (Expr.Name "said_by" (Pos.mk 23 55 23 62)) [Expr.Name "row" (Pos.mk 23 63 23 66)] [] (Pos.mk 23 55 23 67)] [] (Pos.mk 23 51 23 68))) none Option.none (Pos.mk 23 51 23 69)) (Pos.mk 23 47 23 70)] [] (Pos.mk 23 41 23 71)] 0 (Pos.mk 23 26 23 72)) [Comprehension.mk (Expr.Name "row" (Pos.mk 23 77 23 80)) (Expr.Name "book" (Pos.mk 23 84 23 88)) [] 0] (Scope.mk ScopeKind.function [(Str.ofString ".0", NameKind.local), (Str.ofString "row", NameKind.local), (Str.ofString "said_by", NameKind.globalImplicit), (Str.ofString "tuple", NameKind.globalImplicit), (Str.ofString "len", NameKind.globalImplicit)] Bool.false Bool.false []) (Pos.mk 23 25 23 89)] [] (Pos.mk 23 20 23 90)) (Pos.mk 23 8 23 90)]) (Scope.mk ScopeKind.function [(Str.ofString "self", NameKind.local), (Str.ofString "book", NameKind.local), (Str.ofString "dict", NameKind.globalImplicit)] Bool.false Bool.false [(Str.ofString "fast", Const.str "self"), (Str.ofString "fast", Const.str "book"), (Str.ofString "fast", Const.str "row")]) 3 [] Value.none Value.none Value.none (Value.str "nonebetter.facts" 253) none (Value.ref 54) Value.none 0)) #[] else
 bif Nat.beq i 56 then Obj.mk (Value.type "tuple") none (Data.seq #[]) #[] else
 bif Nat.beq i 58 then Obj.mk (Value.type "tuple") none (Data.seq #[Value.str "self" 276, Value.str "work" 277, Value.str "way" 278]) #[] else
 bif Nat.beq i 59 then Obj.mk (Value.type "tuple") none (Data.seq #[]) #[] else
 Obj.mk (Value.type "code") none (Data.fields #[Value.str "is_way" 273, Value.str "Facts.is_way" 274, Value.str "/claim/cut.py" 275, Value.int 25 0, Value.int 3 0, Value.int 0 0, Value.int 0 0, Value.int 3 0, Value.ref 56, Value.bool Bool.true, Value.int 181 0, Value.ref 57, Value.none, Value.ref 58, Value.ref 59, Value.ref 60, Value.int 279 0, Value.int 25 0, Value.str "/claim/cut.py" 280]) #[]
def hob6 (i : Nat) (P : Params) : Obj :=
 bif Nat.beq i 62 then Obj.mk (Value.type "function") none (Data.func (FuncData.mk "is_way" "Facts.is_way" (Arguments.mk [] [Arg.mk "self" none (Pos.mk 25 15 25 19), Arg.mk "work" none (Pos.mk 25 21 25 25), Arg.mk "way" none (Pos.mk 25 27 25 30)] none [] [] none []) (FuncBody.stmts [Stmt.Return (Option.some (Expr.Compare (Expr.Tuple [Expr.Constant (Const.str "way") 0 (Pos.mk 26 16 26 21), Expr.Name "work" (Pos.mk 26 23 26 27), Expr.Name "way" (Pos.mk 26 29 26 32)] 0 (Pos.mk 26 15 26 33)) [CmpOp.In] [Expr.Attribute (Expr.Name "self" (Pos.mk 26 37 26 41)) "said" (Pos.mk 26 37 26 46)] (Pos.mk 26 15 26 46))) (Pos.mk 26 8 26 46)]) (Scope.mk ScopeKind.function [(Str.ofString "self", NameKind.local), (Str.ofString "work", NameKind.local), (Str.ofString "way", NameKind.local)] Bool.false Bool.false []) 3 [] Value.none Value.none Value.none (Value.str "nonebetter.facts" 253) none (Value.ref 61) Value.none 0)) #[] else
 bif Nat.beq i 63 then Obj.mk (Value.type "tuple") none (Data.seq #[]) #[] else
 bif Nat.beq i 65 then Obj.mk (Value.type "tuple") none (Data.seq #[Value.str "self" 285, Value.str "work" 286, Value.str "way" 287]) #[] else
 bif Nat.beq i 66 then Obj.mk (Value.type "tuple") none (Data.seq #[]) #[] else
 Obj.mk (Value.type "code") none (Data.fields #[Value.str "last_begin" 282, Value.str "Facts.last_begin" 283, Value.str "/claim/cut.py" 284, Value.int 28 0, Value.int 3 0, Value.int 0 0, Value.int 0 0, Value.int 3 0, Value.ref 63, Value.bool Bool.true, Value.int 181 0, Value.ref 64, Value.none, Value.ref 65, Value.ref 66, Value.ref 67, Value.int 288 0, Value.int 28 0, Value.str "/claim/cut.py" 289]) #[]
def hob7 (i : Nat) (P : Params) : Obj :=
 bif Nat.beq i 69 then Obj.mk (Value.type "function") none (Data.func (FuncData.mk "last_begin" "Facts.last_begin" (Arguments.mk [] [Arg.mk "self" none (Pos.mk 28 19 28 23), Arg.mk "work" none (Pos.mk 28 25 28 29), Arg.mk "way" none (Pos.mk 28 31 28 34)] none [] [] none []) (FuncBody.stmts [Stmt.Return (Option.some (Expr.BinOp (Expr.Attribute (Expr.Name "self" (Pos.mk 29 15 29 19)) "days" (Pos.mk 29 15 29 24)) Operator.Sub (Expr.Subscript (Expr.Subscript (Expr.Attribute (Expr.Name "self" (Pos.mk 29 27 29 31)) "said" (Pos.mk 29 27 29 36)) (Expr.Tuple [Expr.Constant (Const.str "way") 0 (Pos.mk 29 37 29 42), Expr.Name "work" (Pos.mk 29 44 29 48), Expr.Name "way" (Pos.mk 29 50 29 53)] 0 (Pos.mk 29 37 29 53)) (Pos.mk 29 27 29 54)) (Expr.Constant (Const.int 0) 0 (Pos.mk 29 55 29 56)) (Pos.mk 29 27 29 57)) (Pos.mk 29 15 29 57))) (Pos.mk 29 8 29 57)]) (Scope.mk ScopeKind.function [(Str.ofString "self", NameKind.local), (Str.ofString "work", NameKind.local), (Str.ofString "way", NameKind.local)] Bool.false Bool.false []) 3 [] Value.none Value.none Value.none (Value.str "nonebetter.facts" 253) none (Value.ref 68) Value.none 0)) #[] else
 bif Nat.beq i 70 then Obj.mk (Value.type "tuple") none (Data.seq #[]) #[] else
 bif Nat.beq i 72 then Obj.mk (Value.type "tuple") none (Data.seq #[Value.str "self" 294]) #[] else
 bif Nat.beq i 73 then Obj.mk (Value.type "tuple") none (Data.seq #[]) #[] else
 Obj.mk (Value.type "code") none (Data.fields #[Value.str "all_choices" 291, Value.str "Facts.all_choices" 292, Value.str "/claim/cut.py" 293, Value.int 31 0, Value.int 1 0, Value.int 0 0, Value.int 0 0, Value.int 3 0, Value.ref 70, Value.bool Bool.true, Value.int 181 0, Value.ref 71, Value.none, Value.ref 72, Value.ref 73, Value.ref 74, Value.int 295 0, Value.int 31 0, Value.str "/claim/cut.py" 296]) #[]
def hob8 (i : Nat) (P : Params) : Obj :=
 bif Nat.beq i 76 then Obj.mk (Value.type "function") none (Data.func (FuncData.mk "all_choices" "Facts.all_choices" (Arguments.mk [] [Arg.mk "self" none (Pos.mk 31 20 31 24)] none [] [] none []) (FuncBody.stmts [Stmt.Expr (Expr.Call (Expr.Name "_wall" (Pos.mk 32 8 32 13)) [Expr.Constant (Const.int 0) 0 (Pos.mk 32 14 32 15)] [] (Pos.mk 32 8 32 16)) (Pos.mk 32 8 32 16)]) (Scope.mk ScopeKind.function [(Str.ofString "self", NameKind.local), (Str.ofString "_wall", NameKind.globalImplicit)] Bool.false Bool.false []) 3 [] Value.none Value.none Value.none (Value.str "nonebetter.facts" 253) none (Value.ref 75) Value.none 0)) #[] else
 bif Nat.beq i 77 then Obj.mk (Value.type "tuple") none (Data.seq #[]) #[] else
 bif Nat.beq i 79 then Obj.mk (Value.type "tuple") none (Data.seq #[Value.str "self" 301, Value.str "choice" 302]) #[] else
 bif Nat.beq i 80 then Obj.mk (Value.type "tuple") none (Data.seq #[]) #[] else
 Obj.mk (Value.type "code") none (Data.fields #[Value.str "end_of" 298, Value.str "Facts.end_of" 299, Value.str "/claim/cut.py" 300, Value.int 34 0, Value.int 2 0, Value.int 0 0, Value.int 0 0, Value.int 3 0, Value.ref 77, Value.bool Bool.true, Value.int 181 0, Value.ref 78, Value.none, Value.ref 79, Value.ref 80, Value.ref 81, Value.int 303 0, Value.int 34 0, Value.str "/claim/cut.py" 304]) #[]
def hob9 (i : Nat) (P : Params) : Obj :=
 bif Nat.beq i 83 then Obj.mk (Value.type "function") none (Data.func (FuncData.mk "end_of" "Facts.end_of" (Arguments.mk [] [Arg.mk "self" none (Pos.mk 34 15 34 19), Arg.mk "choice" none (Pos.mk 34 21 34 27)] none [] [] none []) (FuncBody.stmts [Stmt.Return (Option.some (Expr.BinOp (Expr.Subscript (Expr.Name "choice" (Pos.mk 35 15 35 21)) (Expr.Constant (Const.int 2) 0 (Pos.mk 35 22 35 23)) (Pos.mk 35 15 35 24)) Operator.Add (Expr.Subscript (Expr.Subscript (Expr.Attribute (Expr.Name "self" (Pos.mk 35 27 35 31)) "said" (Pos.mk 35 27 35 36)) (Expr.BinOp (Expr.Tuple [Expr.Constant (Const.str "way") 0 (Pos.mk 35 38 35 43)] 0 (Pos.mk 35 37 35 45)) Operator.Add (Expr.Subscript (Expr.Name "choice" (Pos.mk 35 48 35 54)) (Expr.Slice none (Option.some (Expr.Constant (Const.int 2) 0 (Pos.mk 35 56 35 57))) none (Pos.mk 35 55 35 57)) (Pos.mk 35 48 35 58)) (Pos.mk 35 37 35 58)) (Pos.mk 35 27 35 59)) (Expr.Constant (Const.int 0) 0 (Pos.mk 35 60 35 61)) (Pos.mk 35 27 35 62)) (Pos.mk 35 15 35 62))) (Pos.mk 35 8 35 62)]) (Scope.mk ScopeKind.function [(Str.ofString "self", NameKind.local), (Str.ofString "choice", NameKind.local)] Bool.false Bool.false []) 3 [] Value.none Value.none Value.none (Value.str "nonebetter.facts" 253) none (Value.ref 82) Value.none 0)) #[] else
 bif Nat.beq i 84 then Obj.mk (Value.type "tuple") none (Data.seq #[]) #[] else
 bif Nat.beq i 86 then Obj.mk (Value.type "tuple") none (Data.seq #[Value.str "self" 309, Value.str "choice" 310]) #[] else
 bif Nat.beq i 87 then Obj.mk (Value.type "tuple") none (Data.seq #[]) #[] else
 Obj.mk (Value.type "code") none (Data.fields #[Value.str "price_of" 306, Value.str "Facts.price_of" 307, Value.str "/claim/cut.py" 308, Value.int 37 0, Value.int 2 0, Value.int 0 0, Value.int 0 0, Value.int 3 0, Value.ref 84, Value.bool Bool.true, Value.int 181 0, Value.ref 85, Value.none, Value.ref 86, Value.ref 87, Value.ref 88, Value.int 311 0, Value.int 37 0, Value.str "/claim/cut.py" 312]) #[]
def hob10 (i : Nat) (P : Params) : Obj :=
 bif Nat.beq i 90 then Obj.mk (Value.type "function") none (Data.func (FuncData.mk "price_of" "Facts.price_of" (Arguments.mk [] [Arg.mk "self" none (Pos.mk 37 17 37 21), Arg.mk "choice" none (Pos.mk 37 23 37 29)] none [] [] none []) (FuncBody.stmts [Stmt.Expr (Expr.Call (Expr.Name "_wall" (Pos.mk 38 8 38 13)) [Expr.Constant (Const.int 1) 0 (Pos.mk 38 14 38 15)] [] (Pos.mk 38 8 38 16)) (Pos.mk 38 8 38 16)]) (Scope.mk ScopeKind.function [(Str.ofString "self", NameKind.local), (Str.ofString "choice", NameKind.local), (Str.ofString "_wall", NameKind.globalImplicit)] Bool.false Bool.false []) 3 [] Value.none Value.none Value.none (Value.str "nonebetter.facts" 253) none (Value.ref 89) Value.none 0)) #[] else
 bif Nat.beq i 91 then Obj.mk (Value.type "tuple") none (Data.seq #[]) #[] else
 bif Nat.beq i 93 then Obj.mk (Value.type "tuple") none (Data.seq #[Value.str "self" 317, Value.str "word" 318, Value.str "choice" 319, Value.str "name" 320]) #[] else
 bif Nat.beq i 94 then Obj.mk (Value.type "tuple") none (Data.seq #[]) #[] else
 Obj.mk (Value.type "code") none (Data.fields #[Value.str "many" 314, Value.str "Facts.many" 315, Value.str "/claim/cut.py" 316, Value.int 40 0, Value.int 4 0, Value.int 0 0, Value.int 0 0, Value.int 3 0, Value.ref 91, Value.bool Bool.true, Value.int 181 0, Value.ref 92, Value.none, Value.ref 93, Value.ref 94, Value.ref 95, Value.int 321 0, Value.int 40 0, Value.str "/claim/cut.py" 322]) #[]
def hob11 (i : Nat) (P : Params) : Obj :=
 bif Nat.beq i 97 then Obj.mk (Value.type "function") none (Data.func (FuncData.mk "many" "Facts.many" (Arguments.mk [] [Arg.mk "self" none (Pos.mk 40 13 40 17), Arg.mk "word" none (Pos.mk 40 19 40 23), Arg.mk "choice" none (Pos.mk 40 25 40 31), Arg.mk "name" none (Pos.mk 40 33 40 37)] none [] [] none []) (FuncBody.stmts [Stmt.Return (Option.some (Expr.Subscript (Expr.Call (Expr.Attribute (Expr.Attribute (Expr.Name "self" (Pos.mk 41 15 41 19)) "said" (Pos.mk 41 15 41 24)) "get" (Pos.mk 41 15 41 28)) [Expr.BinOp (Expr.BinOp (Expr.Tuple [Expr.Name "word" (Pos.mk 41 30 41 34)] 0 (Pos.mk 41 29 41 36)) Operator.Add (Expr.Subscript (Expr.Name "choice" (Pos.mk 41 39 41 45)) (Expr.Slice none (Option.some (Expr.Constant (Const.int 2) 0 (Pos.mk 41 47 41 48))) none (Pos.mk 41 46 41 48)) (Pos.mk 41 39 41 49)) (Pos.mk 41 29 41 49)) Operator.Add (Expr.Tuple [Expr.Name "name" (Pos.mk 41 53 41 57)] 0 (Pos.mk 41 52 41 59)) (Pos.mk 41 29 41 59), Expr.Tuple [Expr.Constant (Const.int 0) 0 (Pos.mk 41 62 41 63)] 0 (Pos.mk 41 61 41 65)] [] (Pos.mk 41 15 41 66)) (Expr.Constant (Const.int 0) 0 (Pos.mk 41 67 41 68)) (Pos.mk 41 15 41 69))) (Pos.mk 41 8 41 69)]) (Scope.mk ScopeKind.function [(Str.ofString "self", NameKind.local), (Str.ofString "word", NameKind.local), (Str.ofString "choice", NameKind.local), (Str.ofString "name", NameKind.local)] Bool.false Bool.false []) 3 [] Value.none Value.none Value.none (Value.str "nonebetter.facts" 253) none (Value.ref 96) Value.none 0)) #[] else
 bif Nat.beq i 98 then Obj.mk (Value.type "tuple") none (Data.seq #[]) #[] else
 bif Nat.beq i 100 then Obj.mk (Value.type "tuple") none (Data.seq #[Value.str "self" 327, Value.str "choice" 328, Value.str "bench" 329, Value.str "day" 330]) #[] else
 bif Nat.beq i 101 then Obj.mk (Value.type "tuple") none (Data.seq #[]) #[] else
 Obj.mk (Value.type "code") none (Data.fields #[Value.str "used_by" 324, Value.str "Facts.used_by" 325, Value.str "/claim/cut.py" 326, Value.int 43 0, Value.int 4 0, Value.int 0 0, Value.int 0 0, Value.int 3 0, Value.ref 98, Value.bool Bool.true, Value.int 181 0, Value.ref 99, Value.none, Value.ref 100, Value.ref 101, Value.ref 102, Value.int 331 0, Value.int 43 0, Value.str "/claim/cut.py" 332]) #[]
def hob12 (i : Nat) (P : Params) : Obj :=
 bif Nat.beq i 104 then Obj.mk (Value.type "function") none (Data.func (FuncData.mk "used_by" "Facts.used_by" (Arguments.mk [] [Arg.mk "self" none (Pos.mk 43 16 43 20), Arg.mk "choice" none (Pos.mk 43 22 43 28), Arg.mk "bench" none (Pos.mk 43 30 43 35), Arg.mk "day" none (Pos.mk 43 37 43 40)] none [] [] none []) (FuncBody.stmts [Stmt.If (Expr.Compare (Expr.Subscript (Expr.Name "choice" (Pos.mk 44 11 44 17)) (Expr.Constant (Const.int 2) 0 (Pos.mk 44 18 44 19)) (Pos.mk 44 11 44 20)) [CmpOp.LtE, CmpOp.Lt] [Expr.Name "day" (Pos.mk 44 24 44 27), Expr.Call (Expr.Attribute (Expr.Name "self" (Pos.mk 44 30 44 34)) "end_of" (Pos.mk 44 30 44 41)) [Expr.Name "choice" (Pos.mk 44 42 44 48)] [] (Pos.mk 44 30 44 49)] (Pos.mk 44 11 44 49)) [Stmt.Return (Option.some (Expr.Call (Expr.Attribute (Expr.Name "self" (Pos.mk 45 19 45 23)) "many" (Pos.mk 45 19 45 28)) [Expr.Constant (Const.str "uses") 0 (Pos.mk 45 29 45 35), Expr.Name "choice" (Pos.mk 45 37 45 43), Expr.Name "bench" (Pos.mk 45 45 45 50)] [] (Pos.mk 45 19 45 51))) (Pos.mk 45 12 45 51)] [] (Pos.mk 44 8 45 51), Stmt.Return (Option.some (Expr.Constant (Const.int 0) 0 (Pos.mk 46 15 46 16))) (Pos.mk 46 8 46 16)]) (Scope.mk ScopeKind.function [(Str.ofString "self", NameKind.local), (Str.ofString "choice", NameKind.local), (Str.ofString "bench", NameKind.local), (Str.ofString "day", NameKind.local)] Bool.false Bool.false []) 3 [] Value.none Value.none Value.none (Value.str "nonebetter.facts" 253) none (Value.ref 103) Value.none 0)) #[] else
 bif Nat.beq i 105 then Obj.mk (Value.type "tuple") none (Data.seq #[]) #[] else
 bif Nat.beq i 107 then Obj.mk (Value.type "tuple") none (Data.seq #[Value.str "self" 337, Value.str "choice" 338, Value.str "store" 339, Value.str "day" 340, Value.str "gain" 341]) #[] else
 bif Nat.beq i 108 then Obj.mk (Value.type "tuple") none (Data.seq #[]) #[] else
 Obj.mk (Value.type "code") none (Data.fields #[Value.str "gain_by" 334, Value.str "Facts.gain_by" 335, Value.str "/claim/cut.py" 336, Value.int 48 0, Value.int 4 0, Value.int 0 0, Value.int 0 0, Value.int 3 0, Value.ref 105, Value.bool Bool.true, Value.int 181 0, Value.ref 106, Value.none, Value.ref 107, Value.ref 108, Value.ref 109, Value.int 342 0, Value.int 48 0, Value.str "/claim/cut.py" 343]) #[]
def hob13 (i : Nat) (P : Params) : Obj :=
 bif Nat.beq i 111 then Obj.mk (Value.type "function") none (Data.func (FuncData.mk "gain_by" "Facts.gain_by" (Arguments.mk [] [Arg.mk "self" none (Pos.mk 48 16 48 20), Arg.mk "choice" none (Pos.mk 48 22 48 28), Arg.mk "store" none (Pos.mk 48 30 48 35), Arg.mk "day" none (Pos.mk 48 37 48 40)] none [] [] none []) (FuncBody.stmts [Stmt.Assign [Expr.Name "gain" (Pos.mk 49 8 49 12)] (Expr.Constant (Const.int 0) 0 (Pos.mk 49 15 49 16)) (Pos.mk 49 8 49 16), Stmt.If (Expr.Compare (Expr.Subscript (Expr.Name "choice" (Pos.mk 50 11 50 17)) (Expr.Constant (Const.int 2) 0 (Pos.mk 50 18 50 19)) (Pos.mk 50 11 50 20)) [CmpOp.LtE] [Expr.Name "day" (Pos.mk 50 24 50 27)] (Pos.mk 50 11 50 27)) [Stmt.AugAssign (Expr.Name "gain" (Pos.mk 51 12 51 16)) Operator.Sub (Expr.Call (Expr.Attribute (Expr.Name "self" (Pos.mk 51 20 51 24)) "many" (Pos.mk 51 20 51 29)) [Expr.Constant (Const.str "takes") 0 (Pos.mk 51 30 51 37), Expr.Name "choice" (Pos.mk 51 39 51 45), Expr.Name "store" (Pos.mk 51 47 51 52)] [] (Pos.mk 51 20 51 53)) (Pos.mk 51 12 51 53)] [] (Pos.mk 50 8 51 53), Stmt.If (Expr.Compare (Expr.Call (Expr.Attribute (Expr.Name "self" (Pos.mk 52 11 52 15)) "end_of" (Pos.mk 52 11 52 22)) [Expr.Name "choice" (Pos.mk 52 23 52 29)] [] (Pos.mk 52 11 52 30)) [CmpOp.LtE] [Expr.Name "day" (Pos.mk 52 34 52 37)] (Pos.mk 52 11 52 37)) [Stmt.AugAssign (Expr.Name "gain" (Pos.mk 53 12 53 16)) Operator.Add (Expr.Call (Expr.Attribute (Expr.Name "self" (Pos.mk 53 20 53 24)) "many" (Pos.mk 53 20 53 29)) [Expr.Constant (Const.str "gives") 0 (Pos.mk 53 30 53 37), Expr.Name "choice" (Pos.mk 53 39 53 45), Expr.Name "store" (Pos.mk 53 47 53 52)] [] (Pos.mk 53 20 53 53)) (Pos.mk 53 12 53 53)] [] (Pos.mk 52 8 53 53), Stmt.Return (Option.some (Expr.Name "gain" (Pos.mk 54 15 54 19))) (Pos.mk 54 8 54 19)]) (Scope.mk ScopeKind.function [(Str.ofString "self", NameKind.local), (Str.ofString "choice", NameKind.local), (Str.ofString "store", NameKind.local), (Str.ofString "day", NameKind.local), (Str.ofString "gain", NameKind.local)] Bool.false Bool.false []) 3 [] Value.none Value.none Value.none (Value.str "nonebetter.facts" 253) none (Value.ref 110) Value.none 0)) #[] else
 bif Nat.beq i 112 then Obj.mk (Value.type "tuple") none (Data.seq #[]) #[] else
 bif Nat.beq i 115 then Obj.mk (Value.type "code") none (Data.fields #[Value.str "room_of" 345, Value.str "Facts.room_of" 346, Value.str "/claim/cut.py" 347, Value.int 56 0, Value.int 3 0, Value.int 0 0, Value.int 0 0, Value.int 3 0, Value.ref 112, Value.bool Bool.true, Value.int 181 0, Value.ref 113, Value.none, Value.none, Value.none, Value.ref 114, Value.int 348 0, Value.int 56 0, Value.str "/claim/cut.py" 349]) #[] else
 bif Nat.beq i 116 then Obj.mk (Value.type "function") none (Data.func (FuncData.mk "room_of" "Facts.room_of" (Arguments.mk [] [Arg.mk "self" none (Pos.mk 56 16 56 20), Arg.mk "bench" none (Pos.mk 56 22 56 27), Arg.mk "day" none (Pos.mk 56 29 56 32)] none [] [] none []) (FuncBody.stmts [Stmt.If (Expr.Call (Expr.Name "any" (Pos.mk 57 11 57 14)) [Expr.ListComp (Expr.BoolOp BoolOp.And [Expr.Compare (Expr.Name "name" (Pos.mk 57 16 57 20)) [CmpOp.Eq] [Expr.Name "bench" (Pos.mk 57 24 57 29)] (Pos.mk 57 16 57 29), Expr.Compare (Expr.Name "begin" (Pos.mk 57 34 57 39)) [CmpOp.LtE, CmpOp.Lt] [Expr.Name "day" (Pos.mk 57 43 57 46), Expr.Name "end" (Pos.mk 57 49 57 52)] (Pos.mk 57 34 57 52)] (Pos.mk 57 16 57 52)) [Comprehension.mk (Expr.Tuple [Expr.Name "name" (Pos.mk 57 57 57 61), Expr.Name "begin" (Pos.mk 57 63 57 68), Expr.Name "end" (Pos.mk 57 70 57 73)] 0 (Pos.mk 57 57 57 73)) (Expr.Attribute (Expr.Name "self" (Pos.mk 57 77 57 81)) "shuts" (Pos.mk 57 77 57 87)) [] 0] (Scope.mk ScopeKind.function [(Str.ofString ".0", NameKind.local), (Str.ofString "name", NameKind.local), (Str.ofString "begin", NameKind.local), (Str.ofString "end", NameKind.local), (Str.ofString "bench", NameKind.free), (Str.ofString "day", NameKind.free)] Bool.false Bool.false []) (Pos.mk 57 15 57 88)] [] (Pos.mk 57 11 57 89)) [Stmt.Return (Option.some (Expr.Constant (Const.int 0) 0 (Pos.mk 58 19 58 20))) (Pos.mk 58 12 58 20)] [] (Pos.mk 57 8 58 20), Stmt.Return (Option.some (Expr.Subscript (Expr.Subscript (Expr.Attribute (Expr.Name "self" (Pos.mk 59 15 59 19)) "said" (Pos.mk 59 15 59 24)) (Expr.Tuple [Expr.Constant (Const.str "bench") 0 (Pos.mk 59 25 59 32), Expr.Name "bench" (Pos.mk 59 34 59 39)] 0 (Pos.mk 59 25 59 39)) (Pos.mk 59 15 59 40)) (Expr.Constant (Const.int 0) 0 (Pos.mk 59 41 59 42)) (Pos.mk 59 15 59 43))) (Pos.mk 59 8 59 43)]) (Scope.mk ScopeKind.function [(Str.ofString "self", NameKind.local), (Str.ofString "bench", NameKind.cell), (Str.ofString "day", NameKind.cell), (Str.ofString "any", NameKind.globalImplicit)] Bool.false Bool.false [(Str.ofString "fast", Const.str "self"), (Str.ofString "fast", Const.str "bench"), (Str.ofString "fast", Const.str "day"), (Str.ofString "fast", Const.str "name"), (Str.ofString "fast", Const.str "begin"), (Str.ofString "fast", Const.str "end")]) 3 [] Value.none Value.none Value.none (Value.str "nonebetter.facts" 253) none (Value.ref 115) Value.none 0)) #[] else
 Obj.mk (Value.type "tuple") none (Data.seq #[Value.str "afters" 351, Value.str "benches" 352, Value.str "days" 353, Value.str "said" 354, Value.str "shuts" 355, Value.str "stores" 356, Value.str "works" 357]) #[]
def hob14 (i : Nat) (P : Params) : Obj :=
 bif Nat.beq i 118 then Obj.mk (Value.type "dict") none (Data.dict #[DictEntry.mk (PyData.keyHash P "__module__") (Value.str "__module__" 262) (Value.str "nonebetter.facts" 253), DictEntry.mk (PyData.keyHash P "__firstlineno__") (Value.str "__firstlineno__" 266) (Value.int 14 265), DictEntry.mk (PyData.keyHash P "__init__") (Value.str "__init__" 272) (Value.ref 55), DictEntry.mk (PyData.keyHash P "is_way") (Value.str "is_way" 281) (Value.ref 62), DictEntry.mk (PyData.keyHash P "last_begin") (Value.str "last_begin" 290) (Value.ref 69), DictEntry.mk (PyData.keyHash P "all_choices") (Value.str "all_choices" 297) (Value.ref 76), DictEntry.mk (PyData.keyHash P "end_of") (Value.str "end_of" 305) (Value.ref 83), DictEntry.mk (PyData.keyHash P "price_of") (Value.str "price_of" 313) (Value.ref 90), DictEntry.mk (PyData.keyHash P "many") (Value.str "many" 323) (Value.ref 97), DictEntry.mk (PyData.keyHash P "used_by") (Value.str "used_by" 333) (Value.ref 104), DictEntry.mk (PyData.keyHash P "gain_by") (Value.str "gain_by" 344) (Value.ref 111), DictEntry.mk (PyData.keyHash P "room_of") (Value.str "room_of" 350) (Value.ref 116), DictEntry.mk (PyData.keyHash P "__static_attributes__") (Value.str "__static_attributes__" 358) (Value.ref 117), DictEntry.mk (PyData.keyHash P "__dict__") (Value.str "__dict__" 360) (Value.ref 120), DictEntry.mk (PyData.keyHash P "__weakref__") (Value.str "__weakref__" 362) (Value.ref 121), DictEntry.mk (PyData.keyHash P "__doc__") (Value.str "__doc__" 363) Value.none] 4) #[] else
 bif Nat.beq i 119 then Obj.mk (Value.type "type") none (Data.cls (ClassData.mk "Facts" [Value.type "object"] [Value.ref 119, Value.type "object"] 118 "Facts" Bool.true [] [] Bool.false none Bool.false)) #[Option.none, Option.none, Option.some (Value.str "Facts" 255), Option.some (Value.str "Facts" 263), Option.some (Value.builtin "object.__new__"), Option.some (Value.bool Bool.true)] else
 bif Nat.beq i 120 then Obj.mk (Value.type "getset_descriptor") none (Data.fields #[Value.str "__dict__" 359, Value.ref 119, Value.builtin "function.__dict__", Value.builtin "function.__dict__#set"]) #[] else
 bif Nat.beq i 121 then Obj.mk (Value.type "getset_descriptor") none (Data.fields #[Value.str "__weakref__" 361, Value.ref 119, Value.builtin "ExceptionGroup.__weakref__", Value.none]) #[] else
 Obj.mk (Value.type "tuple") none (Data.seq #[]) #[]
def hob15 (i : Nat) (P : Params) : Obj :=
 bif Nat.beq i 127 then Obj.mk (Value.type "code") none (Data.fields #[Value.str "choices_taken" 368, Value.str "choices_taken" 369, Value.str "/claim/cut.py" 370, Value.int 61 0, Value.int 2 0, Value.int 0 0, Value.int 0 0, Value.int 3 0, Value.ref 124, Value.bool Bool.true, Value.int 181 0, Value.ref 125, Value.none, Value.none, Value.none, Value.ref 126, Value.int 371 0, Value.int 61 0, Value.str "/claim/cut.py" 372]) #[] else
 bif Nat.beq i 128 then Obj.mk (Value.type "function") none (Data.func (FuncData.mk "choices_taken" "choices_taken" (L2.defArgs (htop 10)) (FuncBody.stmts (L2.defBody (htop 10))) (L2.defScope (htop 10)) (3) ([]) (Value.none) (Value.none) (Value.none) (Value.str "nonebetter.plans" 366) none (Value.ref 127) (Value.none) (0))) (#[]) else
 bif Nat.beq i 129 then Obj.mk (Value.type "tuple") none (Data.seq #[]) #[] else
 bif Nat.beq i 131 then Obj.mk (Value.type "tuple") none (Data.seq #[Value.str "facts" 377, Value.str "work" 378, Value.str "thing" 379]) #[] else
 Obj.mk (Value.type "tuple") none (Data.seq #[]) #[]
def hob16 (i : Nat) (P : Params) : Obj :=
 bif Nat.beq i 134 then Obj.mk (Value.type "code") none (Data.fields #[Value.str "is_as_told" 374, Value.str "is_as_told" 375, Value.str "/claim/cut.py" 376, Value.int 63 0, Value.int 3 0, Value.int 0 0, Value.int 0 0, Value.int 3 0, Value.ref 129, Value.bool Bool.true, Value.int 181 0, Value.ref 130, Value.none, Value.ref 131, Value.ref 132, Value.ref 133, Value.int 380 0, Value.int 63 0, Value.str "/claim/cut.py" 381]) #[] else
 bif Nat.beq i 135 then Obj.mk (Value.type "function") none (Data.func (FuncData.mk "is_as_told" "is_as_told" (L2.defArgs (htop 11)) (FuncBody.stmts (L2.defBody (htop 11))) (L2.defScope (htop 11)) (3) ([]) (Value.none) (Value.none) (Value.none) (Value.str "nonebetter.plans" 366) none (Value.ref 134) (Value.none) (0))) (#[]) else
 bif Nat.beq i 136 then Obj.mk (Value.type "tuple") none (Data.seq #[]) #[] else
 bif Nat.beq i 139 then Obj.mk (Value.type "code") none (Data.fields #[Value.str "wrong_works" 383, Value.str "wrong_works" 384, Value.str "/claim/cut.py" 385, Value.int 67 0, Value.int 2 0, Value.int 0 0, Value.int 0 0, Value.int 3 0, Value.ref 136, Value.bool Bool.true, Value.int 181 0, Value.ref 137, Value.none, Value.none, Value.none, Value.ref 138, Value.int 386 0, Value.int 67 0, Value.str "/claim/cut.py" 387]) #[] else
 Obj.mk (Value.type "function") none (Data.func (FuncData.mk "wrong_works" "wrong_works" (L2.defArgs (htop 12)) (FuncBody.stmts (L2.defBody (htop 12))) (L2.defScope (htop 12)) (3) ([]) (Value.none) (Value.none) (Value.none) (Value.str "nonebetter.plans" 366) none (Value.ref 139) (Value.none) (0))) (#[])
def hob17 (i : Nat) (P : Params) : Obj :=
 bif Nat.beq i 141 then Obj.mk (Value.type "tuple") none (Data.seq #[]) #[] else
 bif Nat.beq i 144 then Obj.mk (Value.type "code") none (Data.fields #[Value.str "wrong_rooms" 389, Value.str "wrong_rooms" 390, Value.str "/claim/cut.py" 391, Value.int 70 0, Value.int 2 0, Value.int 0 0, Value.int 0 0, Value.int 3 0, Value.ref 141, Value.bool Bool.true, Value.int 181 0, Value.ref 142, Value.none, Value.none, Value.none, Value.ref 143, Value.int 392 0, Value.int 70 0, Value.str "/claim/cut.py" 393]) #[] else
 bif Nat.beq i 145 then Obj.mk (Value.type "function") none (Data.func (FuncData.mk "wrong_rooms" "wrong_rooms" (L2.defArgs (htop 13)) (FuncBody.stmts (L2.defBody (htop 13))) (L2.defScope (htop 13)) (3) ([]) (Value.none) (Value.none) (Value.none) (Value.str "nonebetter.plans" 366) none (Value.ref 144) (Value.none) (0))) (#[]) else
 bif Nat.beq i 146 then Obj.mk (Value.type "tuple") none (Data.seq #[]) #[] else
 Obj.mk (Value.type "code") none (Data.fields #[Value.str "wrong_stores" 395, Value.str "wrong_stores" 396, Value.str "/claim/cut.py" 397, Value.int 77 0, Value.int 2 0, Value.int 0 0, Value.int 0 0, Value.int 3 0, Value.ref 146, Value.bool Bool.true, Value.int 181 0, Value.ref 147, Value.none, Value.none, Value.none, Value.ref 148, Value.int 398 0, Value.int 77 0, Value.str "/claim/cut.py" 399]) #[]
def hob18 (i : Nat) (P : Params) : Obj :=
 bif Nat.beq i 150 then Obj.mk (Value.type "function") none (Data.func (FuncData.mk "wrong_stores" "wrong_stores" (L2.defArgs (htop 14)) (FuncBody.stmts (L2.defBody (htop 14))) (L2.defScope (htop 14)) (3) ([]) (Value.none) (Value.none) (Value.none) (Value.str "nonebetter.plans" 366) none (Value.ref 149) (Value.none) (0))) (#[]) else
 bif Nat.beq i 151 then Obj.mk (Value.type "tuple") none (Data.seq #[]) #[] else
 bif Nat.beq i 154 then Obj.mk (Value.type "code") none (Data.fields #[Value.str "wrong_afters" 401, Value.str "wrong_afters" 402, Value.str "/claim/cut.py" 403, Value.int 84 0, Value.int 2 0, Value.int 0 0, Value.int 0 0, Value.int 3 0, Value.ref 151, Value.bool Bool.true, Value.int 181 0, Value.ref 152, Value.none, Value.none, Value.none, Value.ref 153, Value.int 404 0, Value.int 84 0, Value.str "/claim/cut.py" 405]) #[] else
 bif Nat.beq i 155 then Obj.mk (Value.type "function") none (Data.func (FuncData.mk "wrong_afters" "wrong_afters" (L2.defArgs (htop 15)) (FuncBody.stmts (L2.defBody (htop 15))) (L2.defScope (htop 15)) (3) ([]) (Value.none) (Value.none) (Value.none) (Value.str "nonebetter.plans" 366) none (Value.ref 154) (Value.none) (0))) (#[]) else
 Obj.mk (Value.type "tuple") none (Data.seq #[]) #[]
def hob19 (i : Nat) (P : Params) : Obj :=
 bif Nat.beq i 158 then Obj.mk (Value.type "tuple") none (Data.seq #[Value.str "book" 410, Value.str "plan" 411, Value.str "facts" 412, Value.str "wrong" 413, Value.str "taken" 414]) #[] else
 bif Nat.beq i 159 then Obj.mk (Value.type "tuple") none (Data.seq #[]) #[] else
 bif Nat.beq i 161 then Obj.mk (Value.type "code") none (Data.fields #[Value.str "broken" 407, Value.str "broken" 408, Value.str "/claim/cut.py" 409, Value.int 88 0, Value.int 2 0, Value.int 0 0, Value.int 0 0, Value.int 3 0, Value.ref 156, Value.bool Bool.true, Value.int 181 0, Value.ref 157, Value.none, Value.ref 158, Value.ref 159, Value.ref 160, Value.int 415 0, Value.int 88 0, Value.str "/claim/cut.py" 416]) #[] else
 bif Nat.beq i 162 then Obj.mk (Value.type "function") none (Data.func (FuncData.mk "broken" "broken" (L2.defArgs (htop 16)) (FuncBody.stmts (L2.defBody (htop 16))) (L2.defScope (htop 16)) (3) ([]) (Value.none) (Value.none) (Value.none) (Value.str "nonebetter.plans" 366) none (Value.ref 161) (Value.none) (0))) (#[]) else
 Obj.mk (Value.type "tuple") none (Data.seq #[]) #[]
def hob20 (i : Nat) (P : Params) : Obj :=
 bif Nat.beq i 172 then Obj.mk (Value.type "tuple") none (Data.seq #[Value.str "_law_found" 431]) #[] else
 bif Nat.beq i 173 then Obj.mk (Value.type "tuple") none (Data.seq #[]) #[] else
 bif Nat.beq i 175 then Obj.mk (Value.type "code") none (Data.fields #[Value.str "_law_whole" 428, Value.str "_law_whole" 429, Value.str "/claim/cut.py" 430, Value.int 100 0, Value.int 1 0, Value.int 0 0, Value.int 0 0, Value.int 3 0, Value.ref 170, Value.bool Bool.true, Value.int 181 0, Value.ref 171, Value.none, Value.ref 172, Value.ref 173, Value.ref 174, Value.int 432 0, Value.int 100 0, Value.str "/claim/cut.py" 433]) #[] else
 bif Nat.beq i 176 then Obj.mk (Value.type "function") none (Data.func (FuncData.mk "_law_whole" "_law_whole" (L2.defArgs (htop 19)) (FuncBody.stmts (L2.defBody (htop 19))) (L2.defScope (htop 19)) (3) ([]) (Value.none) (Value.none) (Value.none) (Value.str "law_nonebetter_k61_whole_broken_plans" 418) none (Value.ref 175) (Value.none) (0))) (#[]) else
 Obj.mk (Value.type "tuple") none (Data.seq #[]) #[]
def hob21 (i : Nat) (P : Params) : Obj :=
 bif Nat.beq i 179 then Obj.mk (Value.type "tuple") none (Data.seq #[Value.str "_law_script" 438, Value.str "_law_k" 439, Value.str "_law_cell" 440, Value.str "_law_j" 441]) #[] else
 bif Nat.beq i 180 then Obj.mk (Value.type "tuple") none (Data.seq #[]) #[] else
 bif Nat.beq i 182 then Obj.mk (Value.type "code") none (Data.fields #[Value.str "_law_block" 435, Value.str "_law_block" 436, Value.str "/claim/cut.py" 437, Value.int 102 0, Value.int 2 0, Value.int 0 0, Value.int 0 0, Value.int 3 0, Value.ref 177, Value.bool Bool.true, Value.int 181 0, Value.ref 178, Value.none, Value.ref 179, Value.ref 180, Value.ref 181, Value.int 442 0, Value.int 102 0, Value.str "/claim/cut.py" 443]) #[] else
 bif Nat.beq i 183 then Obj.mk (Value.type "function") none (Data.func (FuncData.mk "_law_block" "_law_block" (L2.defArgs (htop 20)) (FuncBody.stmts (L2.defBody (htop 20))) (L2.defScope (htop 20)) (3) ([]) (Value.none) (Value.none) (Value.none) (Value.str "law_nonebetter_k61_whole_broken_plans" 418) none (Value.ref 182) (Value.none) (0))) (#[]) else
 Obj.mk (Value.type "tuple") none (Data.seq #[]) #[]
def hob22 (i : Nat) (P : Params) : Obj :=
 bif Nat.beq i 186 then Obj.mk (Value.type "tuple") none (Data.seq #[Value.str "_law_script" 448, Value.str "_law_k" 449, Value.str "_law_cell" 450, Value.str "_law_number" 451]) #[] else
 bif Nat.beq i 187 then Obj.mk (Value.type "tuple") none (Data.seq #[]) #[] else
 bif Nat.beq i 189 then Obj.mk (Value.type "code") none (Data.fields #[Value.str "_law_mixed" 445, Value.str "_law_mixed" 446, Value.str "/claim/cut.py" 447, Value.int 109 0, Value.int 2 0, Value.int 0 0, Value.int 0 0, Value.int 3 0, Value.ref 184, Value.bool Bool.true, Value.int 181 0, Value.ref 185, Value.none, Value.ref 186, Value.ref 187, Value.ref 188, Value.int 452 0, Value.int 109 0, Value.str "/claim/cut.py" 453]) #[] else
 bif Nat.beq i 190 then Obj.mk (Value.type "function") none (Data.func (FuncData.mk "_law_mixed" "_law_mixed" (L2.defArgs (htop 21)) (FuncBody.stmts (L2.defBody (htop 21))) (L2.defScope (htop 21)) (3) ([]) (Value.none) (Value.none) (Value.none) (Value.str "law_nonebetter_k61_whole_broken_plans" 418) none (Value.ref 189) (Value.none) (0))) (#[]) else
 Obj.mk (Value.type "tuple") none (Data.seq #[]) #[]
def hob23 (i : Nat) (P : Params) : Obj :=
 bif Nat.beq i 193 then Obj.mk (Value.type "tuple") none (Data.seq #[Value.str "_law_script" 458, Value.str "_law_k" 459, Value.str "_law_first" 460, Value.str "_law_number" 461, Value.str "_law_found" 462, Value.str "_law_j" 463]) #[] else
 bif Nat.beq i 194 then Obj.mk (Value.type "tuple") none (Data.seq #[]) #[] else
 bif Nat.beq i 196 then Obj.mk (Value.type "code") none (Data.fields #[Value.str "_law_name" 455, Value.str "_law_name" 456, Value.str "/claim/cut.py" 457, Value.int 120 0, Value.int 3 0, Value.int 0 0, Value.int 0 0, Value.int 3 0, Value.ref 191, Value.bool Bool.true, Value.int 181 0, Value.ref 192, Value.none, Value.ref 193, Value.ref 194, Value.ref 195, Value.int 464 0, Value.int 120 0, Value.str "/claim/cut.py" 465]) #[] else
 bif Nat.beq i 197 then Obj.mk (Value.type "function") none (Data.func (FuncData.mk "_law_name" "_law_name" (L2.defArgs (htop 22)) (FuncBody.stmts (L2.defBody (htop 22))) (L2.defScope (htop 22)) (3) ([]) (Value.none) (Value.none) (Value.none) (Value.str "law_nonebetter_k61_whole_broken_plans" 418) none (Value.ref 196) (Value.none) (0))) (#[]) else
 Obj.mk (Value.type "tuple") none (Data.seq #[]) #[]
def hob24 (i : Nat) (P : Params) : Obj :=
 bif Nat.beq i 200 then Obj.mk (Value.type "tuple") none (Data.seq #[Value.str "_law_script" 470, Value.str "_law_days" 471, Value.str "_law_found" 472, Value.str "_law_number" 473, Value.str "_law_k" 474, Value.str "_law_bench" 475, Value.str "_law_more" 476, Value.str "_law_j" 477, Value.str "_law_end" 478, Value.str "_law_most" 479]) #[] else
 bif Nat.beq i 201 then Obj.mk (Value.type "tuple") none (Data.seq #[]) #[] else
 bif Nat.beq i 203 then Obj.mk (Value.type "code") none (Data.fields #[Value.str "_law_things" 467, Value.str "_law_things" 468, Value.str "/claim/cut.py" 469, Value.int 127 0, Value.int 2 0, Value.int 0 0, Value.int 0 0, Value.int 3 0, Value.ref 198, Value.bool Bool.true, Value.int 181 0, Value.ref 199, Value.none, Value.ref 200, Value.ref 201, Value.ref 202, Value.int 480 0, Value.int 127 0, Value.str "/claim/cut.py" 481]) #[] else
 bif Nat.beq i 204 then Obj.mk (Value.type "function") none (Data.func (FuncData.mk "_law_things" "_law_things" (L2.defArgs (htop 23)) (FuncBody.stmts (L2.defBody (htop 23))) (L2.defScope (htop 23)) (3) ([]) (Value.none) (Value.none) (Value.none) (Value.str "law_nonebetter_k61_whole_broken_plans" 418) none (Value.ref 203) (Value.none) (0))) (#[]) else
 Obj.mk (Value.type "tuple") none (Data.seq #[]) #[]
def hob25 (i : Nat) (P : Params) : Obj :=
 bif Nat.beq i 207 then Obj.mk (Value.type "tuple") none (Data.seq #[Value.str "_law_script" 486, Value.str "_law_start" 487, Value.str "_law_days" 488, Value.str "_law_work" 489, Value.str "_law_way_here" 490, Value.str "_law_things_here" 491, Value.str "_law_number" 492, Value.str "_law_length_here" 493, Value.str "_law_found" 494, Value.str "_law_thing" 495, Value.str "_law_many_here" 496]) #[] else
 bif Nat.beq i 208 then Obj.mk (Value.type "tuple") none (Data.seq #[]) #[] else
 bif Nat.beq i 210 then Obj.mk (Value.type "code") none (Data.fields #[Value.str "_law_way" 483, Value.str "_law_way" 484, Value.str "/claim/cut.py" 485, Value.int 142 0, Value.int 6 0, Value.int 0 0, Value.int 0 0, Value.int 3 0, Value.ref 205, Value.bool Bool.true, Value.int 181 0, Value.ref 206, Value.none, Value.ref 207, Value.ref 208, Value.ref 209, Value.int 497 0, Value.int 142 0, Value.str "/claim/cut.py" 498]) #[] else
 bif Nat.beq i 211 then Obj.mk (Value.type "function") none (Data.func (FuncData.mk "_law_way" "_law_way" (L2.defArgs (htop 24)) (FuncBody.stmts (L2.defBody (htop 24))) (L2.defScope (htop 24)) (3) ([]) (Value.none) (Value.none) (Value.none) (Value.str "law_nonebetter_k61_whole_broken_plans" 418) none (Value.ref 210) (Value.none) (0))) (#[]) else
 Obj.mk (Value.type "tuple") none (Data.seq #[]) #[]
def hob26 (i : Nat) (P : Params) : Obj :=
 bif Nat.beq i 214 then Obj.mk (Value.type "tuple") none (Data.seq #[Value.str "_law_script" 503, Value.str "_law_days" 504, Value.str "_law_things_here" 505, Value.str "_law_found" 506, Value.str "_law_names" 507, Value.str "_law_many_here" 508, Value.str "_law_k" 509, Value.str "_law_work" 510, Value.str "_law_number" 511, Value.str "_law_j" 512, Value.str "_law_rows" 513, Value.str "_law_pair" 514]) #[] else
 bif Nat.beq i 215 then Obj.mk (Value.type "tuple") none (Data.seq #[]) #[] else
 bif Nat.beq i 217 then Obj.mk (Value.type "code") none (Data.fields #[Value.str "_law_works" 500, Value.str "_law_works" 501, Value.str "/claim/cut.py" 502, Value.int 156 0, Value.int 3 0, Value.int 0 0, Value.int 0 0, Value.int 3 0, Value.ref 212, Value.bool Bool.true, Value.int 181 0, Value.ref 213, Value.none, Value.ref 214, Value.ref 215, Value.ref 216, Value.int 515 0, Value.int 156 0, Value.str "/claim/cut.py" 516]) #[] else
 bif Nat.beq i 218 then Obj.mk (Value.type "function") none (Data.func (FuncData.mk "_law_works" "_law_works" (L2.defArgs (htop 25)) (FuncBody.stmts (L2.defBody (htop 25))) (L2.defScope (htop 25)) (3) ([]) (Value.none) (Value.none) (Value.none) (Value.str "law_nonebetter_k61_whole_broken_plans" 418) none (Value.ref 217) (Value.none) (0))) (#[]) else
 Obj.mk (Value.type "tuple") none (Data.seq #[]) #[]
def hob27 (i : Nat) (P : Params) : Obj :=
 bif Nat.beq i 221 then Obj.mk (Value.type "tuple") none (Data.seq #[Value.str "_law_rows" 521, Value.str "_law_row" 522, Value.str "_law_number" 523, Value.str "_law_least" 524, Value.str "_law_k" 525, Value.str "_law_at" 526]) #[] else
 bif Nat.beq i 222 then Obj.mk (Value.type "tuple") none (Data.seq #[]) #[] else
 bif Nat.beq i 224 then Obj.mk (Value.type "code") none (Data.fields #[Value.str "_law_put" 518, Value.str "_law_put" 519, Value.str "/claim/cut.py" 520, Value.int 178 0, Value.int 3 0, Value.int 0 0, Value.int 0 0, Value.int 3 0, Value.ref 219, Value.bool Bool.true, Value.int 181 0, Value.ref 220, Value.none, Value.ref 221, Value.ref 222, Value.ref 223, Value.int 527 0, Value.int 178 0, Value.str "/claim/cut.py" 528]) #[] else
 bif Nat.beq i 225 then Obj.mk (Value.type "function") none (Data.func (FuncData.mk "_law_put" "_law_put" (L2.defArgs (htop 26)) (FuncBody.stmts (L2.defBody (htop 26))) (L2.defScope (htop 26)) (3) ([]) (Value.none) (Value.none) (Value.none) (Value.str "law_nonebetter_k61_whole_broken_plans" 418) none (Value.ref 224) (Value.none) (0))) (#[]) else
 Obj.mk (Value.type "tuple") none (Data.seq #[]) #[]
def hob28 (i : Nat) (P : Params) : Obj :=
 bif Nat.beq i 228 then Obj.mk (Value.type "tuple") none (Data.seq #[Value.str "_law_script" 533, Value.str "_law_days" 534, Value.str "_law_things_here" 535, Value.str "_law_rows" 536, Value.str "_law_mixed_here" 537, Value.str "_law_k" 538, Value.str "_law_row" 539]) #[] else
 bif Nat.beq i 229 then Obj.mk (Value.type "tuple") none (Data.seq #[]) #[] else
 bif Nat.beq i 231 then Obj.mk (Value.type "code") none (Data.fields #[Value.str "_law_book" 530, Value.str "_law_book" 531, Value.str "/claim/cut.py" 532, Value.int 187 0, Value.int 1 0, Value.int 0 0, Value.int 0 0, Value.int 3 0, Value.ref 226, Value.bool Bool.true, Value.int 181 0, Value.ref 227, Value.none, Value.ref 228, Value.ref 229, Value.ref 230, Value.int 540 0, Value.int 187 0, Value.str "/claim/cut.py" 541]) #[] else
 bif Nat.beq i 232 then Obj.mk (Value.type "function") none (Data.func (FuncData.mk "_law_book" "_law_book" (L2.defArgs (htop 27)) (FuncBody.stmts (L2.defBody (htop 27))) (L2.defScope (htop 27)) (3) ([]) (Value.none) (Value.none) (Value.none) (Value.str "law_nonebetter_k61_whole_broken_plans" 418) none (Value.ref 231) (Value.none) (0))) (#[]) else
 Obj.mk (Value.type "tuple") none (Data.seq #[]) #[]
def hob29 (i : Nat) (P : Params) : Obj :=
 bif Nat.beq i 236 then Obj.mk (Value.type "code") none (Data.fields #[Value.str "_law_ways" 543, Value.str "_law_ways" 544, Value.str "/claim/cut.py" 545, Value.int 198 0, Value.int 2 0, Value.int 0 0, Value.int 0 0, Value.int 3 0, Value.ref 233, Value.bool Bool.true, Value.int 181 0, Value.ref 234, Value.none, Value.none, Value.none, Value.ref 235, Value.int 546 0, Value.int 198 0, Value.str "/claim/cut.py" 547]) #[] else
 bif Nat.beq i 237 then Obj.mk (Value.type "function") none (Data.func (FuncData.mk "_law_ways" "_law_ways" (L2.defArgs (htop 28)) (FuncBody.stmts (L2.defBody (htop 28))) (L2.defScope (htop 28)) (3) ([]) (Value.none) (Value.none) (Value.none) (Value.str "law_nonebetter_k61_whole_broken_plans" 418) none (Value.ref 236) (Value.none) (0))) (#[]) else
 bif Nat.beq i 238 then Obj.mk (Value.type "tuple") none (Data.seq #[]) #[] else
 bif Nat.beq i 241 then Obj.mk (Value.type "code") none (Data.fields #[Value.str "_law_plan" 549, Value.str "_law_plan" 550, Value.str "/claim/cut.py" 551, Value.int 200 0, Value.int 3 0, Value.int 0 0, Value.int 0 0, Value.int 3 0, Value.ref 238, Value.bool Bool.true, Value.int 181 0, Value.ref 239, Value.none, Value.none, Value.none, Value.ref 240, Value.int 552 0, Value.int 200 0, Value.str "/claim/cut.py" 553]) #[] else
 Obj.mk (Value.type "function") none (Data.func (FuncData.mk "_law_plan" "_law_plan" (L2.defArgs (htop 29)) (FuncBody.stmts (L2.defBody (htop 29))) (L2.defScope (htop 29)) (3) ([]) (Value.none) (Value.none) (Value.none) (Value.str "law_nonebetter_k61_whole_broken_plans" 418) none (Value.ref 241) (Value.none) (0))) (#[])
def hob30 (i : Nat) (P : Params) : Obj :=
 bif Nat.beq i 243 then Obj.mk (Value.type "tuple") none (Data.seq #[]) #[] else
 bif Nat.beq i 246 then Obj.mk (Value.type "code") none (Data.fields #[Value.str "_law_length" 555, Value.str "_law_length" 556, Value.str "/claim/cut.py" 557, Value.int 210 0, Value.int 3 0, Value.int 0 0, Value.int 0 0, Value.int 3 0, Value.ref 243, Value.bool Bool.true, Value.int 181 0, Value.ref 244, Value.none, Value.none, Value.none, Value.ref 245, Value.int 558 0, Value.int 210 0, Value.str "/claim/cut.py" 559]) #[] else
 bif Nat.beq i 247 then Obj.mk (Value.type "function") none (Data.func (FuncData.mk "_law_length" "_law_length" (L2.defArgs (htop 30)) (FuncBody.stmts (L2.defBody (htop 30))) (L2.defScope (htop 30)) (3) ([]) (Value.none) (Value.none) (Value.none) (Value.str "law_nonebetter_k61_whole_broken_plans" 418) none (Value.ref 246) (Value.none) (0))) (#[]) else
 bif Nat.beq i 248 then Obj.mk (Value.type "tuple") none (Data.seq #[]) #[] else
 Obj.mk (Value.type "code") none (Data.fields #[Value.str "_law_many" 561, Value.str "_law_many" 562, Value.str "/claim/cut.py" 563, Value.int 212 0, Value.int 5 0, Value.int 0 0, Value.int 0 0, Value.int 3 0, Value.ref 248, Value.bool Bool.true, Value.int 181 0, Value.ref 249, Value.none, Value.none, Value.none, Value.ref 250, Value.int 564 0, Value.int 212 0, Value.str "/claim/cut.py" 565]) #[]
def hob31 (i : Nat) (P : Params) : Obj :=
 bif Nat.beq i 252 then Obj.mk (Value.type "function") none (Data.func (FuncData.mk "_law_many" "_law_many" (L2.defArgs (htop 31)) (FuncBody.stmts (L2.defBody (htop 31))) (L2.defScope (htop 31)) (3) ([]) (Value.none) (Value.none) (Value.none) (Value.str "law_nonebetter_k61_whole_broken_plans" 418) none (Value.ref 251) (Value.none) (0))) (#[]) else
 bif Nat.beq i 253 then Obj.mk (Value.type "tuple") none (Data.seq #[]) #[] else
 bif Nat.beq i 256 then Obj.mk (Value.type "code") none (Data.fields #[Value.str "_law_room" 567, Value.str "_law_room" 568, Value.str "/claim/cut.py" 569, Value.int 214 0, Value.int 3 0, Value.int 0 0, Value.int 0 0, Value.int 3 0, Value.ref 253, Value.bool Bool.true, Value.int 181 0, Value.ref 254, Value.none, Value.none, Value.none, Value.ref 255, Value.int 570 0, Value.int 214 0, Value.str "/claim/cut.py" 571]) #[] else
 bif Nat.beq i 257 then Obj.mk (Value.type "function") none (Data.func (FuncData.mk "_law_room" "_law_room" (L2.defArgs (htop 32)) (FuncBody.stmts (L2.defBody (htop 32))) (L2.defScope (htop 32)) (3) ([]) (Value.none) (Value.none) (Value.none) (Value.str "law_nonebetter_k61_whole_broken_plans" 418) none (Value.ref 256) (Value.none) (0))) (#[]) else
 Obj.mk (Value.type "tuple") none (Data.seq #[]) #[]
def hob32 (i : Nat) (P : Params) : Obj :=
 bif Nat.beq i 261 then Obj.mk (Value.type "code") none (Data.fields #[Value.str "_law_store" 573, Value.str "_law_store" 574, Value.str "/claim/cut.py" 575, Value.int 227 0, Value.int 3 0, Value.int 0 0, Value.int 0 0, Value.int 3 0, Value.ref 258, Value.bool Bool.true, Value.int 181 0, Value.ref 259, Value.none, Value.none, Value.none, Value.ref 260, Value.int 576 0, Value.int 227 0, Value.str "/claim/cut.py" 577]) #[] else
 bif Nat.beq i 262 then Obj.mk (Value.type "function") none (Data.func (FuncData.mk "_law_store" "_law_store" (L2.defArgs (htop 33)) (FuncBody.stmts (L2.defBody (htop 33))) (L2.defScope (htop 33)) (3) ([]) (Value.none) (Value.none) (Value.none) (Value.str "law_nonebetter_k61_whole_broken_plans" 418) none (Value.ref 261) (Value.none) (0))) (#[]) else
 bif Nat.beq i 263 then Obj.mk (Value.type "tuple") none (Data.seq #[]) #[] else
 bif Nat.beq i 265 then Obj.mk (Value.type "tuple") none (Data.seq #[Value.str "_law_book_here" 582, Value.str "_law_plan_here" 583, Value.str "_law_row" 584, Value.str "_law_day" 585, Value.str "_law_way_here" 586, Value.str "_law_begin" 587]) #[] else
 Obj.mk (Value.type "tuple") none (Data.seq #[]) #[]
def hob33 (i : Nat) (P : Params) : Obj :=
 bif Nat.beq i 268 then Obj.mk (Value.type "code") none (Data.fields #[Value.str "_law_due" 579, Value.str "_law_due" 580, Value.str "/claim/cut.py" 581, Value.int 239 0, Value.int 2 0, Value.int 0 0, Value.int 0 0, Value.int 3 0, Value.ref 263, Value.bool Bool.true, Value.int 181 0, Value.ref 264, Value.none, Value.ref 265, Value.ref 266, Value.ref 267, Value.int 588 0, Value.int 239 0, Value.str "/claim/cut.py" 589]) #[] else
 bif Nat.beq i 269 then Obj.mk (Value.type "function") none (Data.func (FuncData.mk "_law_due" "_law_due" (L2.defArgs (htop 34)) (FuncBody.stmts (L2.defBody (htop 34))) (L2.defScope (htop 34)) (3) ([]) (Value.none) (Value.none) (Value.none) (Value.str "law_nonebetter_k61_whole_broken_plans" 418) none (Value.ref 268) (Value.none) (0))) (#[]) else
 bif Nat.beq i 270 then Obj.mk (Value.type "tuple") none (Data.seq #[]) #[] else
 bif Nat.beq i 272 then Obj.mk (Value.type "tuple") none (Data.seq #[Value.str "_law_found" 594, Value.str "_law_due_here" 595]) #[] else
 Obj.mk (Value.type "tuple") none (Data.seq #[]) #[]
def hob34 (i : Nat) (P : Params) : Obj :=
 bif Nat.beq i 275 then Obj.mk (Value.type "code") none (Data.fields #[Value.str "_law_right" 591, Value.str "_law_right" 592, Value.str "/claim/cut.py" 593, Value.int 259 0, Value.int 2 0, Value.int 0 0, Value.int 0 0, Value.int 3 0, Value.ref 270, Value.bool Bool.true, Value.int 181 0, Value.ref 271, Value.none, Value.ref 272, Value.ref 273, Value.ref 274, Value.int 596 0, Value.int 259 0, Value.str "/claim/cut.py" 597]) #[] else
 bif Nat.beq i 276 then Obj.mk (Value.type "function") none (Data.func (FuncData.mk "_law_right" "_law_right" (L2.defArgs (htop 35)) (FuncBody.stmts (L2.defBody (htop 35))) (L2.defScope (htop 35)) (3) ([]) (Value.none) (Value.none) (Value.none) (Value.str "law_nonebetter_k61_whole_broken_plans" 418) none (Value.ref 275) (Value.none) (0))) (#[]) else
 bif Nat.beq i 277 then Obj.mk (Value.type "tuple") none (Data.seq #[]) #[] else
 bif Nat.beq i 280 then Obj.mk (Value.type "code") none (Data.fields #[Value.str "law" 599, Value.str "law" 600, Value.str "/claim/cut.py" 601, Value.int 265 0, Value.int 1 0, Value.int 0 0, Value.int 0 0, Value.int 3 0, Value.ref 277, Value.bool Bool.true, Value.int 181 0, Value.ref 278, Value.none, Value.none, Value.none, Value.ref 279, Value.int 602 0, Value.int 265 0, Value.str "/claim/cut.py" 603]) #[] else
 Obj.mk (Value.type "function") none (Data.func (FuncData.mk "law" "law" (L2.defArgs (htop 36)) (FuncBody.stmts (L2.defBody (htop 36))) (L2.defScope (htop 36)) (3) ([]) (Value.none) (Value.none) (Value.none) (Value.str "law_nonebetter_k61_whole_broken_plans" 418) none (Value.ref 280) (Value.none) (0))) (#[])
def hob (i : Nat) (P : Params) : Obj := (bif Nat.ble i 140 then (bif Nat.ble i 75 then (bif Nat.ble i 39 then (bif Nat.ble i 25 then (bif Nat.ble i 18 then hob0 i P else hob1 i P) else (bif Nat.ble i 32 then hob2 i P else hob3 i P)) else (bif Nat.ble i 61 then (bif Nat.ble i 54 then hob4 i P else hob5 i P) else (bif Nat.ble i 68 then hob6 i P else hob7 i P))) else (bif Nat.ble i 103 then (bif Nat.ble i 89 then (bif Nat.ble i 82 then hob8 i P else hob9 i P) else (bif Nat.ble i 96 then hob10 i P else hob11 i P)) else (bif Nat.ble i 117 then (bif Nat.ble i 110 then hob12 i P else hob13 i P) else (bif Nat.ble i 124 then hob14 i P else (bif Nat.ble i 132 then hob15 i P else hob16 i P))))) else (bif Nat.ble i 212 then (bif Nat.ble i 177 then (bif Nat.ble i 156 then (bif Nat.ble i 149 then hob17 i P else hob18 i P) else (bif Nat.ble i 170 then hob19 i P else hob20 i P)) else (bif Nat.ble i 191 then (bif Nat.ble i 184 then hob21 i P else hob22 i P) else (bif Nat.ble i 198 then hob23 i P else (bif Nat.ble i 205 then hob24 i P else hob25 i P)))) else (bif Nat.ble i 242 then (bif Nat.ble i 226 then (bif Nat.ble i 219 then hob26 i P else hob27 i P) else (bif Nat.ble i 233 then hob28 i P else hob29 i P)) else (bif Nat.ble i 258 then (bif Nat.ble i 251 then hob30 i P else hob31 i P) else (bif Nat.ble i 266 then hob32 i P else (bif Nat.ble i 273 then hob33 i P else hob34 i P))))))
def heapK : Params → W.Frag := fun P => (nat_lit 2, hob (nat_lit 2) P) :: (nat_lit 3, hob (nat_lit 3) P) :: (nat_lit 15, hob (nat_lit 15) P) :: (nat_lit 17, hob (nat_lit 17) P) :: (nat_lit 18, hob (nat_lit 18) P) :: (nat_lit 20, hob (nat_lit 20) P) :: (nat_lit 21, hob (nat_lit 21) P) :: (nat_lit 22, hob (nat_lit 22) P) :: (nat_lit 24, hob (nat_lit 24) P) :: (nat_lit 25, hob (nat_lit 25) P) :: (nat_lit 27, hob (nat_lit 27) P) :: (nat_lit 28, hob (nat_lit 28) P) :: (nat_lit 29, hob (nat_lit 29) P) :: (nat_lit 31, hob (nat_lit 31) P) :: (nat_lit 32, hob (nat_lit 32) P) :: (nat_lit 34, hob (nat_lit 34) P) :: (nat_lit 35, hob (nat_lit 35) P) :: (nat_lit 36, hob (nat_lit 36) P) :: (nat_lit 37, hob (nat_lit 37) P) :: (nat_lit 39, hob (nat_lit 39) P) :: (nat_lit 40, hob (nat_lit 40) P) :: (nat_lit 42, hob (nat_lit 42) P) :: (nat_lit 43, hob (nat_lit 43) P) :: (nat_lit 51, hob (nat_lit 51) P) :: (nat_lit 54, hob (nat_lit 54) P) :: (nat_lit 55, hob (nat_lit 55) P) :: (nat_lit 56, hob (nat_lit 56) P) :: (nat_lit 58, hob (nat_lit 58) P) :: (nat_lit 59, hob (nat_lit 59) P) :: (nat_lit 61, hob (nat_lit 61) P) :: (nat_lit 62, hob (nat_lit 62) P) :: (nat_lit 63, hob (nat_lit 63) P) :: (nat_lit 65, hob (nat_lit 65) P) :: (nat_lit 66, hob (nat_lit 66) P) :: (nat_lit 68, hob (nat_lit 68) P) :: (nat_lit 69, hob (nat_lit 69) P) :: (nat_lit 70, hob (nat_lit 70) P) :: (nat_lit 72, hob (nat_lit 72) P) :: (nat_lit 73, hob (nat_lit 73) P) :: (nat_lit 75, hob (nat_lit 75) P) :: (nat_lit 76, hob (nat_lit 76) P) :: (nat_lit 77, hob (nat_lit 77) P) :: (nat_lit 79, hob (nat_lit 79) P) :: (nat_lit 80, hob (nat_lit 80) P) :: (nat_lit 82, hob (nat_lit 82) P) :: (nat_lit 83, hob (nat_lit 83) P) :: (nat_lit 84, hob (nat_lit 84) P) :: (nat_lit 86, hob (nat_lit 86) P) :: (nat_lit 87, hob (nat_lit 87) P) :: (nat_lit 89, hob (nat_lit 89) P) :: (nat_lit 90, hob (nat_lit 90) P) :: (nat_lit 91, hob (nat_lit 91) P) :: (nat_lit 93, hob (nat_lit 93) P) :: (nat_lit 94, hob (nat_lit 94) P) :: (nat_lit 96, hob (nat_lit 96) P) :: (nat_lit 97, hob (nat_lit 97) P) :: (nat_lit 98, hob (nat_lit 98) P) :: (nat_lit 100, hob (nat_lit 100) P) :: (nat_lit 101, hob (nat_lit 101) P) :: (nat_lit 103, hob (nat_lit 103) P) :: (nat_lit 104, hob (nat_lit 104) P) :: (nat_lit 105, hob (nat_lit 105) P) :: (nat_lit 107, hob (nat_lit 107) P) :: (nat_lit 108, hob (nat_lit 108) P) :: (nat_lit 110, hob (nat_lit 110) P) :: (nat_lit 111, hob (nat_lit 111) P) :: (nat_lit 112, hob (nat_lit 112) P) :: (nat_lit 115, hob (nat_lit 115) P) :: (nat_lit 116, hob (nat_lit 116) P) :: (nat_lit 117, hob (nat_lit 117) P) :: (nat_lit 118, hob (nat_lit 118) P) :: (nat_lit 119, hob (nat_lit 119) P) :: (nat_lit 120, hob (nat_lit 120) P) :: (nat_lit 121, hob (nat_lit 121) P) :: (nat_lit 124, hob (nat_lit 124) P) :: (nat_lit 127, hob (nat_lit 127) P) :: (nat_lit 128, hob (nat_lit 128) P) :: (nat_lit 129, hob (nat_lit 129) P) :: (nat_lit 131, hob (nat_lit 131) P) :: (nat_lit 132, hob (nat_lit 132) P) :: (nat_lit 134, hob (nat_lit 134) P) :: (nat_lit 135, hob (nat_lit 135) P) :: (nat_lit 136, hob (nat_lit 136) P) :: (nat_lit 139, hob (nat_lit 139) P) :: (nat_lit 140, hob (nat_lit 140) P) :: (nat_lit 141, hob (nat_lit 141) P) :: (nat_lit 144, hob (nat_lit 144) P) :: (nat_lit 145, hob (nat_lit 145) P) :: (nat_lit 146, hob (nat_lit 146) P) :: (nat_lit 149, hob (nat_lit 149) P) :: (nat_lit 150, hob (nat_lit 150) P) :: (nat_lit 151, hob (nat_lit 151) P) :: (nat_lit 154, hob (nat_lit 154) P) :: (nat_lit 155, hob (nat_lit 155) P) :: (nat_lit 156, hob (nat_lit 156) P) :: (nat_lit 158, hob (nat_lit 158) P) :: (nat_lit 159, hob (nat_lit 159) P) :: (nat_lit 161, hob (nat_lit 161) P) :: (nat_lit 162, hob (nat_lit 162) P) :: (nat_lit 170, hob (nat_lit 170) P) :: (nat_lit 172, hob (nat_lit 172) P) :: (nat_lit 173, hob (nat_lit 173) P) :: (nat_lit 175, hob (nat_lit 175) P) :: (nat_lit 176, hob (nat_lit 176) P) :: (nat_lit 177, hob (nat_lit 177) P) :: (nat_lit 179, hob (nat_lit 179) P) :: (nat_lit 180, hob (nat_lit 180) P) :: (nat_lit 182, hob (nat_lit 182) P) :: (nat_lit 183, hob (nat_lit 183) P) :: (nat_lit 184, hob (nat_lit 184) P) :: (nat_lit 186, hob (nat_lit 186) P) :: (nat_lit 187, hob (nat_lit 187) P) :: (nat_lit 189, hob (nat_lit 189) P) :: (nat_lit 190, hob (nat_lit 190) P) :: (nat_lit 191, hob (nat_lit 191) P) :: (nat_lit 193, hob (nat_lit 193) P) :: (nat_lit 194, hob (nat_lit 194) P) :: (nat_lit 196, hob (nat_lit 196) P) :: (nat_lit 197, hob (nat_lit 197) P) :: (nat_lit 198, hob (nat_lit 198) P) :: (nat_lit 200, hob (nat_lit 200) P) :: (nat_lit 201, hob (nat_lit 201) P) :: (nat_lit 203, hob (nat_lit 203) P) :: (nat_lit 204, hob (nat_lit 204) P) :: (nat_lit 205, hob (nat_lit 205) P) :: (nat_lit 207, hob (nat_lit 207) P) :: (nat_lit 208, hob (nat_lit 208) P) :: (nat_lit 210, hob (nat_lit 210) P) :: (nat_lit 211, hob (nat_lit 211) P) :: (nat_lit 212, hob (nat_lit 212) P) :: (nat_lit 214, hob (nat_lit 214) P) :: (nat_lit 215, hob (nat_lit 215) P) :: (nat_lit 217, hob (nat_lit 217) P) :: (nat_lit 218, hob (nat_lit 218) P) :: (nat_lit 219, hob (nat_lit 219) P) :: (nat_lit 221, hob (nat_lit 221) P) :: (nat_lit 222, hob (nat_lit 222) P) :: (nat_lit 224, hob (nat_lit 224) P) :: (nat_lit 225, hob (nat_lit 225) P) :: (nat_lit 226, hob (nat_lit 226) P) :: (nat_lit 228, hob (nat_lit 228) P) :: (nat_lit 229, hob (nat_lit 229) P) :: (nat_lit 231, hob (nat_lit 231) P) :: (nat_lit 232, hob (nat_lit 232) P) :: (nat_lit 233, hob (nat_lit 233) P) :: (nat_lit 236, hob (nat_lit 236) P) :: (nat_lit 237, hob (nat_lit 237) P) :: (nat_lit 238, hob (nat_lit 238) P) :: (nat_lit 241, hob (nat_lit 241) P) :: (nat_lit 242, hob (nat_lit 242) P) :: (nat_lit 243, hob (nat_lit 243) P) :: (nat_lit 246, hob (nat_lit 246) P) :: (nat_lit 247, hob (nat_lit 247) P) :: (nat_lit 248, hob (nat_lit 248) P) :: (nat_lit 251, hob (nat_lit 251) P) :: (nat_lit 252, hob (nat_lit 252) P) :: (nat_lit 253, hob (nat_lit 253) P) :: (nat_lit 256, hob (nat_lit 256) P) :: (nat_lit 257, hob (nat_lit 257) P) :: (nat_lit 258, hob (nat_lit 258) P) :: (nat_lit 261, hob (nat_lit 261) P) :: (nat_lit 262, hob (nat_lit 262) P) :: (nat_lit 263, hob (nat_lit 263) P) :: (nat_lit 265, hob (nat_lit 265) P) :: (nat_lit 266, hob (nat_lit 266) P) :: (nat_lit 268, hob (nat_lit 268) P) :: (nat_lit 269, hob (nat_lit 269) P) :: (nat_lit 270, hob (nat_lit 270) P) :: (nat_lit 272, hob (nat_lit 272) P) :: (nat_lit 273, hob (nat_lit 273) P) :: (nat_lit 275, hob (nat_lit 275) P) :: (nat_lit 276, hob (nat_lit 276) P) :: (nat_lit 277, hob (nat_lit 277) P) :: (nat_lit 280, hob (nat_lit 280) P) :: (nat_lit 281, hob (nat_lit 281) P) :: []
theorem all_ok {P : Program} {w : World} {K : Fg} {mg : Str → Option Value} {base : Heap} (M : Mg mg) {C aN fI fE fY fL fM fU fG fR : Addr} {fdI fdE fdY fdL fdM fdU fdG fdR : FuncData} {fN : Str → Option Value} (T : FcTxt K mg C) (TN : Tab w K mg "NAMES" aN fN) (hN : NamesOk fN) (mkI : Mk K C fI) (FI : Fun K "__init__" "Facts.__init__" sFcInit fI fdI) (bI : Binds K fdI ["self", "book"] []) (FE : Fun K "end_of" "Facts.end_of" sFcEnd fE fdE) (bE : Binds K fdE ["self", "choice"] []) (mE : Meth K C "end_of" fE) (FY : Fun K "is_way" "Facts.is_way" sFcIsWay fY fdY) (bY : Binds K fdY ["self", "work", "way"] []) (mY : Meth K C "is_way" fY) (FL : Fun K "last_begin" "Facts.last_begin" sFcLast fL fdL) (bL : Binds K fdL ["self", "work", "way"] []) (mL : Meth K C "last_begin" fL) (FM : Fun K "many" "Facts.many" sFcMany fM fdM) (bM : Binds K fdM ["self", "word", "choice", "name"] []) (mM : Meth K C "many" fM) (FU : Fun K "used_by" "Facts.used_by" sFcUsed fU fdU) (bU : Binds K fdU ["self", "choice", "bench", "day"] []) (mU : Meth K C "used_by" fU) (FG : Fun K "gain_by" "Facts.gain_by" sFcGain fG fdG) (bG : Binds K fdG ["self", "choice", "store", "day"] []) (mG : Meth K C "gain_by" fG) (FR : Fun K "room_of" "Facts.room_of" sFcRoom fR fdR) (bR : Binds K fdR ["self", "bench", "day"] []) (mR : Meth K C "room_of" fR) (F1 : Fn K mg "_law_block" sBlock) (F2 : Fn K mg "_law_mixed" sMixed) (F3 : Fn K mg "_law_whole" sWhole) (F4 : Fn K mg "_law_name" sName) (F5 : Fn K mg "_law_things" sThings) (F6 : Fn K mg "_law_way" sWay) (F7 : Fn K mg "_law_put" sPut) (F8 : Fn K mg "_law_works" sWorks) (F9 : Fn K mg "_law_book" sBook) (F10 : Fn K mg "_law_ways" sWays) (F11 : Fn K mg "_law_length" sLength) (F12 : Fn K mg "_law_plan" sPlan) (F13 : Fn K mg "_law_many" sMany) (F14 : Fn K mg "_law_room" sRoom) (F15 : Fn K mg "_law_store" sStore) (F16 : Fn K mg "_law_due" sDue) (F17 : Fn K mg "_law_right" sRight) (F18 : Fn K mg "is_whole" sIW) (F19 : Fn K mg "is_pair" sIP) (F20 : Fn K mg "said_by" sSaid) (F21 : Fn K mg "choices_taken" sTaken) (F22 : Fn K mg "is_as_told" sTold) (F23 : Fn K mg "wrong_works" sWW) (F24 : Fn K mg "wrong_rooms" sWR) (F25 : Fn K mg "wrong_stores" sWS) (F26 : Fn K mg "wrong_afters" sWA) (F27 : Fn K mg "broken" sBroken) {f : Addr} {fd : FuncData} (F28 : Fun K "law" "law" sLaw f fd) : FnOk P w K mg base CX0 6 f fd ["_law_script"] (spLaw K) := by
 have h_cl_block := okBlock (P := P) (w := w) (base := base) F1 M
 have h_cl_mixed := okMixed (P := P) (w := w) (base := base) F2 M h_cl_block
 have h_cl_whole := okWhole (P := P) (w := w) (base := base) F3 M
 have h_cl_name := okName (P := P) (w := w) (base := base) F4 M h_cl_mixed
 have h_cl_things := okThings (P := P) (w := w) (base := base) F5 M h_cl_mixed h_cl_name
 have h_cl_way := okWay (P := P) (w := w) (base := base) F6 M h_cl_mixed
 have h_cl_put := okPut (P := P) (w := w) (base := base) F7 M
 have h_cl_works := okWorks (P := P) (w := w) (base := base) F8 M h_cl_mixed h_cl_name h_cl_way
 have h_cl_book := okBook (P := P) (w := w) (base := base) F9 M h_cl_mixed h_cl_things h_cl_works h_cl_put
 have h_cl_ways := okWays (P := P) (w := w) (base := base) F10 M
 have h_cl_length := okLength (P := P) (w := w) (base := base) F11 M
 have h_cl_plan := okPlan (P := P) (w := w) (base := base) F12 M h_cl_mixed h_cl_ways
 have h_cl_many := okMany (P := P) (w := w) (base := base) F13 M
 have h_cl_room := okRoom (P := P) (w := w) (base := base) F14 M h_cl_many h_cl_length
 have h_cl_store := okStore (P := P) (w := w) (base := base) F15 M h_cl_many h_cl_length
 have h_cl_due := okDue (P := P) (w := w) (base := base) F16 M h_cl_room h_cl_store h_cl_length
 have h_cl_right := okRight (P := P) (w := w) (base := base) F17 M h_cl_whole
 have h_c_is_whole := okIW (P := P) (w := w) (base := base) F18 M
 have h_c_is_pair := okIP (P := P) (w := w) (base := base) F19 M
 have h_c_said_by := okSaid (P := P) (w := w) (base := base) F20 M TN hN
 have h_c_choices_taken := okTaken (P := P) (w := w) (base := base) F21 T
 have h_c_is_as_told := okTold (P := P) (w := w) (base := base) F22 M T (okFcY (P := P) (w := w) (base := base) FY T) bY mY (okFcL (P := P) (w := w) (base := base) FL T) bL mL h_c_is_whole h_c_is_pair
 have h_c_wrong_works := okWW (P := P) (w := w) (base := base) F23 M T h_c_is_as_told
 have h_c_wrong_rooms := okWR (P := P) (w := w) (base := base) F24 M T (okFcU (P := P) (w := w) (base := base) FU T (okFcE (P := P) (w := w) (base := base) FE T) bE mE (okFcM (P := P) (w := w) (base := base) FM T) bM mM) bU mU (okFcR (P := P) (w := w) (base := base) FR M T) bR mR
 have h_c_wrong_stores := okWS (P := P) (w := w) (base := base) F25 M T (okFcG (P := P) (w := w) (base := base) FG T (okFcE (P := P) (w := w) (base := base) FE T) bE mE (okFcM (P := P) (w := w) (base := base) FM T) bM mM) bG mG
 have h_c_wrong_afters := okWA (P := P) (w := w) (base := base) F26 M T (okFcE (P := P) (w := w) (base := base) FE T) bE mE
 have h_c_broken := okBroken (P := P) (w := w) (base := base) F27 M T mkI (okFcI FI M T h_c_said_by) bI h_c_wrong_works h_c_choices_taken h_c_wrong_rooms h_c_wrong_stores h_c_wrong_afters
 have h_c_law := okLaw (P := P) (w := w) (base := base) F28 M h_cl_book h_cl_plan h_c_broken h_cl_due h_cl_right
 exact h_c_law
theorem walk {l : PySem.W.OpenLaw} {q : Program} {loose : List Str} {XP : (Str → Option Value) → Heap → Prop} {YP : World → Heap → Prop} {d : DefRec} {K : Params → Fg} (hn : l.most = some 63) (hdf : d.params.defaults = [])
  (hY : ∀ (w : World) (h : Heap), YP w h → (K w.params).In h)
  (F : ∀ (w : World) (mg : Str → Option Value) (fa : Addr) (h : Heap), (K w.params).In h → h.Ns mainGlobals mg → mg d.name = some (.ref fa) →
   ∃ fd : FuncData, (∀ (s : Shared) (u : Value), BindsTo s fd ⟨[u], []⟩ [("_law_script", u)]) ∧ ∀ base : Heap, (K w.params).In base → base.Ns mainGlobals mg → FnOk l.prog w (K w.params) mg base CX0 6 fa fd ["_law_script"] (spLaw (K w.params))) :
  PySem.W.WalkO q loose XP YP l.row.toRowW d [] (fun f vs => PySem.call f vs) :=
 L2.walk_of (n := 63) (k := 6) (x := "_law_script") (CX := fun _ => CX0) (sp := fun w => spLaw (K w.params)) hn (by decide) hdf ⟨rfl, by decide, by decide⟩ hY F (fun _ _ a ns hl hb hS => ⟨a, ns, rfl, hS, hl, fun _ => rfl⟩) fun _ _ _ _ _ z => z
end Nb
def PySem.W.Fast.tw1694902306448346585 : PySem.Program := PySem.Challenge.pw_nonebetter_k61_whole_broken_plans
theorem PySem.W.Fast.te1694902306448346585 : PySem.Challenge.pw_nonebetter_k61_whole_broken_plans = PySem.W.Fast.tw1694902306448346585 := rfl
open PySem PySem.W PyProof.Rows
set_option maxRecDepth 100000 in
set_option maxHeartbeats 0 in
theorem PySem.Challenge.cw_nonebetter_k61_whole_broken_plans_holds : PySem.Challenge.rw_nonebetter_k61_whole_broken_plans.Holds := by
 w_on; refine PySem.W.holds_law (by kernel_rfl) fun said => ?_; o_head (PySem.W.kHook Nb.heapK (nat_lit 2 :: nat_lit 3 :: nat_lit 15 :: nat_lit 17 :: nat_lit 18 :: nat_lit 20 :: nat_lit 21 :: nat_lit 22 :: nat_lit 24 :: nat_lit 25 :: nat_lit 27 :: nat_lit 28 :: nat_lit 29 :: nat_lit 31 :: nat_lit 32 :: nat_lit 34 :: nat_lit 35 :: nat_lit 36 :: nat_lit 37 :: nat_lit 39 :: nat_lit 40 :: nat_lit 42 :: nat_lit 43 :: nat_lit 51 :: nat_lit 54 :: nat_lit 55 :: nat_lit 56 :: nat_lit 58 :: nat_lit 59 :: nat_lit 61 :: nat_lit 62 :: nat_lit 63 :: nat_lit 65 :: nat_lit 66 :: nat_lit 68 :: nat_lit 69 :: nat_lit 70 :: nat_lit 72 :: nat_lit 73 :: nat_lit 75 :: nat_lit 76 :: nat_lit 77 :: nat_lit 79 :: nat_lit 80 :: nat_lit 82 :: nat_lit 83 :: nat_lit 84 :: nat_lit 86 :: nat_lit 87 :: nat_lit 89 :: nat_lit 90 :: nat_lit 91 :: nat_lit 93 :: nat_lit 94 :: nat_lit 96 :: nat_lit 97 :: nat_lit 98 :: nat_lit 100 :: nat_lit 101 :: nat_lit 103 :: nat_lit 104 :: nat_lit 105 :: nat_lit 107 :: nat_lit 108 :: nat_lit 110 :: nat_lit 111 :: nat_lit 112 :: nat_lit 115 :: nat_lit 116 :: nat_lit 117 :: nat_lit 118 :: nat_lit 119 :: nat_lit 120 :: nat_lit 121 :: nat_lit 124 :: nat_lit 127 :: nat_lit 128 :: nat_lit 129 :: nat_lit 131 :: nat_lit 132 :: nat_lit 134 :: nat_lit 135 :: nat_lit 136 :: nat_lit 139 :: nat_lit 140 :: nat_lit 141 :: nat_lit 144 :: nat_lit 145 :: nat_lit 146 :: nat_lit 149 :: nat_lit 150 :: nat_lit 151 :: nat_lit 154 :: nat_lit 155 :: nat_lit 156 :: nat_lit 158 :: nat_lit 159 :: nat_lit 161 :: nat_lit 162 :: nat_lit 170 :: nat_lit 172 :: nat_lit 173 :: nat_lit 175 :: nat_lit 176 :: nat_lit 177 :: nat_lit 179 :: nat_lit 180 :: nat_lit 182 :: nat_lit 183 :: nat_lit 184 :: nat_lit 186 :: nat_lit 187 :: nat_lit 189 :: nat_lit 190 :: nat_lit 191 :: nat_lit 193 :: nat_lit 194 :: nat_lit 196 :: nat_lit 197 :: nat_lit 198 :: nat_lit 200 :: nat_lit 201 :: nat_lit 203 :: nat_lit 204 :: nat_lit 205 :: nat_lit 207 :: nat_lit 208 :: nat_lit 210 :: nat_lit 211 :: nat_lit 212 :: nat_lit 214 :: nat_lit 215 :: nat_lit 217 :: nat_lit 218 :: nat_lit 219 :: nat_lit 221 :: nat_lit 222 :: nat_lit 224 :: nat_lit 225 :: nat_lit 226 :: nat_lit 228 :: nat_lit 229 :: nat_lit 231 :: nat_lit 232 :: nat_lit 233 :: nat_lit 236 :: nat_lit 237 :: nat_lit 238 :: nat_lit 241 :: nat_lit 242 :: nat_lit 243 :: nat_lit 246 :: nat_lit 247 :: nat_lit 248 :: nat_lit 251 :: nat_lit 252 :: nat_lit 253 :: nat_lit 256 :: nat_lit 257 :: nat_lit 258 :: nat_lit 261 :: nat_lit 262 :: nat_lit 263 :: nat_lit 265 :: nat_lit 266 :: nat_lit 268 :: nat_lit 269 :: nat_lit 270 :: nat_lit 272 :: nat_lit 273 :: nat_lit 275 :: nat_lit 276 :: nat_lit 277 :: nat_lit 280 :: nat_lit 281 :: []) (fun _ => by kernel_rfl)); (case hw => w_witness2)
 k_fill
 refine Nb.walk (l := PySem.Challenge.rw_nonebetter_k61_whole_broken_plans) rfl rfl (fun w h Y => PySem.W.kIn_of Y) ?F
 case F =>
  intro w mg fa h KX G hmg
  have F1 : L2.Fn (L2.KOf KX) mg "_law_block" Nb.sBlock := by
   dsimp only [L2.KOf]
   refine' L2.fn_mk KX G ?a ?l ?c ?k
   (case a => k_is); (case l => k_is); (case c => k_is); (case k => k_is)
  have F2 : L2.Fn (L2.KOf KX) mg "_law_mixed" Nb.sMixed := by
   dsimp only [L2.KOf]
   refine' L2.fn_mk KX G ?a ?l ?c ?k
   (case a => k_is); (case l => k_is); (case c => k_is); (case k => k_is)
  have F3 : L2.Fn (L2.KOf KX) mg "_law_whole" Nb.sWhole := by
   dsimp only [L2.KOf]
   refine' L2.fn_mk KX G ?a ?l ?c ?k
   (case a => k_is); (case l => k_is); (case c => k_is); (case k => k_is)
  have F4 : L2.Fn (L2.KOf KX) mg "_law_name" Nb.sName := by
   dsimp only [L2.KOf]
   refine' L2.fn_mk KX G ?a ?l ?c ?k
   (case a => k_is); (case l => k_is); (case c => k_is); (case k => k_is)
  have F5 : L2.Fn (L2.KOf KX) mg "_law_things" Nb.sThings := by
   dsimp only [L2.KOf]
   refine' L2.fn_mk KX G ?a ?l ?c ?k
   (case a => k_is); (case l => k_is); (case c => k_is); (case k => k_is)
  have F6 : L2.Fn (L2.KOf KX) mg "_law_way" Nb.sWay := by
   dsimp only [L2.KOf]
   refine' L2.fn_mk KX G ?a ?l ?c ?k
   (case a => k_is); (case l => k_is); (case c => k_is); (case k => k_is)
  have F7 : L2.Fn (L2.KOf KX) mg "_law_put" Nb.sPut := by
   dsimp only [L2.KOf]
   refine' L2.fn_mk KX G ?a ?l ?c ?k
   (case a => k_is); (case l => k_is); (case c => k_is); (case k => k_is)
  have F8 : L2.Fn (L2.KOf KX) mg "_law_works" Nb.sWorks := by
   dsimp only [L2.KOf]
   refine' L2.fn_mk KX G ?a ?l ?c ?k
   (case a => k_is); (case l => k_is); (case c => k_is); (case k => k_is)
  have F9 : L2.Fn (L2.KOf KX) mg "_law_book" Nb.sBook := by
   dsimp only [L2.KOf]
   refine' L2.fn_mk KX G ?a ?l ?c ?k
   (case a => k_is); (case l => k_is); (case c => k_is); (case k => k_is)
  have F10 : L2.Fn (L2.KOf KX) mg "_law_ways" Nb.sWays := by
   dsimp only [L2.KOf]
   refine' L2.fn_mk KX G ?a ?l ?c ?k
   (case a => k_is); (case l => k_is); (case c => k_is); (case k => k_is)
  have F11 : L2.Fn (L2.KOf KX) mg "_law_length" Nb.sLength := by
   dsimp only [L2.KOf]
   refine' L2.fn_mk KX G ?a ?l ?c ?k
   (case a => k_is); (case l => k_is); (case c => k_is); (case k => k_is)
  have F12 : L2.Fn (L2.KOf KX) mg "_law_plan" Nb.sPlan := by
   dsimp only [L2.KOf]
   refine' L2.fn_mk KX G ?a ?l ?c ?k
   (case a => k_is); (case l => k_is); (case c => k_is); (case k => k_is)
  have F13 : L2.Fn (L2.KOf KX) mg "_law_many" Nb.sMany := by
   dsimp only [L2.KOf]
   refine' L2.fn_mk KX G ?a ?l ?c ?k
   (case a => k_is); (case l => k_is); (case c => k_is); (case k => k_is)
  have F14 : L2.Fn (L2.KOf KX) mg "_law_room" Nb.sRoom := by
   dsimp only [L2.KOf]
   refine' L2.fn_mk KX G ?a ?l ?c ?k
   (case a => k_is); (case l => k_is); (case c => k_is); (case k => k_is)
  have F15 : L2.Fn (L2.KOf KX) mg "_law_store" Nb.sStore := by
   dsimp only [L2.KOf]
   refine' L2.fn_mk KX G ?a ?l ?c ?k
   (case a => k_is); (case l => k_is); (case c => k_is); (case k => k_is)
  have F16 : L2.Fn (L2.KOf KX) mg "_law_due" Nb.sDue := by
   dsimp only [L2.KOf]
   refine' L2.fn_mk KX G ?a ?l ?c ?k
   (case a => k_is); (case l => k_is); (case c => k_is); (case k => k_is)
  have F17 : L2.Fn (L2.KOf KX) mg "_law_right" Nb.sRight := by
   dsimp only [L2.KOf]
   refine' L2.fn_mk KX G ?a ?l ?c ?k
   (case a => k_is); (case l => k_is); (case c => k_is); (case k => k_is)
  have F18 : L2.Fn (L2.KOf KX) mg "is_whole" Nb.sIW := by
   dsimp only [L2.KOf]
   refine' L2.fn_mk KX G ?a ?l ?c ?k
   (case a => k_is); (case l => k_is); (case c => k_is); (case k => k_is)
  have F19 : L2.Fn (L2.KOf KX) mg "is_pair" Nb.sIP := by
   dsimp only [L2.KOf]
   refine' L2.fn_mk KX G ?a ?l ?c ?k
   (case a => k_is); (case l => k_is); (case c => k_is); (case k => k_is)
  have F20 : L2.Fn (L2.KOf KX) mg "said_by" Nb.sSaid := by
   dsimp only [L2.KOf]
   refine' L2.fn_mk KX G ?a ?l ?c ?k
   (case a => k_is); (case l => k_is); (case c => k_is); (case k => k_is)
  have F21 : L2.Fn (L2.KOf KX) mg "choices_taken" Nb.sTaken := by
   dsimp only [L2.KOf]
   refine' L2.fn_mk KX G ?a ?l ?c ?k
   (case a => k_is); (case l => k_is); (case c => k_is); (case k => k_is)
  have F22 : L2.Fn (L2.KOf KX) mg "is_as_told" Nb.sTold := by
   dsimp only [L2.KOf]
   refine' L2.fn_mk KX G ?a ?l ?c ?k
   (case a => k_is); (case l => k_is); (case c => k_is); (case k => k_is)
  have F23 : L2.Fn (L2.KOf KX) mg "wrong_works" Nb.sWW := by
   dsimp only [L2.KOf]
   refine' L2.fn_mk KX G ?a ?l ?c ?k
   (case a => k_is); (case l => k_is); (case c => k_is); (case k => k_is)
  have F24 : L2.Fn (L2.KOf KX) mg "wrong_rooms" Nb.sWR := by
   dsimp only [L2.KOf]
   refine' L2.fn_mk KX G ?a ?l ?c ?k
   (case a => k_is); (case l => k_is); (case c => k_is); (case k => k_is)
  have F25 : L2.Fn (L2.KOf KX) mg "wrong_stores" Nb.sWS := by
   dsimp only [L2.KOf]
   refine' L2.fn_mk KX G ?a ?l ?c ?k
   (case a => k_is); (case l => k_is); (case c => k_is); (case k => k_is)
  have F26 : L2.Fn (L2.KOf KX) mg "wrong_afters" Nb.sWA := by
   dsimp only [L2.KOf]
   refine' L2.fn_mk KX G ?a ?l ?c ?k
   (case a => k_is); (case l => k_is); (case c => k_is); (case k => k_is)
  have F27 : L2.Fn (L2.KOf KX) mg "broken" Nb.sBroken := by
   dsimp only [L2.KOf]
   refine' L2.fn_mk KX G ?a ?l ?c ?k
   (case a => k_is); (case l => k_is); (case c => k_is); (case k => k_is)
  have F28 : L2.Fn (L2.KOf KX) mg "law" Nb.sLaw := by
   dsimp only [L2.KOf]
   refine' L2.fn_mk KX G ?a ?l ?c ?k
   (case a => k_is); (case l => k_is); (case c => k_is); (case k => k_is)
  have M : Nb.Mg mg := by
   refine' ⟨PySem.W.mg_none_of KX G ?m_len, PySem.W.mg_none_of KX G ?m_min, PySem.W.mg_none_of KX G ?m_max, PySem.W.mg_none_of KX G ?m_sum, PySem.W.mg_none_of KX G ?m_all, PySem.W.mg_none_of KX G ?m_any, PySem.W.mg_none_of KX G ?m_abs, PySem.W.mg_none_of KX G ?m_isinstance, PySem.W.mg_none_of KX G ?m_sorted, PySem.W.mg_none_of KX G ?m_range_, PySem.W.mg_none_of KX G ?m_zip_, PySem.W.mg_none_of KX G ?m_tuple_, PySem.W.mg_none_of KX G ?m_list_, PySem.W.mg_none_of KX G ?m_int_, PySem.W.mg_none_of KX G ?m_bool_, PySem.W.mg_none_of KX G ?m_dict_, PySem.W.mg_none_of KX G ?m_enumerate_, PySem.W.mg_none_of KX G ?m_reversed_, PySem.W.mg_none_of KX G ?m_ValueError_, PySem.W.mg_none_of KX G ?m_set_, PySem.W.mg_none_of KX G ?m_str_⟩
   (case m_len => k_is)
   (case m_min => k_is)
   (case m_max => k_is)
   (case m_sum => k_is)
   (case m_all => k_is)
   (case m_any => k_is)
   (case m_abs => k_is)
   (case m_isinstance => k_is)
   (case m_sorted => k_is)
   (case m_range_ => k_is)
   (case m_zip_ => k_is)
   (case m_tuple_ => k_is)
   (case m_list_ => k_is)
   (case m_int_ => k_is)
   (case m_bool_ => k_is)
   (case m_dict_ => k_is)
   (case m_enumerate_ => k_is)
   (case m_reversed_ => k_is)
   (case m_ValueError_ => k_is)
   (case m_set_ => k_is)
   (case m_str_ => k_is)
  have CL : ∃ (C fI fE fY fL fM fU fG fR : Addr) (fdI fdE fdY fdL fdM fdU fdG fdR : FuncData), Nb.FcTxt (L2.KOf KX) mg C ∧ L2.Mk (L2.KOf KX) C fI ∧ L2.Fun (L2.KOf KX) "__init__" "Facts.__init__" Nb.sFcInit fI fdI ∧ L2.Fun (L2.KOf KX) "end_of" "Facts.end_of" Nb.sFcEnd fE fdE ∧ L2.Meth (L2.KOf KX) C "end_of" fE ∧ L2.Fun (L2.KOf KX) "is_way" "Facts.is_way" Nb.sFcIsWay fY fdY ∧ L2.Meth (L2.KOf KX) C "is_way" fY ∧ L2.Fun (L2.KOf KX) "last_begin" "Facts.last_begin" Nb.sFcLast fL fdL ∧ L2.Meth (L2.KOf KX) C "last_begin" fL ∧ L2.Fun (L2.KOf KX) "many" "Facts.many" Nb.sFcMany fM fdM ∧ L2.Meth (L2.KOf KX) C "many" fM ∧ L2.Fun (L2.KOf KX) "used_by" "Facts.used_by" Nb.sFcUsed fU fdU ∧ L2.Meth (L2.KOf KX) C "used_by" fU ∧ L2.Fun (L2.KOf KX) "gain_by" "Facts.gain_by" Nb.sFcGain fG fdG ∧ L2.Meth (L2.KOf KX) C "gain_by" fG ∧ L2.Fun (L2.KOf KX) "room_of" "Facts.room_of" Nb.sFcRoom fR fdR ∧ L2.Meth (L2.KOf KX) C "room_of" fR := by
   dsimp only [L2.KOf]
   refine' ⟨_, _, _, _, _, _, _, _, _, _, _, _, _, _, _, _, _, ⟨⟨?pg, ?hd, ?po, ?sa⟩, ?n1, ?n2, ?n3, ?n4, ?n5, ?n6, ?n7, PySem.W.mg_of KX G ?aC⟩, ⟨?mk, ?a1, ?i1, ?kc⟩, L2.fun_mk (st := Nb.sFcInit) ?l1 ?c1 ?k1, L2.fun_mk (st := Nb.sFcEnd) ?l2 ?c2 ?k2, ⟨?a2, ?i2, ?m2⟩, L2.fun_mk (st := Nb.sFcIsWay) ?l3 ?c3 ?k3, ⟨?a3, ?i3, ?m3⟩, L2.fun_mk (st := Nb.sFcLast) ?l4 ?c4 ?k4, ⟨?a4, ?i4, ?m4⟩, L2.fun_mk (st := Nb.sFcMany) ?l5 ?c5 ?k5, ⟨?a5, ?i5, ?m5⟩, L2.fun_mk (st := Nb.sFcUsed) ?l6 ?c6 ?k6, ⟨?a6, ?i6, ?m6⟩, L2.fun_mk (st := Nb.sFcGain) ?l7 ?c7 ?k7, ⟨?a7, ?i7, ?m7⟩, L2.fun_mk (st := Nb.sFcRoom) ?l8 ?c8 ?k8, ⟨?a8, ?i8, ?m8⟩⟩
   (case aC => k_is); (case a1 => k_is); (case i1 => k_is); (case l1 => k_is); (case c1 => k_is); (case k1 => k_is)
   (case a2 => k_is); (case i2 => k_is); (case l2 => k_is); (case c2 => k_is); (case k2 => k_is); (case m2 => k_is)
   (case a3 => k_is); (case i3 => k_is); (case l3 => k_is); (case c3 => k_is); (case k3 => k_is); (case m3 => k_is)
   (case a4 => k_is); (case i4 => k_is); (case l4 => k_is); (case c4 => k_is); (case k4 => k_is); (case m4 => k_is)
   (case a5 => k_is); (case i5 => k_is); (case l5 => k_is); (case c5 => k_is); (case k5 => k_is); (case m5 => k_is)
   (case a6 => k_is); (case i6 => k_is); (case l6 => k_is); (case c6 => k_is); (case k6 => k_is); (case m6 => k_is)
   (case a7 => k_is); (case i7 => k_is); (case l7 => k_is); (case c7 => k_is); (case k7 => k_is); (case m7 => k_is)
   (case a8 => k_is); (case i8 => k_is); (case l8 => k_is); (case c8 => k_is); (case k8 => k_is); (case m8 => k_is)
   (case pg => k_is); (case hd => k_is); (case po => k_is); (case sa => k_is); (case mk => k_is); (case kc => k_is)
   (case n1 => unfold L2.NoAttr; k_is); (case n2 => unfold L2.NoAttr; k_is); (case n3 => unfold L2.NoAttr; k_is); (case n4 => unfold L2.NoAttr; k_is); (case n5 => unfold L2.NoAttr; k_is); (case n6 => unfold L2.NoAttr; k_is); (case n7 => unfold L2.NoAttr; k_is)
  obtain ⟨C, fI, fE, fY, fL, fM, fU, fG, fR, fdI, fdE, fdY, fdL, fdM, fdU, fdG, fdR, T, mkI, FI, FE, mE, FY, mY, FL, mL, FM, mM, FU, mU, FG, mG, FR, mR⟩ := CL
  have TNN : ∃ aN fN, L2.Tab w (L2.KOf KX) mg "NAMES" aN fN ∧ Nb.NamesOk fN := by
   dsimp only [L2.KOf]
   refine' ⟨_, Nb.names_tab (PySem.W.mg_of KX G ?b1) ?l1 ?k1 ?o1 ?e1⟩
   (case b1 => k_is); (case l1 => k_is); (case k1 => k_keys); (case o1 => decide); (case e1 => exact rfl)
  obtain ⟨aN, fN, TN, hN⟩ := TNN
  have bI := FI.binds (ps := ["self", "book"]) fun _ _ _ _ _ _ us hl => match us, hl with | [_, _], _ => rfl
  have bE := FE.binds (ps := ["self", "choice"]) fun _ _ _ _ _ _ us hl => match us, hl with | [_, _], _ => rfl
  have bY := FY.binds (ps := ["self", "work", "way"]) fun _ _ _ _ _ _ us hl => match us, hl with | [_, _, _], _ => rfl
  have bL := FL.binds (ps := ["self", "work", "way"]) fun _ _ _ _ _ _ us hl => match us, hl with | [_, _, _], _ => rfl
  have bM := FM.binds (ps := ["self", "word", "choice", "name"]) fun _ _ _ _ _ _ us hl => match us, hl with | [_, _, _, _], _ => rfl
  have bU := FU.binds (ps := ["self", "choice", "bench", "day"]) fun _ _ _ _ _ _ us hl => match us, hl with | [_, _, _, _], _ => rfl
  have bG := FG.binds (ps := ["self", "choice", "store", "day"]) fun _ _ _ _ _ _ us hl => match us, hl with | [_, _, _, _], _ => rfl
  have bR := FR.binds (ps := ["self", "bench", "day"]) fun _ _ _ _ _ _ us hl => match us, hl with | [_, _, _], _ => rfl
  obtain ⟨f, fd, FF, hm⟩ := F28
  have e0 := hmg.symm.trans hm
  cases e0
  refine' ⟨fd, ?b, fun base kb nb => Nb.all_ok M T TN hN mkI FI bI FE bE mE FY bY mY FL bL mL FM bM mM FU bU mU FG bG mG FR bR mR F1 F2 F3 F4 F5 F6 F7 F8 F9 F10 F11 F12 F13 F14 F15 F16 F17 F18 F19 F20 F21 F22 F23 F24 F25 F26 F27 FF⟩
  obtain ⟨oc, od, kV, doc, pm, an, cdv, ct, osl, rfl, lk, hcd⟩ := FF.ex
  exact fun s u => .of_eq rfl

