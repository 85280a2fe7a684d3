import PyProof.Rows.All
import Wide.All
import OpenK.AllK
import Wide.FinOn
import Lean
import PyProof.EqAt
import PyProof.EqKinds
import PyProof.TupleCall
import KE.KDictOf
import KE.KRevIter
import KE.KEqDict
import KE.KMinKey
import KE.KTryDeep
import KE.KIsAll
import KE.KSortTup
import OpenK.KTop
import KE.KPairComp
import PyProof.NeKinds
import KE.KDictSum
import PyProof.Rows.SortStr
import PyProof.Rows.SortShellK
import KE.KDictList
import PySem.Challenge.RW_nonebetter_k65_whole_plans_are_points
noncomputable section
abbrev Fg := PySem.W.Frag
section
open PySem PySem.Spec PySem.W PyProof.Rows
abbrev jQ := @wpAny_bind
abbrev jX := @List.length_map
abbrev jY := @List.length_append
abbrev jZ := @List.mem_singleton
abbrev jJ := @of_decide_eq_true
abbrev jK := @Nat.le_refl
abbrev jV := @wpAny_pure
abbrev jW := @Heap.get?_push_of_some
abbrev kQ := @decide_eq_true
abbrev kX := @List.mem_of_getElem?
abbrev kY := @List.size_toArray
abbrev kZ := @List.mem_cons_self
abbrev kJ := @List.map_append
abbrev kK := @List.getElem?_eq_some_iff
abbrev kW := @List.take_length
abbrev yQ := @List.map_cons
abbrev yX := @List.mem_cons
abbrev yY := @List.getElem?_map
abbrev yZ := @List.mem_cons_of_mem
abbrev yJ := @List.mem_filterMap
abbrev yK := @Heap.get?_push_size
abbrev yV := @List.length_filterMap_le
abbrev yW := @Bool.false_ne_true
abbrev zQ := @List.mem_append
abbrev zX := @Heap.lt_size
abbrev zY := @Int.emod_lt_of_pos
abbrev zZ := @List.append_nil
abbrev zJ := @Int.emod_nonneg
abbrev zK := @List.length_take
abbrev zV := @Nat.lt_of_le_of_lt
abbrev zW := @List.mem_flatMap
abbrev xQ := @List.mem_map
abbrev xX := @List.sum_cons
abbrev xY := @Nat.ne_of_lt
abbrev xZ := @List.mem_append_right
abbrev xJ := @decide_eq_false
abbrev xK := @Nat.lt_of_lt_of_le
abbrev xV := @List.append_assoc
abbrev xW := @List.length_cons
abbrev wQ := @Nat.add_le_add_left
abbrev wX := @List.filter_append
abbrev wY := @List.mem_append_left
abbrev wZ := @List.mem_nil_iff
abbrev wJ := @Nat.succ_le_succ
abbrev wK := @List.map_congr_left
abbrev wV := @Bool.and_eq_true
abbrev wW := @List.flatMap_cons
abbrev jQa := @List.filterMap_cons
abbrev jQb := @List.mem_filter
abbrev jQc := @List.getElem?_append_left
abbrev jQd := @Nat.le_trans
abbrev jQe := @Int.add_zero
abbrev jQf := @List.flatMap_eq_nil_iff
abbrev jXa := @List.all_eq_true
abbrev jXb := @List.take_of_length_le
abbrev jXc := @List.any_eq_true
abbrev jXd := @List.filter_cons
abbrev jXe := @Nat.zero_le
abbrev jXf := @Int.toNat_natCast
abbrev jYa := @List.mem_iff_getElem?
abbrev jYb := @List.mem_range
abbrev jYc := @List.nodup_cons
abbrev jYd := @Int.zero_add
abbrev jYe := @List.filter_eq_nil_iff
abbrev jYf := @List.length_range
abbrev jZa := @Bool.eq_iff_iff
abbrev jZb := @Array.length_toList
abbrev jZc := @List.lookup_cons
abbrev jZd := @Heap.size_push
abbrev jZe := @List.pairwise_cons
abbrev jZf := @List.length_singleton
abbrev jJa := @List.length_filter_le
abbrev jJb := @List.map_nil
abbrev jJc := @List.pairwise_singleton
abbrev jJd := @Option.toList_none
abbrev jJe := @List.zipWith_cons_cons
abbrev jJf := @List.find?_cons
abbrev jKa := @List.range_succ
abbrev jKb := @List.mem_of_mem_take
abbrev jKc := @List.map_map
abbrev jKd := @List.getElem?_eq_none_iff
abbrev jKe := @List.flatMap_append
abbrev jKf := @Nat.lt_irrefl
abbrev kQa := @Option.isSome_iff_exists
abbrev kQb := @Bool.false_eq_true
abbrev kQc := @List.length_eq_zero_iff
abbrev kQd := @List.filter_cons_of_pos
abbrev kQe := @List.filter_cons_of_neg
abbrev kQf := @List.pairwise_filterMap
abbrev kXa := @Option.map_eq_some_iff
abbrev kXb := @Nat.le_add_right
abbrev kXc := @List.any_cons
abbrev kXd := @List.eq_nil_of_length_eq_zero
abbrev kXe := @Int.le_refl
abbrev kXf := @List.pairwise_append
abbrev kYa := @Nat.min_eq_left
abbrev kYb := @List.foldl_cons
abbrev kYc := @List.sum_append
abbrev kYd := @List.take_sublist
abbrev kYe := @List.filterMap_eq_filter
abbrev kYf := @List.length_drop
abbrev kZa := @List.getElem_mem
abbrev kZb := @List.append_eq_nil_iff
abbrev kZc := @Option.map_some
abbrev kZd := @List.length_nil
abbrev kZe := @Nat.not_lt_zero
abbrev kZf := @List.range_zero
abbrev kJa := @List.not_lt
abbrev kJb := @List.getElem_of_mem
end
abbrev gE := @List.getElem?_eq_getElem
set_option Elab.async false
set_option linter.all false
set_option maxRecDepth 100000
set_option maxHeartbeats 4000000
set_option bootstrap.genMatcherCode false
set_option genSizeOfSpec false
set_option compiler.extract_closed false
namespace L2
theorem aRfl (h:True:=by rfl):True:=h
theorem aDec (h:True:=by decide):True:=h
theorem aFst (h:True:=by first | exact .inl rfl | exact .inr rfl | assumption):True:=h
theorem aIrf (h:True:=by intro _;rfl):True:=h
end L2
namespace L2
open PySem PySem.Spec PyProof.Rows
abbrev Key:=Sum Int Str
def Qen:Key->Value->Bool
 | .inl k,v=>Value.isInt k v
 | .inr x,v=>Value.isStrOf x v
def keyH (w:World):Key->Int
 | .inl k=>hashInt k
 | .inr x=>hashStr w x
theorem Ye:∀ {k:Key} {v:Value},Qen k v=true->(∃ i t,k=Sum.inl i/\v=Value.int i t)\/(∃ x t,k=Sum.inr x/\v=Value.str x t)
 | .inl i,v,h=>by
  obtain ⟨t,e⟩:=Value.isInt_shape (k:=i) (v:=v) h
  exact .inl ⟨i,t,rfl,e⟩
 | .inr x,v,h=>by
  obtain ⟨t,e⟩:=Value.isStrOf_shape (x:=x) (v:=v) h
  exact .inr ⟨x,t,rfl,e⟩
theorem Qit (i:Int) (t:Tok):Qen (.inl i) (.int i t)=true:=by simp [Qen,Value.isInt]
theorem Qiu (x:Str) (t:Tok):Qen (.inr x) (.str x t)=true:=by simp [Qen,Value.isStrOf]
theorem key_ll (a b:Int):decide ((Sum.inl a:Key)=Sum.inl b)=(a == b):=by
 by_cases e:a=b
 ·subst e;simp
 ·have h:¬ (Sum.inl a:Key)=Sum.inl b:=fun q=>e (Sum.inl.inj q)
  rw [xJ h]
  exact (beq_eq_false_iff_ne.mpr e).symm
theorem key_rr (a b:Str):decide ((Sum.inr a:Key)=Sum.inr b)=decide (a=b):=by
 by_cases e:a=b
 ·subst e;simp
 ·have h:¬ (Sum.inr a:Key)=Sum.inr b:=fun q=>e (Sum.inr.inj q)
  rw [xJ h,xJ e]
theorem key_lr (a:Int) (b:Str):decide ((Sum.inl a:Key)=Sum.inr b)=false:=xJ (fun q=>nomatch q)
theorem key_rl (a:Str) (b:Int):decide ((Sum.inr a:Key)=Sum.inl b)=false:=xJ (fun q=>nomatch q)
def Xl (prog:Program) (w:World):PySem.KeyKind prog w Key where
 is:=Qen
 hash:=keyH w
 inj:=fun v a b ha hb=>by
  rcases Ye ha with ⟨i,t,rfl,rfl⟩ | ⟨x,t,rfl,rfl⟩
  ·rcases Ye hb with ⟨j,u,rfl,e⟩ | ⟨y,u,rfl,e⟩
   ·injection e with e1 _;rw [e1]
   ·exact nomatch e
  ·rcases Ye hb with ⟨j,u,rfl,e⟩ | ⟨y,u,rfl,e⟩
   ·exact nomatch e
   ·injection e with e1 _;rw [e1]
 byValue:=fun k v h=>by
  rcases Ye h with ⟨i,t,rfl,rfl⟩ | ⟨x,t,rfl,rfl⟩ <;> rfl
 pyHash:=fun hv h=>by
  rcases Ye hv with ⟨i,t,rfl,rfl⟩ | ⟨x,t,rfl,rfl⟩
  ·exact wpAny_pyHash_int h
  ·exact wpAny_pyHash_str h
 eqBool:=fun hu hv h=>by
  rcases Ye hu with ⟨i,t,rfl,rfl⟩ | ⟨x,t,rfl,rfl⟩
  ·rcases Ye hv with ⟨j,u,rfl,rfl⟩ | ⟨y,u,rfl,rfl⟩
   ·rw [key_ll] at h;exact wpAny_eqBool_int h
   ·rw [key_lr] at h;exact SeqAt.EqAt.int_str i t y u _ _ _ _ h
  ·rcases Ye hv with ⟨j,u,rfl,rfl⟩ | ⟨y,u,rfl,rfl⟩
   ·rw [key_rl] at h;exact SeqAt.EqAt.str_int x t j u _ _ _ _ h
   ·rw [key_rr] at h;exact wpAny_eqBool_str h
 «strs»:=fun k x t v h=>by
  rcases Ye h with ⟨i,u,rfl,e⟩ | ⟨y,u,rfl,e⟩
  ·exact nomatch e
  ·injection e with e1 _
   subst e1
   cases v <;> rfl
theorem Qhr (prog:Program) (w:World) (k:Key) (v:Value):(Xl prog w).is k v=Qen k v:=rfl
theorem Qeo (prog:Program) (w:World) (i:Int) (t:Tok):(Xl prog w).is (.inl i) (.int i t)=true:=Qit i t
theorem Qep (prog:Program) (w:World) (x:Str) (t:Tok):(Xl prog w).is (.inr x) (.str x t)=true:=Qiu x t
inductive V where
 | non | bl (b:Bool) | int (i:Int) | str (x:Str) | byt (b:Array UInt8) | flt (b:UInt64) | ref (a:Addr) | ty (n:String)
 deriving DecidableEq
def RelV:V->Value->Prop
 | .non,u=>u=Value.none
 | .bl b,u=>u=Value.bool b
 | .int i,u=>∃ t,u=Value.int i t
 | .str x,u=>∃ t,u=Value.str x t
 | .byt b,u=>∃ t,u=Value.bytes b t
 | .flt b,u=>∃ t,u=Value.float b t
 | .ref a,u=>u=Value.ref a
 | .ty n,u=>u=Value.type n
abbrev Vals:List V->List Value->Prop:=Paired RelV
theorem Vals.length {xs:List V} {us:List Value} (r:Vals xs us):xs.length=us.length:=Paired.length r
theorem Vals.get:∀ {xs:List V} {us:List Value} {i:Nat} {x:V},Vals xs us->xs[i]?=some x->∃ u,us[i]?=some u/\RelV x u
 | _,_,_,_,.nil,e=>by simp at e
 | _,_,0,_,.cons r _,e=>by simp at e;subst e;exact ⟨_,rfl,r⟩
 | _,_,i + 1,x,.cons _ t,e=>by
  obtain ⟨u,h1,h2⟩:=Vals.get (i:=i) (x:=x) t (by simpa using e)
  exact ⟨u,by simpa using h1,h2⟩
theorem Vals.append {xs ys:List V} {us ws:List Value} (h:Vals xs us) (g:Vals ys ws):Vals (xs ++ ys) (us ++ ws):=by
 induction h with
 | nil=>exact g
 | cons r t ih=>exact .cons r ih
theorem Vals.take:∀ {xs:List V} {us:List Value} (n:Nat),Vals xs us->Vals (xs.take n) (us.take n)
 | _,_,0,_=>.nil
 | _,_,_ + 1,.nil=>.nil
 | _,_,n + 1,.cons r t=>.cons r (Vals.take n t)
theorem Vals.drop:∀ {xs:List V} {us:List Value} (n:Nat),Vals xs us->Vals (xs.drop n) (us.drop n)
 | _,_,0,r=>r
 | _,_,_ + 1,.nil=>.nil
 | _,_,n + 1,.cons _ t=>Vals.drop n t
def RelO:Option V->Option Value->Prop
 | some v,some u=>RelV v u
 | none,none=>True
 | _,_=>False
def KV {κ:Type}:List (κ × V)->List (κ × Value)->Prop:=Paired fun (p:κ × V) (q:κ × Value)=>p.1=q.1/\RelV p.2 q.2
def kV:Key->V
 | .inl i=>.int i
 | .inr x=>.str x
inductive HO where
 | lst (xs:List V)
 | tup (xs:List V)
 | dK (kvs:List (Key × V)) | dT (kvs:List (List Key × V))
 | set (S:Int->Bool) (n:Nat)
 | ins (C dx:Addr) (fs:List (Str × V))
 | own (x:Addr)
 | xd (fs:List (Str × V))
 | met (f x:Addr)
 | rng (lo hi:Int)
 | frz (o:Obj) (u:HO)
 | tbl (ps:Array Value)
 | ext (φ:Heap->Prop)
abbrev Hp:=Addr->Option HO
def upd (H:Hp) (a:Addr) (o:HO):Hp:=fun b=>if b=a then some o else H b
theorem upd_same {H:Hp} {a:Addr} {o:HO}:upd H a o a=some o:=by unfold upd;rw [if_pos rfl]
theorem Qi {H:Hp} {a b:Addr} {o:HO} (h:b ≠ a):upd H a o b=H b:=by unfold upd;rw [if_neg h]
theorem Qeq {H:Hp} {a:Addr} {o u:HO}:upd (upd H a o) a u=upd H a u:=by
 funext b;unfold upd;split <;> rfl
theorem Yp {H:Hp} {a b:Addr} {o u:HO} (h:H a=some o) (h':H b=some u) (d:o ≠ u):a ≠ b:=by
 intro e;subst e;rw [h] at h';exact d (Option.some.inj h')
theorem Qk {H:Hp} {a b:Addr} {o:HO} (h:H a=some o) (h':H b=none):a ≠ b:=by
 intro e;subst e;rw [h] at h';cases h'
section
variable (P:Program) (w:World)
def ObjOk (H:Hp) (h:Heap) (a:Addr):HO->Prop
 | .lst xs=>xs.length<=sizeLine/\∃ (its:List Value) (n:Nat),Vals xs its/\h.get? a=some { cls:=.type "list",data:=.seq its.toArray n }
 | .tup xs=>xs.length<=sizeLine/\∃ its:List Value,Vals xs its/\IsTup h a its.toArray
 | .dK kvs=>kvs.length<=sizeLine/\(a == sysModules)=false/\∃ vs,KV kvs vs/\h.DictOf (Xl P w) a vs
 | .dT kvs=>kvs.length<=sizeLine/\(a == sysModules)=false/\∃ xs:List (List Key × Addr × Value),
   Paired (fun (p:List Key × V) (q:List Key × Addr × Value)=>p.1=q.1/\H q.2.1=some (.tup (p.1.map kV))/\RelV p.2 q.2.2) kvs xs /\
   ∃ o es ep,h.get? a=some o/\o.ExactDict/\o.data=.dict es ep/\es.toList=xs.map (entryOfKey (tupleKind (Xl P w)))/\(xs.map (·.1)).Nodup
 | .set S n=>h.SetOf (intKind P w) a S n
 | .ins C dx fs=>H dx=some (.own a)/\fs.length<=1000/\dx ≠ a/\h.get? a=some (PySem.W.instObj C dx) /\
   ∃ mA,h.Ns1 dx mA/\(∀ f,RelO (fs.lookup f) (mA f))/\PySem.Within mA (fs.map (·.1))
 | .own _=>∃ o,h.get? a=some o
 | .xd fs=>∃ mA,h.Ns1 a mA/\∀ f,RelO (fs.lookup f) (mA f)
 | .rng lo hi=>∃ t u v,h.get? a=some { cls:=.type "range",data:=.fields #[.int lo t,.int hi u,.int 1 v] }
 | .frz o u=>h.get? a=some o/\ObjOk H h a u
 | .tbl ps=>h.get? a=some { cls:=.none,data:=.fields ps }
 | .met f x=>h.get? a=some (PySem.W.methodObj (.ref f) (.ref x))
 | .ext φ=>φ h/\(∃ o,h.get? a=some o)/\∀ h1 h2:Heap,φ h1->(∀ o,h1.get? a=some o->h2.get? a=some o)->φ h2
def HOk (H:Hp) (h:Heap):Prop:=∀ a o,H a=some o->ObjOk P w H h a o
end
section
variable {P:Program} {w:World} {H H':Hp} {h h':Heap} {a:Addr} {o:HO}
theorem ObjOk.lt (x:ObjOk P w H h a o):a < h.objs.size:=by
 cases o with
 | lst xs=>obtain ⟨_,_,_,_,e⟩:=x;exact zX e
 | tup xs=>obtain ⟨_,_,_,p⟩:=x;exact p.lt
 | dK kvs=>obtain ⟨_,_,_,_,o,_,_,e,_⟩:=x;exact zX e
 | dT kvs=>obtain ⟨_,_,_,_,o,_,_,e,_⟩:=x;exact zX e
 | set S n=>obtain ⟨o,_,_,_,e,_⟩:=x;exact zX e
 | ins C dx fs=>obtain ⟨_,_,_,e,_⟩:=x;exact zX e
 | own y=>obtain ⟨_,e⟩:=x;exact zX e
 | xd fs=>obtain ⟨_,⟨_,_,_,e,_⟩,_⟩:=x;exact zX e
 | rng lo hi=>obtain ⟨_,_,_,e⟩:=x;exact zX e
 | frz ob u=>obtain ⟨e,_⟩:=x;exact zX e
 | tbl ps=>exact zX (show h.get? a=some _ from x)
 | met f y=>exact zX (show h.get? a=some _ from x)
 | ext φ=>obtain ⟨_,⟨_,e⟩,_⟩:=x;exact zX e
theorem Paired.mapP {α β:Type} {F G:α->β->Prop} {l₁:List α} {l₂:List β} (h:Paired F l₁ l₂) (f:∀ a b,F a b->G a b):Paired G l₁ l₂:=by
 induction h with
 | nil=>exact .nil
 | cons r t ih=>exact .cons (f _ _ r) ih
theorem ObjOk.stay (x:ObjOk P w H h a o) (k:∀ b u,(b=a\/H b=some (.own a))->h.get? b=some u->h'.get? b=some u)
  (ho:∀ b,H b=some (.own a)->H' b=some (.own a)) (ht:∀ b xs,H b=some (.tup xs)->H' b=some (.tup xs)):ObjOk P w H' h' a o:=by
 induction o with
 | lst xs=>obtain ⟨z,its,n,r,e⟩:=x;exact ⟨z,its,n,r,k _ _ (.inl rfl) e⟩
 | tup xs=>obtain ⟨z,its,r,ob,e,c⟩:=x;exact ⟨z,its,r,ob,k _ _ (.inl rfl) e,c⟩
 | dK kvs=>obtain ⟨z,y,vs,r,ob,es,ep,e,c⟩:=x;exact ⟨z,y,vs,r,ob,es,ep,k _ _ (.inl rfl) e,c⟩
 | dT kvs =>
  obtain ⟨z,y,xs,r,ob,es,ep,e,c⟩:=x
  exact ⟨z,y,xs,Paired.mapP r fun p q z=>⟨z.1,ht _ _ z.2.1,z.2.2⟩,ob,es,ep,k _ _ (.inl rfl) e,c⟩
 | set S n=>obtain ⟨ob,es,ep,t,e,c⟩:=x;exact ⟨ob,es,ep,t,k _ _ (.inl rfl) e,c⟩
 | ins C dx fs =>
  obtain ⟨d,z,ne,e,mA,⟨od,es,ep,e2,c⟩,r⟩:=x
  exact ⟨ho _ d,z,ne,k _ _ (.inl rfl) e,mA,⟨od,es,ep,k _ _ (.inr d) e2,c⟩,r⟩
 | own y=>obtain ⟨ob,e⟩:=x;exact ⟨ob,k _ _ (.inl rfl) e⟩
 | xd fs=>obtain ⟨mA,⟨od,es,ep,e,c⟩,r⟩:=x;exact ⟨mA,⟨od,es,ep,k _ _ (.inl rfl) e,c⟩,r⟩
 | rng lo hi=>obtain ⟨t,u,v,e⟩:=x;exact ⟨t,u,v,k _ _ (.inl rfl) e⟩
 | frz ob u ih=>obtain ⟨e,q⟩:=x;exact ⟨k _ _ (.inl rfl) e,ih q⟩
 | tbl ps =>
  have e:h.get? a=some { cls:=.none,data:=.fields ps }:=x
  show h'.get? a=some { cls:=.none,data:=.fields ps }
  exact k a _ (.inl rfl) e
 | met f y =>
  have e:h.get? a=some (PySem.W.methodObj (.ref f) (.ref y)):=x
  show h'.get? a=some (PySem.W.methodObj (.ref f) (.ref y))
  exact k a _ (.inl rfl) e
 | ext φ=>obtain ⟨p,⟨o,e⟩,st⟩:=x;exact ⟨st _ _ p fun o q=>k _ _ (.inl rfl) q,⟨o,k _ _ (.inl rfl) e⟩,st⟩
theorem HOk.lt (x:HOk P w H h) (e:H a=some o):a < h.objs.size:=(x a o e).lt
theorem HOk.fresh (x:HOk P w H h) (e:h.objs.size<=a):H a=none:=by
 cases q:H a with
 | none=>rfl
 | some u=>exact absurd (xK (x.lt q) e) (jKf _)
theorem HOk.kept (x:HOk P w H h) (k:∀ b u,h.get? b=some u->h'.get? b=some u):HOk P w H h':=fun a o e =>
 (x a o e).stay (fun b u _ q=>k b u q) (fun _ q=>q) fun _ _ q=>q
theorem HOk.laid (x:HOk P w H h) (k:∀ b u,h.get? b=some u->h'.get? b=some u) (hp:h.objs.size<=a) (new:ObjOk P w (upd H a o) h' a o):HOk P w (upd H a o) h':=fun b u e=>by
 have hn:=x.fresh hp
 by_cases hb:b=a
 ·subst hb;rw [upd_same] at e;cases e;exact new
 ·rw [Qi hb] at e
  exact (x b u e).stay (fun c v _ q=>k c v q) (fun c q=>by rw [Qi (Qk q hn)];exact q) fun c xs q=>by rw [Qi (Qk q hn)];exact q
end
def Rd (H:Hp) (a:Addr) (u:HO):Prop:=H a=some u\/∃ o,H a=some (.frz o u)
theorem Rd.ok {P:Program} {w:World} {H:Hp} {h:Heap} {a:Addr} {u:HO} (r:Rd H a u) (x:HOk P w H h):ObjOk P w H h a u:=by
 rcases r with r | ⟨o,r⟩
 ·exact x a u r
 ·obtain ⟨_,q⟩:=x a _ r
  exact q
def Mut:Option HO->Prop
 | some (.lst _)=>True
 | some (.dK _)=>True
 | some (.dT _)=>True
 | some (.set _ _)=>True
 | some (.ins _ _ _)=>True
 | some (.ext _)=>True
 | _=>False
section
variable {P:Program} {w:World} {H:Hp} {h h':Heap} {x e:Addr} {o':HO}
theorem HOk.write (ok:HOk P w H h) (mu:Mut (H x)) (he:e=x\/H e=some (.own x)) (k:∀ b u,b ≠ e->h.get? b=some u->h'.get? b=some u) (heo:∃ u,h'.get? e=some u)
  (new:ObjOk P w (upd H x o') h' x o'):HOk P w (upd H x o') h':=fun b u q=>by
 have nown:∀ c y,H c=some (.own y)->c ≠ x:=fun c y r z=>by subst z;rw [r] at mu;exact mu
 have ntup:∀ c xs,H c=some (.tup xs)->c ≠ x:=fun c xs r z=>by subst z;rw [r] at mu;exact mu
 by_cases hb:b=x
 ·subst hb;rw [upd_same] at q;cases q;exact new
 ·rw [Qi hb] at q
  by_cases hbe:b=e
  ·have q':H b=some (.own x):=by
    rcases he with z | z
    ·exact absurd (hbe.trans z) hb
    ·rw [hbe];exact z
   rw [q] at q';cases q'
   obtain ⟨v,hv⟩:=heo
   exact ⟨v,by rw [hbe];exact hv⟩
  ·refine (ok b u q).stay (fun c v hc r=>k c v ?_ r) (fun c r=>by rw [Qi (nown c b r)];exact r) fun c xs r=>by rw [Qi (ntup c xs r)];exact r
   rcases hc with rfl | hc
   ·exact hbe
   ·rintro rfl
    rcases he with z | z
    ·exact nown c b hc z
    ·rw [hc] at z;cases z;exact hb rfl
end
structure Un (fs ex:List Addr) (H H':Hp) (h h':Heap):Prop where
 keep:∀ b o,h.get? b=some o->H b=none->b ∉ fs->b ∉ ex->h'.get? b=some o
 slot:∀ b o,h.get? b=some o->H b=none->b ∈ fs->b ∉ ex->∃ sl,h'.get? b=some { o with slots:=sl }
 free:∀ b o,h.get? b=some o->H b=none->b ∉ ex->H' b=none
 there:∀ b o,h.get? b=some o->b ∉ ex->∃ o',h'.get? b=some o'
 tups:∀ b xs,H b=some (.tup xs)->H' b=some (.tup xs)
 frzs:∀ b o u,H b=some (.frz o u)->H' b=some (.frz o u)
 tbls:∀ b ps,H b=some (.tbl ps)->∃ more,H' b=some (.tbl (ps ++ more))
section
variable {fs ex:List Addr} {H H1:Hp} {h h1 h':Heap} {a x e:Addr} {o:HO}
theorem Un.any (u:Un fs ex H H1 h h1) {b:Addr} {ob:Obj} (q:h.get? b=some ob) (n:H b=none) (hx:b ∉ ex):∃ sl,h1.get? b=some { ob with slots:=sl }:=by
 by_cases hb:b ∈ fs
 ·exact u.slot b ob q n hb hx
 ·exact ⟨ob.slots,u.keep b ob q n hb hx⟩
theorem Un.kept (k:∀ b u,h.get? b=some u->h'.get? b=some u):Un fs ex H H h h' :=
 ⟨fun b ob q _ _ _=>k b ob q,fun b ob q _ _ _=>⟨ob.slots,k b ob q⟩,fun _ _ _ n _=>n,fun b ob q _=>⟨ob,k b ob q⟩,fun _ _ q=>q,fun _ _ _ q=>q,fun _ ps q=>⟨#[],by rw [q];simp⟩⟩
theorem Un.refl:Un fs ex H H h h:=Un.kept fun _ _ q=>q
theorem Un.laid (k:∀ b u,h.get? b=some u->h'.get? b=some u) (hp:h.objs.size<=a) (hn:H a=none):Un fs ex H (upd H a o) h h' where
 keep:=fun b u q _ _ _=>k b u q
 slot:=fun b u q _ _ _=>⟨u.slots,k b u q⟩
 free:=fun b u q n _=>by rw [Qi (xY (xK (zX q) hp))];exact n
 there:=fun b u q _=>⟨u,k b u q⟩
 tups:=fun b xs q=>by rw [Qi (Qk q hn)];exact q
 frzs:=fun b u xs q=>by rw [Qi (Qk q hn)];exact q
 tbls:=fun b ps q=>⟨#[],by rw [Qi (Qk q hn),q];simp⟩
theorem Un.write (mu:Mut (H x)) (he:e=x\/H e=some (.own x)) (k:∀ b u,b ≠ e->h.get? b=some u->h'.get? b=some u) (heo:∃ u,h'.get? e=some u):Un fs ex H (upd H x o) h h':=by
 have hx:∀ b,H b=none->b ≠ x:=fun b n z=>by subst z;rw [n] at mu;exact mu
 have hb:∀ b,H b=none->b ≠ e:=fun b n z=>by
  subst z
  rcases he with r | r
  ·exact hx b n r
  ·rw [n] at r;cases r
 have hm:∀ b u,H b=some u->¬ Mut (some u)->b ≠ x:=fun b u q nm z=>by subst z;rw [q] at mu;exact nm mu
 refine ⟨fun b u q n _ _=>k b u (hb b n) q,fun b u q n _ _=>⟨u.slots,k b u (hb b n) q⟩,fun b u q n _=>by rw [Qi (hx b n)];exact n,fun b u q _=>?_,
  fun b xs q=>by rw [Qi (hm b _ q fun z=>z)];exact q,fun b u xs q=>by rw [Qi (hm b _ q fun z=>z)];exact q,fun b ps q=>⟨#[],by rw [Qi (hm b _ q fun z=>z),q];simp⟩⟩
 by_cases hbe:b=e
 ·subst hbe;exact heo
 ·exact ⟨u,k b u hbe q⟩
end
def trk (h:Heap) (H:Hp):List Addr:=(List.range h.objs.size).filter fun a=>(H a).isSome
def hidT (h:Heap) (H:Hp):Heap:=PySem.W.hideAll h (trk h H)
theorem Qiv (h:Heap) (H:Hp):(hidT h H).objs.size=h.objs.size:=PySem.W.hideAll_size _ _
theorem Qmd {h:Heap} {H:Hp} {b:Addr} {o:Obj} (e:h.get? b=some o) (n:H b=none):(hidT h H).get? b=some o :=
 PySem.W.hideAll_get _ e fun hm=>by
  have q:(H b).isSome=true:=(jQb.mp hm).2
  rw [n] at q;simp at q
theorem Qpq {h:Heap} {H:Hp} {b:Addr} {o:Obj} (e:(hidT h H).get? b=some o):h.get? b=some o/\H b=none:=by
 have e':h.get? b=some o:=PySem.W.of_hideAll (trk h H) e
 refine ⟨e',?_⟩
 cases q:H b with
 | none=>rfl
 | some x =>
  have hm:b ∈ trk h H:=jQb.mpr ⟨jYb.mpr (zX e'),by simp [q]⟩
  have z:(hidT h H).get? b=none:=PySem.W.hideAll_none (trk h H) hm
  rw [z] at e;cases e
structure Mod (K:Fg) (mg:Str->Option Value) (base:Heap):Prop where
 kin:K.In base
 glob:base.Ns mainGlobals mg
 blt:∃ mb,base.Ns builtinsNs mb/\∀ x:Str,x ≠ "__name__"->mb x=bootBuiltins x
 nolimit:base.NoLimit
set_option genInjectivity false in
set_option genInjectivity false in
structure Cx where
 prog:Program
 w:World
 K:Fg
 mg:Str->Option Value
 base:Heap
 A:Around
 N:List Str
 s₀:Shared
 H₀:Hp
 env:Env
 outer:List Env
 stack:List Env
 ex:List Addr
 fn:Str->Bool
 calm:Bool
 pn:List (Addr × Obj)
 xe:Value->Shared->Prop
def frs (l:List Env):List Addr:=l.filterMap (·.frame)
abbrev Cx.fs (X:Cx):List Addr:=frs X.outer
def Vis (sc:Scope) (x:Str):Prop:=sc.names.lookup x=some .local\/sc.names.lookup x=some .cell\/sc.names.lookup x=some .free
def Loc (sc:Scope) (x:Str):Prop:=sc.names.lookup x=some .local\/sc.names.lookup x=some .cell
def Look (env:Env) (h:Heap) (m:Str->Option Value) (x:Str) (u:Value):Prop :=
 (env.kindOf x=some .local/\m x=some u)\/((env.kindOf x=some .cell\/env.kindOf x=some .free)/\∃ c,env.cells.lookup x=some c/\h.IsCell c (some u))
structure Cx.Ok (X:Cx):Prop where
 mod:Mod X.K X.mg X.base
 kind:X.env.scope.kind=.function
 glob:X.env.globals=mainGlobals
 blt:X.env.builtins=builtinsNs
 above:X.s₀.heap.objs.size<=X.env.locals
 inj:∀ x y c,X.env.cells.lookup x=some c->X.env.cells.lookup y=some c->x=y
 has:∀ x,(X.env.kindOf x=some .cell\/X.env.kindOf x=some .free)->∃ c,X.env.cells.lookup x=some c
 cab:∀ x c,X.fn x=true->X.env.cells.lookup x=some c->X.s₀.heap.objs.size<=c
 hd:X.calm=true->X.A.handled=none
 frames:X.A.frames=some X.stack
 stk:X.stack=X.outer\/(X.stack=X.env :: X.outer/\X.env.frame=some X.env.locals)
 exf:∀ b ∈ X.ex,b ≠ X.env.locals/\∀ x c,X.env.cells.lookup x=some c->c ≠ b
 bs:∀ b o,X.base.get? b=some o->X.s₀.heap.get? b=some o/\X.H₀ b=none
 bsz:X.base.objs.size<=X.s₀.heap.objs.size
 noex:∀ b o,X.base.get? b=some o->b ∉ X.ex
 exfs:∀ b ∈ X.ex,b ∉ X.fs
 funs:X.s₀.heap.FunFrames X.base X.outer
 frf:∀ b ∈ X.fs,X.H₀ b=none
structure Inv (X:Cx) (pins:List (Addr × Obj)) (σ:List (Option V)) (H:Hp) (s:Shared):Prop where
 ok:X.Ok
 os:s.os=X.s₀.os
 bare:AllBare s.gens
 base:Un X.fs X.ex X.H₀ H X.s₀.heap s.heap
 loc:∃ m,s.heap.Ns X.env.locals m/\∀ (i:Nat) (x:Str) (v:V),X.N[i]?=some x->σ[i]?=some (some v)->Vis X.env.scope x->∃ u,RelV v u/\Look X.env s.heap m x u
 cell:∀ x c,X.env.cells.lookup x=some c->∃ v,s.heap.IsCell c v
 free:H X.env.locals=none
 freeC:∀ x c,X.env.cells.lookup x=some c->H c=none
 pin:∀ p ∈ X.pn ++ pins,s.heap.get? p.1=some p.2/\H p.1=none/\p.1 ≠ X.env.locals/\p.1 ∉ X.fs/\∀ v,p.2.data ≠ .cell v
 hok:HOk X.prog X.w H s.heap
 len:σ.length=X.N.length
section
variable {X:Cx} {pins:List (Addr × Obj)} {σ:List (Option V)} {H H':Hp} {s:Shared} {h':Heap}
theorem Cx.Ok.nofr (ok:X.Ok) {b:Addr} {o:Obj} (e:X.base.get? b=some o):b ∉ X.fs:=fun hb=>by
 have:=(ok.funs.mem hb).1
 rw [e] at this;cases this
theorem Inv.bs (I:Inv X pins σ H s):∀ b o,X.base.get? b=some o->s.heap.get? b=some o/\H b=none:=fun b o e =>
 ⟨I.base.keep b o (I.ok.bs b o e).1 (I.ok.bs b o e).2 (I.ok.nofr e) (I.ok.noex b o e),I.base.free b o (I.ok.bs b o e).1 (I.ok.bs b o e).2 (I.ok.noex b o e)⟩
theorem Inv.bk (I:Inv X pins σ H s):∀ b o,X.base.get? b=some o->s.heap.get? b=some o:=fun b o e=>(I.bs b o e).1
theorem Inv.mod (I:Inv X pins σ H s):Mod X.K X.mg X.base:=I.ok.mod
theorem Inv.kIn (I:Inv X pins σ H s):X.K.In s.heap:=I.ok.mod.kin.keeps I.bk
theorem Inv.lt (I:Inv X pins σ H s):X.env.locals < s.heap.objs.size:=by obtain ⟨_,hn,_⟩:=I.loc;exact hn.lt
theorem Inv.sz (I:Inv X pins σ H s):X.s₀.heap.objs.size<=s.heap.objs.size:=jQd I.ok.above (Nat.le_of_lt I.lt)
theorem Inv.nofs (I:Inv X pins σ H s) {a:Addr} (h:s.heap.objs.size<=a):a ∉ X.fs:=fun hb=>by
 obtain ⟨_,o,ho,_⟩:=I.ok.funs.mem hb
 exact absurd (xK (zX ho) (jQd I.sz h)) (jKf _)
theorem Inv.cne (I:Inv X pins σ H s):∀ x c,X.env.cells.lookup x=some c->c ≠ X.env.locals:=fun x c e z=>by
 obtain ⟨v,o,ho,hd⟩:=I.cell x c e
 obtain ⟨m,⟨o',es,ep,ho',hd',_⟩,_⟩:=I.loc
 rw [z,ho'] at ho;cases ho;rw [hd'] at hd;cases hd
theorem Inv.funs (I:Inv X pins σ H s):s.heap.FunFrames X.base X.outer:=by
 have all:∀ (l:List Env),(∀ b ∈ frs l,b ∈ X.fs)->X.s₀.heap.FunFrames X.base l->s.heap.FunFrames X.base l:=by
  intro l
  induction l with
  | nil=>intro _ _;trivial
  | cons env r ih =>
   intro hs hl
   obtain ⟨hk,⟨L,o,hf,hn,ho,hd⟩,hr⟩:=hl
   have hL:L ∈ X.fs:=hs L (by unfold frs;rw [jQa,hf];exact kZ)
   obtain ⟨sl,e⟩:=I.base.slot L o ho (I.ok.frf L hL) hL fun z=>I.ok.exfs L z hL
   exact ⟨hk,⟨L,_,hf,hn,e,hd⟩,ih (fun b hb=>hs b (by unfold frs;rw [jQa,hf];exact yZ _ hb)) hr⟩
 exact all X.outer (fun _ hb=>hb) I.ok.funs
theorem Inv.stack (I:Inv X pins σ H s):s.heap.FunFrames X.base X.stack:=by
 rcases I.ok.stk with e | ⟨e,hf⟩
 ·rw [e];exact I.funs
 ·rw [e]
  obtain ⟨m,hn,_⟩:=I.loc
  refine .cons (by rw [I.ok.kind];decide) hf hn ?_ I.funs
  exact Heap.get?_none_of_le (jQd I.ok.bsz I.ok.above)
theorem Inv.stkSub (I:Inv X pins σ H s):∀ b ∈ frs X.stack,b ∈ X.env.locals :: X.fs:=fun b hb=>by
 rcases I.ok.stk with e | ⟨e,hf⟩
 ·rw [e] at hb;exact yZ _ hb
 ·rw [e] at hb
  unfold frs at hb
  rw [jQa,hf] at hb
  exact hb
theorem Inv.stkFree (I:Inv X pins σ H s):∀ b ∈ frs X.stack,H b=none:=fun b hb=>by
 rcases yX.mp (I.stkSub b hb) with e | hb
 ·rw [e];exact I.free
 ·obtain ⟨_,o,ho,_⟩:=I.ok.funs.mem hb
  exact I.base.free b o ho (I.ok.frf b hb) fun z=>I.ok.exfs b z hb
theorem Inv.step {g':Array GenState} {t':Nat} {d':Drawn} {ch:List Addr} (I:Inv X pins σ H s)
  (hch:∀ b ∈ ch,(b ∈ X.ex\/X.s₀.heap.objs.size<=b)/\b ≠ X.env.locals/\(∀ x c,X.env.cells.lookup x=some c->c ≠ b)/\∀ p ∈ X.pn ++ pins,p.1 ≠ b)
  (keep:∀ b o,b ≠ X.env.locals->b ∉ X.fs->b ∉ ch->s.heap.get? b=some o->H b=none->h'.get? b=some o)
  (slot:∀ b o,b ≠ X.env.locals->b ∈ X.fs->b ∉ ch->s.heap.get? b=some o->H b=none->∃ sl,h'.get? b=some { o with slots:=sl }) (free:∀ b o,b ∉ ch->s.heap.get? b=some o->H b=none->H' b=none)
  (there:∀ b o,b ∉ ch->s.heap.get? b=some o->∃ o',h'.get? b=some o')
  (tups:∀ b xs,H b=some (.tup xs)->H' b=some (.tup xs)) (frzs:∀ b o u,H b=some (.frz o u)->H' b=some (.frz o u)) (tbls:∀ b ps,H b=some (.tbl ps)->∃ more,H' b=some (.tbl (ps ++ more)))
  (ns:∀ m,s.heap.Ns X.env.locals m->h'.Ns X.env.locals m) (hok:HOk X.prog X.w H' h') (hg:AllBare g') :
  Inv X pins σ H' { s with heap:=h',gens:=g',drawn:=d',toks:=t' }:=by
 have neL:∀ b o,X.s₀.heap.get? b=some o->b ≠ X.env.locals:=fun b o e=>xY (xK (zX e) I.ok.above)
 have neC:∀ b o,X.s₀.heap.get? b=some o->b ∉ X.ex->b ∉ ch:=fun b o e hx hb=>by
  rcases (hch b hb).1 with z | z
  ·exact hx z
  ·exact absurd (xK (zX e) z) (jKf _)
 have cellK:∀ x c,X.env.cells.lookup x=some c->∀ v,s.heap.IsCell c v->h'.IsCell c v:=fun x c e v ⟨o,ho,hd⟩=>by
  have nch:c ∉ ch:=fun z=>(hch c z).2.2.1 x c e rfl
  by_cases hc:c ∈ X.fs
  ·obtain ⟨sl,q⟩:=slot c o (I.cne x c e) hc nch ho (I.freeC x c e)
   exact ⟨_,q,hd⟩
  ·exact ⟨o,keep c o (I.cne x c e) hc nch ho (I.freeC x c e),hd⟩
 refine ⟨I.ok,I.os,hg,⟨fun b o e n hb hx=>?_,fun b o e n hb hx=>?_,fun b o e n hx=>?_,fun b o e hx=>?_,fun b xs e=>tups b xs (I.base.tups b xs e),fun b o xs e=>frzs b o xs (I.base.frzs b o xs e),fun b ps e=>?_⟩,?_,fun x c e=>?_,?_,fun x c e=>?_,fun p hp=>?_,hok,I.len⟩
 ·exact keep b o (neL b o e) hb (neC b o e hx) (I.base.keep b o e n hb hx) (I.base.free b o e n hx)
 ·obtain ⟨sl,e1⟩:=I.base.slot b o e n hb hx
  obtain ⟨sl',e2⟩:=slot b _ (neL b o e) hb (neC b o e hx) e1 (I.base.free b o e n hx)
  exact ⟨sl',e2⟩
 ·obtain ⟨o',e1⟩:=I.base.there b o e hx
  exact free b o' (neC b o e hx) e1 (I.base.free b o e n hx)
 ·obtain ⟨o',e1⟩:=I.base.there b o e hx
  exact there b o' (neC b o e hx) e1
 ·obtain ⟨m1,e1⟩:=I.base.tbls b ps e
  obtain ⟨m2,e2⟩:=tbls b _ e1
  exact ⟨m1 ++ m2,by rw [e2,Array.append_assoc]⟩
 ·obtain ⟨m,hn,hl⟩:=I.loc
  refine ⟨m,ns m hn,fun i x v e1 e2 e3=>?_⟩
  obtain ⟨u,r,l⟩:=hl i x v e1 e2 e3
  refine ⟨u,r,?_⟩
  rcases l with l | ⟨k,c,e,z⟩
  ·exact .inl l
  ·exact .inr ⟨k,c,e,cellK x c e _ z⟩
 ·obtain ⟨v,z⟩:=I.cell x c e
  exact ⟨v,cellK x c e v z⟩
 ·obtain ⟨m,⟨o,_,_,ho,_⟩,_⟩:=I.loc
  exact free _ o (fun z=>(hch _ z).2.1 rfl) ho I.free
 ·obtain ⟨v,o,ho,hd⟩:=I.cell x c e
  exact free c o (fun z=>(hch c z).2.2.1 x c e rfl) ho (I.freeC x c e)
 ·obtain ⟨e,n,ne,nf,d⟩:=I.pin p hp
  have nch:p.1 ∉ ch:=fun z=>(hch p.1 z).2.2.2 p hp rfl
  exact ⟨keep p.1 p.2 ne nf nch e n,free p.1 p.2 nch e n,ne,nf,d⟩
theorem Inv.un {t':Nat} (I:Inv X pins σ H s) (u:Un X.fs [] H H' s.heap h') (hok:HOk X.prog X.w H' h'):Inv X pins σ H' { s with heap:=h',toks:=t' }:=by
 obtain ⟨m,⟨o,es,ep,ho,r⟩,_⟩:=id I.loc
 obtain ⟨sl,hL⟩:=u.any ho I.free (by simp)
 exact I.step (g':=s.gens) (d':=s.drawn) (ch:=[]) (fun _ z=>nomatch z) (fun b o _ hb _ e n=>u.keep b o e n hb (by simp)) (fun b o _ hb _ e n=>u.slot b o e n hb (by simp)) (fun b o _ e n=>u.free b o e n (by simp)) (fun b o _ e=>u.there b o e (by simp)) u.tups u.frzs u.tbls (fun m' hm=>by
  obtain ⟨o',es',ep',ho',r'⟩:=hm
  rw [ho] at ho';cases ho'
  exact ⟨_,es',ep',hL,r'⟩) hok I.bare
theorem Inv.call {g':Array GenState} {t':Nat} {d':Drawn} {ch:List Addr} (I:Inv X pins σ H s) (u:Un (frs X.stack) ch H H' s.heap h') (hok:HOk X.prog X.w H' h') (hg:AllBare g')
  (hch:∀ b ∈ ch,(b ∈ X.ex\/X.s₀.heap.objs.size<=b)/\b ≠ X.env.locals/\(∀ x c,X.env.cells.lookup x=some c->c ≠ b)/\∀ p ∈ X.pn ++ pins,p.1 ≠ b) :
  Inv X pins σ H' { s with heap:=h',gens:=g',drawn:=d',toks:=t' }:=by
 obtain ⟨m,⟨o,es,ep,ho,r⟩,_⟩:=id I.loc
 obtain ⟨sl,hL⟩:=u.any ho I.free fun z=>(hch _ z).2.1 rfl
 exact I.step (ch:=ch) hch (fun b o hL hb hc e n=>u.keep b o e n (fun z=>(yX.mp (I.stkSub b z)).elim hL hb) hc) (fun b o _ _ hc e n=>u.any e n hc) (fun b o hc e n=>u.free b o e n hc) (fun b o hc e=>u.there b o e hc) u.tups u.frzs u.tbls (fun m' hm=>by
  obtain ⟨o',es',ep',ho',r'⟩:=hm
  rw [ho] at ho';cases ho'
  exact ⟨_,es',ep',hL,r'⟩) hok hg
theorem Inv.turned {t':Nat} {it:Addr} (I:Inv X pins σ H s) (k:∀ b o,b ≠ it->s.heap.get? b=some o->h'.get? b=some o) (hn:H it=none) (hL:it ≠ X.env.locals)
  (h1:it ∈ X.ex\/X.s₀.heap.objs.size<=it) (h2:∀ x c,X.env.cells.lookup x=some c->c ≠ it) (h3:∀ p ∈ X.pn ++ pins,p.1 ≠ it):Inv X pins σ H { s with heap:=h',toks:=t' }:=by
 have nit:∀ b u,H b=some u->b ≠ it:=fun b u e z=>by rw [z,hn] at e;cases e
 refine I.step (g':=s.gens) (d':=s.drawn) (ch:=[it]) (fun b hb=>?_) (fun b o _ _ hc e _=>k b o (fun z=>hc (by simp [z])) e) (fun b o _ _ hc e _=>⟨o.slots,k b o (fun z=>hc (by simp [z])) e⟩) (fun _ _ _ _ n=>n)
  (fun b o hc e=>⟨o,k b o (fun z=>hc (by simp [z])) e⟩) (fun _ _ e=>e) (fun _ _ _ e=>e) (fun b ps e=>⟨#[],by rw [e];simp⟩) (fun m hm=>?_) (fun b u e=>?_) I.bare
 ·have e:b=it:=by simpa using hb
  subst e
  exact ⟨h1,hL,h2,h3⟩
 ·obtain ⟨o,es,ep,ho,r⟩:=hm
  exact ⟨o,es,ep,k _ o (Ne.symm hL) ho,r⟩
 ·refine (I.hok b u e).stay (fun c v hc q=>k c v ?_ q) (fun _ q=>q) fun _ _ q=>q
  rcases hc with z | z
  ·rw [z];exact nit b u e
  ·exact nit c _ z
theorem Inv.tok (I:Inv X pins σ H s) (t:Nat):Inv X pins σ H { s with toks:=t }:=I.un (h':=s.heap) (t':=t) Un.refl I.hok
theorem Inv.kept {t':Nat} (I:Inv X pins σ H s) (k:∀ b u,s.heap.get? b=some u->h'.get? b=some u):Inv X pins σ H { s with heap:=h',toks:=t' }:=I.un (Un.kept k) (I.hok.kept k)
theorem Inv.laid {a:Addr} {o:HO} {t':Nat} (I:Inv X pins σ H s) (k:∀ b u,s.heap.get? b=some u->h'.get? b=some u) (hp:s.heap.objs.size<=a) (new:ObjOk X.prog X.w (upd H a o) h' a o) :
  Inv X pins σ (upd H a o) { s with heap:=h',toks:=t' }:=I.un (Un.laid k hp (I.hok.fresh hp)) (I.hok.laid k hp new)
theorem Inv.write {x e:Addr} {o:HO} {t':Nat} (I:Inv X pins σ H s) (mu:Mut (H x)) (he:e=x\/H e=some (.own x)) (k:∀ b u,b ≠ e->s.heap.get? b=some u->h'.get? b=some u) (heo:∃ u,h'.get? e=some u)
  (new:ObjOk X.prog X.w (upd H x o) h' x o):Inv X pins σ (upd H x o) { s with heap:=h',toks:=t' }:=I.un (Un.write mu he k heo) (I.hok.write mu he k heo new)
theorem Inv.pins_of {pins':List (Addr × Obj)} (I:Inv X pins σ H s) (h:∀ p ∈ pins',s.heap.get? p.1=some p.2/\H p.1=none/\p.1 ≠ X.env.locals/\p.1 ∉ X.fs/\∀ v,p.2.data ≠ .cell v):Inv X pins' σ H s :=
 ⟨I.ok,I.os,I.bare,I.base,I.loc,I.cell,I.free,I.freeC,fun p hp=>(zQ.mp hp).elim (fun z=>I.pin p (wY _ z)) (h p),I.hok,I.len⟩
theorem Qfv {N:List Str} (hN:N.Nodup) {i j:Nat} {x:Str} (a:N[i]?=some x) (b:N[j]?=some x):i=j:=by
 obtain ⟨h1,e1⟩:=kK.mp a
 obtain ⟨h2,e2⟩:=kK.mp b
 exact (List.getElem_inj hN).mp (e1.trans e2.symm)
theorem Qcr {M:Model} {A:Around} {E:Value->Shared->Prop} {i:Nat} {x:Str} {v:V} {u:Value} {Q:Unit->Shared->Prop} (I:Inv X pins σ H s) (hN:X.N.Nodup) (hi:X.N[i]?=some x) (hx:Loc X.env.scope x) (r:RelV v u)
  (h:∀ s',Inv X pins (σ.set i (some v)) H s'->(∃ a,Heap.SameBut a s.heap s'.heap/\(a=X.env.locals\/X.env.cells.lookup x=some a))->Q () s') (hf:autoParam (X.fn x=true\/X.env.scope.names.lookup x=some .local) L2.aFst._auto_1):wpAny M A (storeName X.env x u) Q E s:=by
 obtain ⟨m,hn,hl⟩:=id I.loc
 have hcls:(X.env.scope.kind == .class || (X.env.scope.kind == .module && X.env.locals != X.env.globals))=false:=by rw [I.ok.kind];rfl
 have hiσ:i < σ.length:=by rw [I.len];exact (kK.mp hi).1
 have cne:=I.cne
 have tracked:∀ {a:Addr} {h':Heap},(∃ o,s.heap.get? a=some o/\H a=none)->Heap.SameBut a s.heap h'->HOk X.prog X.w H h':=fun {a h'} ha hs b ob e=>by
  obtain ⟨_,_,hfree⟩:=ha
  refine (I.hok b ob e).stay (fun c w' hc q=>(hs.2 c ?_).trans q) (fun _ q=>q) fun _ _ q=>q
  rintro rfl
  rcases hc with rfl | hc
  ·rw [hfree] at e;cases e
  ·rw [hfree] at hc;cases hc
 rcases hx with hk | hk
 ·refine wpAny_storeName_local hk hn (fun h' hn' hs=>?_) hcls
  obtain ⟨oL,_,_,hoL,_⟩:=id hn
  refine h _ ⟨I.ok,I.os,I.bare,⟨fun b o e n hb hx=>?_,fun b o e n hb hx=>?_,I.base.free,fun b o e hx=>?_,I.base.tups,I.base.frzs,I.base.tbls⟩,⟨_,hn',fun j y v' e1 e2 e3=>?_⟩,fun y c e=>?_,I.free,I.freeC,fun p hp=>?_,tracked ⟨oL,hoL,I.free⟩ hs,by simpa using I.len⟩ ⟨_,hs,.inl rfl⟩
  ·exact (hs.2 b (xY (xK (zX e) I.ok.above))).trans (I.base.keep b o e n hb hx)
  ·obtain ⟨sl,e1⟩:=I.base.slot b o e n hb hx
   exact ⟨sl,(hs.2 b (xY (xK (zX e) I.ok.above))).trans e1⟩
  ·obtain ⟨o',e1⟩:=I.base.there b o e hx
   exact ⟨o',(hs.2 b (xY (xK (zX e) I.ok.above))).trans e1⟩
  ·by_cases hj:j=i
   ·subst hj
    rw [hi] at e1;cases e1
    rw [List.getElem?_set_self hiσ] at e2
    cases e2
    exact ⟨u,r,.inl ⟨hk,by simp⟩⟩
   ·rw [List.getElem?_set_ne (Ne.symm hj)] at e2
    obtain ⟨u',r',q⟩:=hl j y v' e1 e2 e3
    refine ⟨u',r',?_⟩
    rcases q with ⟨k,e⟩ | ⟨k,c,e,z⟩
    ·refine .inl ⟨k,?_⟩
     have:y ≠ x:=fun e=>hj (Qfv hN e1 (e ▸ hi))
     simp [this,e]
    ·exact .inr ⟨k,c,e,z.sameBut hs (cne y c e)⟩
  ·obtain ⟨w',z⟩:=I.cell y c e
   exact ⟨w',z.sameBut hs (cne y c e)⟩
  ·obtain ⟨e,n,ne,nf,d⟩:=I.pin p hp
   exact ⟨(hs.2 p.1 ne).trans e,n,ne,nf,d⟩
 ·have hfn:X.fn x=true:=by
   rcases hf with z | z
   ·exact z
   ·rw [z] at hk;cases hk
  obtain ⟨c,hc⟩:=I.ok.has x (.inl hk)
  obtain ⟨w',z⟩:=I.cell x c hc
  refine wpAny_storeName_cell I.ok.kind hk hc z (fun h' hc' hs=>?_)
  obtain ⟨oc,hoc,hocd⟩:=id z
  refine h { s with heap:=h' } ⟨I.ok,I.os,I.bare,⟨fun b o e n hb hx=>?_,fun b o e n hb hx=>?_,I.base.free,fun b o e hx=>?_,I.base.tups,I.base.frzs,I.base.tbls⟩,⟨m,hn.sameBut hs (Ne.symm (cne x c hc)),fun j y v' e1 e2 e3=>?_⟩,fun y c' e=>?_,I.free,I.freeC,fun p hp=>?_,tracked ⟨oc,hoc,I.freeC x c hc⟩ hs,by simpa using I.len⟩ ⟨c,hs,.inr hc⟩
  ·exact (hs.2 b (xY (xK (zX e) (I.ok.cab x c hfn hc)))).trans (I.base.keep b o e n hb hx)
  ·obtain ⟨sl,e1⟩:=I.base.slot b o e n hb hx
   exact ⟨sl,(hs.2 b (xY (xK (zX e) (I.ok.cab x c hfn hc)))).trans e1⟩
  ·obtain ⟨o',e1⟩:=I.base.there b o e hx
   exact ⟨o',(hs.2 b (xY (xK (zX e) (I.ok.cab x c hfn hc)))).trans e1⟩
  ·by_cases hj:j=i
   ·subst hj
    rw [hi] at e1;cases e1
    rw [List.getElem?_set_self hiσ] at e2
    cases e2
    exact ⟨u,r,.inr ⟨.inl hk,c,hc,hc'⟩⟩
   ·rw [List.getElem?_set_ne (Ne.symm hj)] at e2
    obtain ⟨u',r',q⟩:=hl j y v' e1 e2 e3
    refine ⟨u',r',?_⟩
    rcases q with q | ⟨k,c',e,z'⟩
    ·exact .inl q
    ·refine .inr ⟨k,c',e,z'.sameBut hs ?_⟩
     rintro rfl
     exact hj (Qfv hN e1 (I.ok.inj _ _ _ e hc ▸ hi))
  ·by_cases hcc:c'=c
   ·subst hcc;exact ⟨_,hc'⟩
   ·obtain ⟨w2,z2⟩:=I.cell y c' e
    exact ⟨w2,z2.sameBut hs hcc⟩
  ·obtain ⟨e,n,ne,nf,d⟩:=I.pin p hp
   refine ⟨(hs.2 p.1 ?_).trans e,n,ne,nf,d⟩
   intro q
   rw [q,hoc] at e
   have q':oc=p.2:=Option.some.inj e
   exact d w' (by rw [← q'];exact hocd)
theorem Qbh {M:Model} {A:Around} {E:Value->Shared->Prop} {i:Nat} {x:Str} {v:V} {u:Value} {Q:Unit->Shared->Prop} (I:Inv X pins σ H s) (hN:X.N.Nodup) (hi:X.N[i]?=some x) (hx:Loc X.env.scope x) (r:RelV v u)
  (h:∀ s',Inv X pins (σ.set i (some v)) H s'->Q () s') (hf:autoParam (X.fn x=true\/X.env.scope.names.lookup x=some .local) L2.aFst._auto_1):wpAny M A (storeName X.env x u) Q E s :=
 Qcr I hN hi hx r (fun s' I' _=>h s' I') hf
theorem Inv.call' {s':Shared} {ch:List Addr} (I:Inv X pins σ H s) (ho:s'.os=s.os) (u:Un (frs X.stack) ch H H' s.heap s'.heap) (hok:HOk X.prog X.w H' s'.heap) (hg:AllBare s'.gens)
  (hch:∀ b ∈ ch,(b ∈ X.ex\/X.s₀.heap.objs.size<=b)/\b ≠ X.env.locals/\(∀ x c,X.env.cells.lookup x=some c->c ≠ b)/\∀ p ∈ X.pn ++ pins,p.1 ≠ b):Inv X pins σ H' s':=by
 obtain ⟨h',g',d',t',o'⟩:=s'
 have e:o'=s.os:=ho
 subst e
 exact I.call (g':=g') (t':=t') (d':=d') u hok hg hch
end
abbrev XK:=Value->Option Addr->Hp->Prop
abbrev St:=List (Option V)
abbrev VK:=V->Hp->Prop
abbrev TE:=St->Hp->VK->Prop
abbrev TT:=St->Hp->(Bool->Hp->Prop)->Prop
abbrev TA:=St->Hp->(List V->Hp->Prop)->Prop
set_option genInjectivity false in
set_option genInjectivity false in
structure Ends where
 nx:St->Hp->Prop
 rt:VK
 bk:St->Hp->Prop:=fun _ _=>False
 ct:St->Hp->Prop:=fun _ _=>False
abbrev TS:=Ends->St->Hp->Prop
def EP (X:Cx) (pins:List (Addr × Obj)) (σ:St) (Q:VK) (u:Value) (s':Shared):Prop:=∃ v H',Inv X pins σ H' s'/\RelV v u/\Q v H'
def TP (X:Cx) (pins:List (Addr × Obj)) (σ:St) (Q:Bool->Hp->Prop) (b:Bool) (s':Shared):Prop:=∃ H',Inv X pins σ H' s'/\Q b H'
def AP (X:Cx) (pins:List (Addr × Obj)) (σ:St) (Q:List V->Hp->Prop) (us:List Value) (s':Shared):Prop:=∃ vs H',Inv X pins σ H' s'/\Vals vs us/\Q vs H'
def SP (X:Cx) (pins:List (Addr × Obj)) (D:Ends) (f:Flow) (s':Shared):Prop :=
 match f with
 | .next=>∃ σ' H',Inv X pins σ' H' s'/\D.nx σ' H'
 | .brk=>∃ σ' H',Inv X pins σ' H' s'/\D.bk σ' H'
 | .cont=>∃ σ' H',Inv X pins σ' H' s'/\D.ct σ' H'
 | .ret u=>∃ v σ' H',Inv X pins σ' H' s'/\RelV v u/\D.rt v H'
def PE (X:Cx) (e:Expr) (t:TE):Prop :=
 ∀ (pins:List (Addr × Obj)) (s:Shared) (σ:St) (H:Hp) (Q:VK),Inv X pins σ H s->t σ H Q->wpAny (model X.prog X.w) X.A (eval e X.env) (EP X pins σ Q) X.xe s
def PT (X:Cx) (e:Expr) (t:TT):Prop :=
 ∀ (pins:List (Addr × Obj)) (s:Shared) (σ:St) (H:Hp) (Q:Bool->Hp->Prop),Inv X pins σ H s->t σ H Q->wpAny (model X.prog X.w) X.A (isTrue e X.env (eval e X.env)) (TP X pins σ Q) X.xe s
def PW (X:Cx) (e:Expr) (t:TT):Prop :=
 ∀ (whole:Sem Value) (pins:List (Addr × Obj)) (s:Shared) (σ:St) (H:Hp) (Q:Bool->Hp->Prop),Inv X pins σ H s->t σ H Q->wpAny (model X.prog X.w) X.A (isTrue e X.env whole) (TP X pins σ Q) X.xe s
theorem PW.pt {X:Cx} {e:Expr} {t:TT} (h:PW X e t):PT X e t:=h _
def PA (X:Cx) (es:List Expr) (t:TA):Prop :=
 ∀ (pos:Pos) (pins:List (Addr × Obj)) (s:Shared) (σ:St) (H:Hp) (Q:List V->Hp->Prop),Inv X pins σ H s->t σ H Q->wpAny (model X.prog X.w) X.A (spliced (backTo pos (starEach es X.env))) (AP X pins σ Q) X.xe s
def PS (X:Cx) (st:Stmt) (t:TS):Prop :=
 ∀ (pins:List (Addr × Obj)) (s:Shared) (σ:St) (H:Hp) (D:Ends),Inv X pins σ H s->t D σ H->wpAny (model X.prog X.w) X.A (exec st X.env) (SP X pins D) X.xe s
def PSs (X:Cx) (st:List Stmt) (t:TS):Prop :=
 ∀ (pins:List (Addr × Obj)) (s:Shared) (σ:St) (H:Hp) (D:Ends),Inv X pins σ H s->t D σ H->wpAny (model X.prog X.w) X.A (execs st X.env) (SP X pins D) X.xe s
theorem thn {α:Type} {t:Sem α} {Q Q':α->Shared->Prop} {M:Model} {A:Around} {E:Value->Shared->Prop} {s:Shared} (h:wpAny M A t Q E s) (hQ:∀ a s,Q a s->Q' a s):wpAny M A t Q' E s:=wpAny_mono h hQ fun _ _ x=>x
section
variable {X:Cx}
def tVar (i:Nat):TE:=fun σ H Q=>∃ v,σ[i]?=some (some v)/\Q v H
def tC (v:V):TE:=fun _ H Q=>Q v H
theorem pe_var {i:Nat} {x:Str} {pos:Pos} (hN:X.N[i]?=some x) (hv:Vis X.env.scope x) (hd:autoParam ((x == ("__debug__":Str))=false) L2.aDec._auto_1) (hcd:autoParam ((x == ("__classdict__":Str))=false) L2.aDec._auto_1):PE X (.Name x pos) (tVar i):=by
 intro pins s σ H Q I h
 obtain ⟨v,e,h⟩:=h
 obtain ⟨m,hn,hl⟩:=I.loc
 obtain ⟨u,r,l⟩:=hl i x v hN e hv
 have fin:EP X pins σ Q u s:=⟨v,H,I,r,h⟩
 rcases l with ⟨hk,hm⟩ | ⟨hk,c,hc,hcell⟩
 ·exact wpAny_Name (wpAny_loadName_local I.ok.kind hk hn hm fin) hd
 ·rcases hk with hk | hk
  ·exact wpAny_Name (wpAny_loadName_cell I.ok.kind hk hc hcell fin) hd
  ·exact wpAny_Name (wpAny_loadName_free I.ok.kind hk hc hcell fin hcd) hd
theorem Qd {i j pos}:PE X (.Constant (.int i) j pos) (tC (.int i)):=fun _ _ _ H _ I h=>wpAny_Constant_int ⟨.int i,H,I.tok _,⟨_,rfl⟩,h⟩
theorem Wc {b j pos}:PE X (.Constant (.bool b) j pos) (tC (.bl b)):=fun _ _ _ H _ I h=>Constant_bool ⟨.bl b,H,I,rfl,h⟩
theorem Qot {j pos}:PE X (.Constant .none j pos) (tC .non):=fun _ _ _ H _ I h=>Constant_none ⟨.non,H,I,rfl,h⟩
theorem Xa {x j pos}:PE X (.Constant (.str x) j pos) (tC (.str x)):=fun _ _ _ H _ I h=>Calls.Constant_str ⟨.str x,H,I.tok _,⟨_,rfl⟩,h⟩
def Gl (X:Cx) (x:Str):Prop:=X.env.kindOf x=some .globalImplicit
theorem Qer {E:Value->Shared->Prop} {pins:List (Addr × Obj)} {s:Shared} {σ:St} {H:Hp} {x:Str} {u:Value} {pos:Pos} {Q:Value->Shared->Prop} (I:Inv X pins σ H s) (hg:Gl X x) (hm:X.mg x=some u) (h:Q u s)
  (hd:autoParam ((x == ("__debug__":Str))=false) L2.aDec._auto_1):wpAny (model X.prog X.w) X.A (eval (.Name x pos) X.env) Q E s :=
 Calls.Name_function_global I.ok.kind hg (Calls.loadGlobal_global (by rw [I.ok.glob];exact I.mod.glob.keeps I.bk) hm h) hd
theorem Wd {E:Value->Shared->Prop} {pins:List (Addr × Obj)} {s:Shared} {σ:St} {H:Hp} {x:Str} {u:Value} {pos:Pos} {Q:Value->Shared->Prop} (I:Inv X pins σ H s) (hg:Gl X x) (hm:X.mg x=none) (hv:bootBuiltins x=some u) (h:Q u s)
  (hn:autoParam (x ≠ "__name__") L2.aDec._auto_1) (hd:autoParam ((x == ("__debug__":Str))=false) L2.aDec._auto_1):wpAny (model X.prog X.w) X.A (eval (.Name x pos) X.env) Q E s:=by
 obtain ⟨mb,h1,h2⟩:=I.mod.blt
 exact Calls.Name_function_global I.ok.kind hg (Calls.loadGlobal_builtin (by rw [I.ok.glob];exact I.mod.glob.keeps I.bk) hm (by rw [I.ok.blt];exact h1.keeps I.bk) ((h2 x hn).trans hv) h) hd
theorem Qpr {x:Str} {v:V} {u:Value} {pos:Pos} (hg:Gl X x) (hm:X.mg x=some u) (r:RelV v u) (hd:autoParam ((x == ("__debug__":Str))=false) L2.aDec._auto_1):PE X (.Name x pos) (tC v) :=
 fun _ _ _ H _ I h=>Qer I hg hm ⟨v,H,I,r,h⟩ hd
theorem Qps {x:Str} {v:V} {u:Value} {pos:Pos} (hg:Gl X x) (hm:X.mg x=none) (hv:bootBuiltins x=some u) (r:RelV v u) (hn:autoParam (x ≠ "__name__") L2.aDec._auto_1) (hd:autoParam ((x == ("__debug__":Str))=false) L2.aDec._auto_1):PE X (.Name x pos) (tC v) :=
 fun _ _ _ H _ I h=>Wd I hg hm hv ⟨v,H,I,r,h⟩ hn hd
variable {a b:Expr} {ta tb:TE} {pos:Pos}
def PC (X:Cx) (op:CmpOp) (a b:Expr) (t:TE):Prop :=
 ∀ (pins:List (Addr × Obj)) (s:Shared) (σ:St) (H:Hp) (Q:VK),Inv X pins σ H s->t σ H Q ->
  wpAny (model X.prog X.w) X.A (eval a X.env) (fun v s₁=>wpAny (model X.prog X.w) X.A (eval b X.env) (fun u s₂=>wpAny (model X.prog X.w) X.A (compareOp op v u) (EP X pins σ Q) X.xe s₂) X.xe s₁) X.xe s
def tB (t:TE):TT:=fun σ H Q=>t σ H fun x H1=>∃ c,x=.bl c/\Q c H1
theorem pe_cmp {op:CmpOp} {t:TE} (h:PC X op a b t) (h1:behindInMarks op b=false:=by first | exact nobehind _ (by decide) (by decide) | rfl):PE X (.Compare a [op] [b] pos) t:=fun pins s σ H Q I hw=>wpAny_Compare1 (h pins s σ H Q I hw) h1
theorem Vp {e:Expr} {t:TE} (h:PE X e t) (he:autoParam (∀ whole,isTrue e X.env whole=(do let v ← whole;standAt e.pos;holding [v] (truthy v))) L2.aIrf._auto_1):PT X e (tB t):=by
 intro pins s σ H Q I hw
 refine isTrue_plain (thn (h pins s σ H _ I hw) fun v s1 hqP=>?_) (he _)
 obtain ⟨x,H1,I1,r1,q1⟩:=hqP
 obtain ⟨d,rfl,q⟩:=q1
 cases r1
 exact wpAny_truthy_bool ⟨H1,I1,q⟩
variable {tA tB':TT} {rest:List Expr}
def tAnd (t u:TT):TT:=fun σ H Q=>t σ H fun c H1=>if c=true then u σ H1 Q else Q false H1
def tOr (t u:TT):TT:=fun σ H Q=>t σ H fun c H1=>if c=true then Q true H1 else u σ H1 Q
def tNot (t:TT):TT:=fun σ H Q=>t σ H fun c H1=>Q (!c) H1
theorem Jf (ha:PT X a tA):PW X (.BoolOp .And [a] pos) tA:=by
 intro wh pins s σ H Q I h
 refine isTrue_and (thn (ha pins s σ H Q I h) fun c s1 e=>?_)
 cases c with
 | true=>exact isTrue_and_nil e
 | false=>exact e
theorem Vq (ha:PT X a tA):PW X (.BoolOp .Or [a] pos) tA:=by
 intro wh pins s σ H Q I h
 refine isTrue_or (thn (ha pins s σ H Q I h) fun c s1 e=>?_)
 cases c with
 | false=>exact isTrue_or_nil e
 | true=>exact e
theorem Jc (ha:PT X a tA) (hb:PW X (.BoolOp .And (b :: rest) pos) tB'):PW X (.BoolOp .And (a :: b :: rest) pos) (tAnd tA tB'):=by
 intro wh pins s σ H Q I h
 refine isTrue_and (thn (ha pins s σ H _ I h) fun c s1 hqP=>?_)
 obtain ⟨H1,I1,q1⟩:=hqP
 cases c with
 | true=>exact hb wh pins s1 σ H1 Q I1 q1
 | false=>exact ⟨H1,I1,q1⟩
theorem We (ha:PT X a tA) (hb:PW X (.BoolOp .Or (b :: rest) pos) tB'):PW X (.BoolOp .Or (a :: b :: rest) pos) (tOr tA tB'):=by
 intro wh pins s σ H Q I h
 refine isTrue_or (thn (ha pins s σ H _ I h) fun c s1 hqP=>?_)
 obtain ⟨H1,I1,q1⟩:=hqP
 cases c with
 | true=>exact ⟨H1,I1,q1⟩
 | false=>exact hb wh pins s1 σ H1 Q I1 q1
theorem Wf (ha:PT X a tA):PT X (.UnaryOp .Not a pos) (tNot tA):=by
 intro pins s σ H Q I h
 exact isTrue_not (ha pins s σ H (fun c H1=>Q (!c) H1) I h)
def tAndV (ta tb:TE):TE:=fun σ H Q=>ta σ H fun x H1=>∃ c,x=.bl c/\if c=true then tb σ H1 Q else Q (.bl false) H1
def tNotV (ta:TE):TE:=fun σ H Q=>ta σ H fun x H1=>∃ c,x=.bl c/\Q (.bl (!c)) H1
theorem Qfw {op} {t:TE} (h:PE X a t):PE X (.BoolOp op [a] pos) t:=fun pins s σ H Q I hw=>BoolOp_one (h pins s σ H Q I hw)
theorem Qfx (ha:PE X a ta) (hb:PE X (.BoolOp .And (b :: rest) pos) tb):PE X (.BoolOp .And (a :: b :: rest) pos) (tAndV ta tb):=by
 intro pins s σ H Q I h
 refine BoolOp_and (thn (ha pins s σ H _ I h) fun v s1 hqP=>?_)
 obtain ⟨x,H1,I1,r1,q1⟩:=hqP
 obtain ⟨c,rfl,q1⟩:=q1
 cases r1
 refine wpAny_truthy_bool ?_
 cases c with
 | true=>exact hb pins s1 σ H1 Q I1 q1
 | false=>exact ⟨.bl false,H1,I1,rfl,q1⟩
theorem pe_not (ha:PE X a ta):PE X (.UnaryOp .Not a pos) (tNotV ta):=by
 intro pins s σ H Q I h
 refine UnaryOp_ (thn (ha pins s σ H _ I h) fun v s1 hqP=>?_)
 obtain ⟨x,H1,I1,r1,q1⟩:=hqP
 obtain ⟨c,rfl,q1⟩:=q1
 cases r1
 exact not_of (wpAny_truthy_bool ⟨.bl (!c),H1,I1,rfl,q1⟩)
def tIf (t:TT) (ta tb:TE):TE:=fun σ H Q=>t σ H fun c H1=>if c=true then ta σ H1 Q else tb σ H1 Q
theorem Kk {c:Expr} (hc:PT X c tA) (ha:PE X a ta) (hb:PE X b tb):PE X (.IfExp c a b pos) (tIf tA ta tb):=by
 intro pins s σ H Q I h
 refine wpAny_IfExp (thn (hc pins s σ H _ I h) fun d s1 hqP=>?_)
 obtain ⟨H1,I1,q1⟩:=hqP
 cases d with
 | true=>exact ha pins s1 σ H1 Q I1 q1
 | false=>exact hb pins s1 σ H1 Q I1 q1
end
def SqL (K:Fg) (H:Hp) (a:Addr) (xs:List V):Prop :=
 Rd H a (.lst xs) \/
  ∃ (o:Obj) (its:Array Value) (n:Nat),K.lookup a=some o/\o.cls=.type "list"/\o.dict=none/\o.data=.seq its n/\its.size<=sizeLine/\Vals xs its.toList
def SqT (K:Fg) (H:Hp) (a:Addr) (xs:List V):Prop :=
 Rd H a (.tup xs) \/
  ∃ (o:Obj) (its:Array Value) (n:Nat),K.lookup a=some o/\o.cls=.type "tuple"/\o.data=.seq its n/\its.size<=sizeLine/\Vals xs its.toList
def absV:Value->Option V
 | .none=>some .non
 | .bool b=>some (.bl b)
 | .int i _=>some (.int i)
 | .str x _=>some (.str x)
 | .bytes b _=>some (.byt b)
 | .float b _=>some (.flt b)
 | .ref a=>some (.ref a)
 | .type n=>some (.ty n)
 | _=>none
theorem RelV.abs {x:V} {u:Value} (r:RelV x u):absV u=some x:=by
 cases x with
 | non=>cases r;rfl
 | bl _=>cases r;rfl
 | int _=>obtain ⟨t,rfl⟩:=r;rfl
 | str _=>obtain ⟨t,rfl⟩:=r;rfl
 | byt _=>obtain ⟨t,rfl⟩:=r;rfl
 | flt _=>obtain ⟨t,rfl⟩:=r;rfl
 | ref _=>cases r;rfl
 | ty _=>cases r;rfl
theorem RelV.inj {x y:V} {u:Value} (r:RelV x u) (q:RelV y u):x=y:=Option.some.inj (r.abs.symm.trans q.abs)
theorem Vals.inj {xs ys:List V} {us:List Value} (h:Vals xs us) (g:Vals ys us):xs=ys:=by
 induction h generalizing ys with
 | nil=>cases g;rfl
 | cons r t ih =>
  cases g with
  | cons r' t'=>rw [r.inj r',ih t']
section
variable {X:Cx} {pins:List (Addr × Obj)} {σ:St} {H:Hp} {s:Shared} {a:Addr} {xs ys:List V}
theorem Inv.list (I:Inv X pins σ H s) (h:SqL X.K H a xs):∃ its:List Value,Vals xs its/\PlainL s.heap a its.toArray/\xs.length<=sizeLine:=by
 rcases h with h | ⟨o,its,n,hk,hc,hd,hs,hz,r⟩
 ·obtain ⟨z,its,n,r,e⟩:=h.ok I.hok
  exact ⟨its,r,⟨_,n,e,rfl,rfl,rfl⟩,z⟩
 ·refine ⟨its.toList,r,⟨o,n,I.kIn a o hk,hc,hd,by simpa using hs⟩,?_⟩
  have e:=r.length
  simp only [jZb] at e
  omega
theorem Inv.tuple (I:Inv X pins σ H s) (h:SqT X.K H a xs):∃ its:List Value,Vals xs its/\IsTup s.heap a its.toArray/\xs.length<=sizeLine:=by
 rcases h with h | ⟨o,its,n,hk,hc,hs,hz,r⟩
 ·obtain ⟨z,its,r,p⟩:=h.ok I.hok
  exact ⟨its,r,p,z⟩
 ·refine ⟨its.toList,r,⟨o,I.kIn a o hk,hc,n,by simpa using hs⟩,?_⟩
  have e:=r.length
  simp only [jZb] at e
  omega
theorem Inv.list_inj (I:Inv X pins σ H s) (h:SqL X.K H a xs) (h':SqL X.K H a ys):xs=ys:=by
 obtain ⟨its,r,⟨o,n,e,_,_,d⟩,_⟩:=I.list h
 obtain ⟨its',r',⟨o',n',e',_,_,d'⟩,_⟩:=I.list h'
 rw [e] at e';cases e'
 rw [d] at d'
 injection d' with d1 _
 have:its=its':=by simpa using congrArg Array.toList d1
 subst this
 exact r.inj r'
theorem Inv.tuple_inj (I:Inv X pins σ H s) (h:SqT X.K H a xs) (h':SqT X.K H a ys):xs=ys:=by
 obtain ⟨its,r,⟨o,e,_,n,d⟩,_⟩:=I.tuple h
 obtain ⟨its',r',⟨o',e',_,n',d'⟩,_⟩:=I.tuple h'
 rw [e] at e';cases e'
 rw [d] at d'
 injection d' with d1 _
 have:its=its':=by simpa using congrArg Array.toList d1
 subst this
 exact r.inj r'
end
abbrev Cx.wish (X:Cx) (E:Value->Shared->Prop):Cx:={ X with xe:=E }
abbrev Cx.nox (X:Cx):Cx:=X.wish fun _ _=>False
theorem Cx.Ok.wish {X:Cx} (ok:X.Ok) (E:Value->Shared->Prop):(X.wish E).Ok :=
 ⟨ok.mod,ok.kind,ok.glob,ok.blt,ok.above,ok.inj,ok.has,ok.cab,ok.hd,ok.frames,ok.stk,ok.exf,ok.bs,ok.bsz,ok.noex,ok.exfs,ok.funs,ok.frf⟩
theorem Cx.Ok.unwish {X:Cx} {E:Value->Shared->Prop} (ok:(X.wish E).Ok):X.Ok :=
 ⟨ok.mod,ok.kind,ok.glob,ok.blt,ok.above,ok.inj,ok.has,ok.cab,ok.hd,ok.frames,ok.stk,ok.exf,ok.bs,ok.bsz,ok.noex,ok.exfs,ok.funs,ok.frf⟩
section
variable {X:Cx} {pins:List (Addr × Obj)} {σ:St} {H:Hp} {s:Shared} {E:Value->Shared->Prop}
theorem Inv.wish (I:Inv X pins σ H s) (E:Value->Shared->Prop):Inv (X.wish E) pins σ H s:=⟨I.ok.wish E,I.os,I.bare,I.base,I.loc,I.cell,I.free,I.freeC,I.pin,I.hok,I.len⟩
theorem Inv.unwish (I:Inv (X.wish E) pins σ H s):Inv X pins σ H s:=⟨I.ok.unwish,I.os,I.bare,I.base,I.loc,I.cell,I.free,I.freeC,I.pin,I.hok,I.len⟩
theorem SP.unwish {D:Ends} {f:Flow} {s':Shared} (h:SP (X.wish E) pins D f s'):SP X pins D f s':=by
 cases f with
 | next=>obtain ⟨σ',H',I,q⟩:=h;exact ⟨σ',H',I.unwish,q⟩
 | brk=>obtain ⟨σ',H',I,q⟩:=h;exact ⟨σ',H',I.unwish,q⟩
 | cont=>obtain ⟨σ',H',I,q⟩:=h;exact ⟨σ',H',I.unwish,q⟩
 | ret u=>obtain ⟨v,σ',H',I,r,q⟩:=h;exact ⟨v,σ',H',I.unwish,r,q⟩
theorem PSs.nox {st:List Stmt} {t:TS} (h:PSs X.nox st t):PSs X st t:=fun pins s σ H D I hw =>
 wpAny_mono (h pins s σ H D (I.wish _) hw) (fun _ _ q=>q.unwish) fun _ _ z=>False.elim z
end
section
variable {X:Cx} {st:Stmt} {rest:List Stmt} {t u:TS} {e:Expr} {te:TE} {pos:Pos}
def tNext:TS:=fun D σ H=>D.nx σ H
def tSeq (t u:TS):TS:=fun D σ H=>t { D with nx:=u D } σ H
theorem Qz:PSs X [] tNext:=fun _ _ σ H _ I h=>wpAny_execs_nil ⟨σ,H,I,h⟩
theorem Qf (h1:PS X st t) (h2:PSs X rest u):PSs X (st :: rest) (tSeq t u):=by
 intro pins s σ H D I h
 refine wpAny_execs_cons (thn (h1 pins s σ H { D with nx:=u D } I h) fun f s1 q=>?_)
 cases f with
 | next =>
  obtain ⟨σ',H',I',q⟩:=q
  exact h2 pins s1 σ' H' D I' q
 | ret v=>exact q
 | brk=>exact q
 | cont=>exact q
theorem Qh (h1:PS X st t):PSs X [st] t:=by
 intro pins s σ H D I h
 refine wpAny_execs_cons (thn (h1 pins s σ H D I h) fun f s1 q=>?_)
 cases f with
 | next=>exact wpAny_execs_nil q
 | ret v=>exact q
 | brk=>exact q
 | cont=>exact q
theorem Inv.quiet {pins:List (Addr × Obj)} {σ:St} {H:Hp} {s:Shared} (I:Inv X pins σ H s):interactive X.env=false:=by simp [interactive,I.ok.kind]
def tDrop (te:TE):TS:=fun D σ H=>te σ H fun _ H1=>D.nx σ H1
theorem Xm (he:PE X e te) (hs:autoParam (swapsWith e none pos.line X.env=pure false) L2.aRfl._auto_1):PS X (.Expr e pos) (tDrop te):=by
 intro pins s σ H D I h
 exact wpAny_Expr_any (thn (he pins s σ H _ I h) fun v s1 ⟨x,H1,I1,r1,q1⟩=>⟨σ,H1,I1,q1⟩) I.quiet hs
def tRet (te:TE):TS:=fun D σ H=>te σ H D.rt
theorem Qw (he:PE X e te):PS X (.Return (some e) pos) (tRet te):=by
 intro pins s σ H D I h
 exact wpAny_Return_some (thn (he pins s σ H _ I h) fun v s1 ⟨x,H1,I1,r1,q1⟩=>⟨x,σ,H1,I1,r1,q1⟩)
def tIfS (c:TT) (t u:TS):TS:=fun D σ H=>c σ H fun b H1=>if b=true then t D σ H1 else u D σ H1
theorem Yg {c:Expr} {a b:List Stmt} {tc:TT} (hc:PT X c tc) (ha:PSs X a t) (hb:PSs X b u):PS X (.If c a b pos) (tIfS tc t u):=by
 intro pins s σ H D I h
 refine wpAny_If (thn (hc pins s σ H _ I h) fun d s1 hqP=>?_)
 obtain ⟨H1,I1,q1⟩:=hqP
 cases d with
 | true=>exact ha pins s1 σ H1 D I1 q1
 | false=>exact hb pins s1 σ H1 D I1 q1
end
abbrev TG:=V->St->Hp->(St->Hp->Prop)->Prop
abbrev TGs:=List V->St->Hp->(St->Hp->Prop)->Prop
def PG (X:Cx) (target:Expr) (t:TG):Prop :=
 ∀ (pins:List (Addr × Obj)) (s:Shared) (σ:St) (H:Hp) (v:V) (u:Value) (Q:St->Hp->Prop),Inv X pins σ H s->RelV v u->t v σ H Q ->
  wpAny (model X.prog X.w) X.A (assign target X.env u) (fun _ s'=>∃ σ' H',Inv X pins σ' H' s'/\Q σ' H') X.xe s
def PGs (X:Cx) (ts:List Expr) (t:TGs):Prop :=
 ∀ (pins:List (Addr × Obj)) (s:Shared) (σ:St) (H:Hp) (vs:List V) (us:List Value) (Q:St->Hp->Prop),Inv X pins σ H s->Vals vs us->t vs σ H Q ->
  wpAny (model X.prog X.w) X.A (assignInOrder ((assignEach ts X.env).map (·.2)) us) (fun _ s'=>∃ σ' H',Inv X pins σ' H' s'/\Q σ' H') X.xe s
abbrev TIp:=V->V->Hp->VK->Prop
def PIp (X:Cx) (op:Operator) (t:TIp):Prop :=
 ∀ (pins:List (Addr × Obj)) (s:Shared) (σ:St) (H:Hp) (x y:V) (v u:Value) (Q:VK),Inv X pins σ H s->RelV x v->RelV y u->t x y H Q ->
  wpAny (model X.prog X.w) X.A (inplaceOp op v u) (EP X pins σ Q) X.xe s
section
variable {X:Cx} {pos:Pos}
def Vu (i:Nat):TG:=fun v σ H Q=>Q (σ.set i (some v)) H
theorem Ql {i:Nat} {x:Str} (hN:X.N.Nodup) (hi:X.N[i]?=some x) (hx:Loc X.env.scope x) (hf:autoParam (X.fn x=true\/X.env.scope.names.lookup x=some .local) L2.aFst._auto_1):PG X (.Name x pos) (Vu i):=by
 intro pins s σ H v u Q I r h
 exact wpAny_assign_Name (Qbh I hN hi hx r (fun s' I'=>⟨_,H,I',h⟩) hf)
def gNil:TGs:=fun vs σ H Q=>vs=[]/\Q σ H
def Qhs (t:TG) (u:TGs):TGs:=fun vs σ H Q=>∃ v r,vs=v :: r/\t v σ H fun σ' H'=>u r σ' H' Q
theorem Ke:PGs X [] gNil:=by
 intro pins s σ H vs us Q I r h
 obtain ⟨e,h⟩:=h
 subst e
 cases r
 exact assignInOrder_nil ⟨σ,H,I,h⟩
theorem Xt {e:Expr} {es:List Expr} {t:TG} {u:TGs} (h1:PG X e t) (h2:PGs X es u)
  (hs:autoParam ((assignEach (e :: es) X.env).map (·.2)=assign e X.env :: (assignEach es X.env).map (·.2)) L2.aRfl._auto_1):PGs X (e :: es) (Qhs t u):=by
 intro pins s σ H vs us Q I r h
 obtain ⟨v,vr,e1,h⟩:=h
 subst e1
 cases r with
 | cons r rr =>
  rw [hs]
  refine assignInOrder_cons (thn (h1 pins s σ H _ _ _ I r h) fun _ s1 hqP=>?_)
  obtain ⟨σ1,H1,I1,q1⟩:=hqP
  exact h2 pins s1 σ1 H1 _ _ Q I1 rr q1
def gTup (K:Fg) (n:Nat) (t:TGs):TG:=fun v σ H Q=>∃ a xs,v=.ref a/\SqT K H a xs/\xs.length=n/\t xs σ H Q
theorem Wg {es:List Expr} {k:Nat} {t:TGs} {n:Nat} (hc:X.calm=true) (h:PGs X es t)
  (hn:autoParam ((assignEach es X.env).length=n) L2.aRfl._auto_1) (hst:autoParam ((assignEach es X.env).findIdx? (·.1)=none) L2.aRfl._auto_1):PG X (.Tuple es k pos) (gTup X.K n t):=by
 intro pins s σ H v u Q I r hw
 obtain ⟨a,xs,e1,hq,hl,hw⟩:=hw
 subst e1
 cases r
 obtain ⟨its,rv,ht,hz⟩:=I.tuple hq
 refine assign_Tuple_tuple (I.ok.hd hc) ht (by simp [hn,← hl,rv.length]) hst fun h' hx=>?_
 have I1:Inv X pins σ H { s with heap:=h' }:=I.kept (t':=s.toks) fun b o e=>hx b o (xY (zX e)) e
 exact h pins _ σ H xs _ Q I1 (by simpa using rv) hw
def tAsg (te:TE) (g:TG):TS:=fun D σ H=>te σ H fun x H1=>g x σ H1 D.nx
theorem ps_asg {tg e:Expr} {te:TE} {g:TG} (he:PE X e te) (hg:PG X tg g) (hs:autoParam (swapsWithSole [tg] e pos.line X.env=pure false) L2.aRfl._auto_1) (hw:autoParam (swappedStores [tg] e X.env=pure none) L2.aRfl._auto_1)
  (h1:autoParam ((assignEach [tg] X.env).map (·.2)=[assign tg X.env]) L2.aRfl._auto_1):PS X (.Assign [tg] e pos) (tAsg te g):=by
 intro pins s σ H D I h
 refine wpAny_Assign_stores (thn (he pins s σ H _ I h) fun v s1 hqP=>?_) hs hw
 obtain ⟨x,H1,I1,r1,q1⟩:=hqP
 rw [h1]
 exact thn (hg pins s1 σ H1 x v _ I1 r1 q1) fun _ s2 q=>q
theorem Qp {i:Nat} {x:Str} {e:Expr} {te:TE} {pos':Pos} (hN:X.N.Nodup) (hi:X.N[i]?=some x) (hx:Loc X.env.scope x) (he:PE X e te) (hs:autoParam (swapsWith e (some (.Name x pos')) pos.line X.env=pure false) L2.aRfl._auto_1) (hf:autoParam (X.fn x=true\/X.env.scope.names.lookup x=some .local) L2.aFst._auto_1) :
  PS X (.Assign [.Name x pos'] e pos) (tAsg te (Vu i)):=by
 intro pins s σ H D I h
 refine wpAny_Assign_Name (thn (he pins s σ H _ I h) fun v s1 hqP=>?_) hs
 obtain ⟨y,H1,I1,r1,q1⟩:=hqP
 exact Qbh I1 hN hi hx r1 (fun s2 I2=>⟨_,H1,I2,q1⟩) hf
def tAug (i:Nat) (te:TE) (ti:TIp):TS:=fun D σ H=>∃ x,σ[i]?=some (some x)/\te σ H fun y H1=>ti x y H1 fun z H2=>D.nx (σ.set i (some z)) H2
theorem Qiw {i:Nat} {x:Str} {e:Expr} {te:TE} {op:Operator} {ti:TIp} {pos':Pos} (hN:X.N.Nodup) (hi:X.N[i]?=some x) (hx:Loc X.env.scope x) (he:PE X e te) (ho:PIp X op ti) (hf:autoParam (X.fn x=true\/X.env.scope.names.lookup x=some .local) L2.aFst._auto_1) :
  PS X (.AugAssign (.Name x pos') op e pos) (tAug i te ti):=by
 intro pins s σ H D I h
 obtain ⟨v,e1,h⟩:=h
 obtain ⟨m,hn,hl⟩:=I.loc
 have vis:Vis X.env.scope x:=by rcases hx with k | k;exact .inl k;exact .inr (.inl k)
 obtain ⟨u,r,l⟩:=hl i x v hi e1 vis
 refine wpAny_AugAssign_Name ?_
 have go:wpAny (model X.prog X.w) X.A (eval e X.env) (fun w s₂=>wpAny (model X.prog X.w) X.A (inplaceOp op u w) (fun r s₃=>wpAny (model X.prog X.w) X.A (storeName X.env x r) (fun _=>SP X pins D .next) X.xe s₃) X.xe s₂) X.xe s:=by
  refine thn (he pins s σ H _ I h) fun w s1 hqP=>?_
  obtain ⟨y,H1,I1,r1,q1⟩:=hqP
  refine thn (ho pins s1 σ H1 v y u w _ I1 r r1 q1) fun z s2 hqP=>?_
  obtain ⟨zv,H2,I2,r2,q2⟩:=hqP
  exact Qbh I2 hN hi hx r2 (fun s3 I3=>⟨_,H2,I3,q2⟩) hf
 rcases l with ⟨hk,hm⟩ | ⟨hk,c,hc,hcell⟩
 ·exact wpAny_loadName_local I.ok.kind hk hn hm go
 ·rcases hk with hk | hk
  ·exact wpAny_loadName_cell I.ok.kind hk hc hcell go
  ·rcases hx with k | k
   ·have:X.env.scope.names.lookup x=some .free:=hk
    rw [k] at this;cases this
   ·have:X.env.scope.names.lookup x=some .free:=hk
    rw [k] at this;cases this
def ipI (f:Int->Int->Int):TIp:=fun x y H Q=>∃ i j,x=.int i/\y=.int j/\Q (.int (f i j)) H
theorem ip_add:PIp X .Add (ipI fun i j=>i + j):=by
 intro pins s σ H x y v u Q I r1 r2 h
 obtain ⟨i,j,e1,e2,q⟩:=h
 subst e1;subst e2
 obtain ⟨t,rfl⟩:=r1
 obtain ⟨t',rfl⟩:=r2
 exact iadd_int ⟨.int _,H,I.tok _,⟨_,rfl⟩,q⟩
theorem ip_sub:PIp X .Sub (ipI fun i j=>i - j):=by
 intro pins s σ H x y v u Q I r1 r2 h
 obtain ⟨i,j,e1,e2,q⟩:=h
 subst e1;subst e2
 obtain ⟨t,rfl⟩:=r1
 obtain ⟨t',rfl⟩:=r2
 exact isub_int ⟨.int _,H,I.tok _,⟨_,rfl⟩,q⟩
end
set_option genInjectivity false in
set_option genInjectivity false in
structure It where
 go:Nat->Hp->Prop
 yld:Nat->Hp->V->Hp->Prop
 stop:Nat->Hp->Prop
def FpOk (X:Cx) (pins:List (Addr × Obj)) (H:Hp) (b:Addr):Prop :=
 H b=none/\b ≠ X.env.locals/\b ∉ X.fs/\(b ∈ X.ex\/X.s₀.heap.objs.size<=b)/\(∀ x c,X.env.cells.lookup x=some c->c ≠ b)/\∀ p ∈ X.pn ++ pins,p.1 ≠ b
theorem Inv.fpOk {X:Cx} {pins:List (Addr × Obj)} {σ:St} {H H':Hp} {s:Shared} {b:Addr} (I:Inv X pins σ H s) (hb:s.heap.objs.size<=b) (hn:H' b=none):FpOk X pins H' b:=by
 refine ⟨hn,Nat.ne_of_gt (xK I.lt hb),I.nofs hb,.inr (jQd I.sz hb),fun x c e z=>?_,fun p hp z=>?_⟩
 ·obtain ⟨v,q⟩:=I.cell x c e
  exact absurd (xK q.lt (by rw [z];exact hb)) (jKf _)
 ·exact absurd (xK (zX (I.pin p hp).1) (by rw [z];exact hb)) (jKf _)
structure Turn (P:Program) (w:World) (K:Fg) (tg:Expr) (J:It) (fp:List Addr) (it:Addr) (tn:Nat->Heap->Prop):Prop where
 mem:it ∈ fp
 obj:∀ i h,tn i h->∀ b ∈ fp,∃ o,h.get? b=some o/\∀ v,o.data ≠ .cell v
 keep:∀ i h h',tn i h->(∀ b ∈ fp,∀ o,h.get? b=some o->h'.get? b=some o)->tn i h'
 item:∀ (X:Cx),X.prog=P->X.w=w->X.K=K->X.calm=true->∀ (i:Nat) (pins:List (Addr × Obj)) (s:Shared) (σ:St) (H:Hp) (E:Value->Shared->Prop),Inv X pins σ H s->(∀ b ∈ fp,FpOk X pins H b)->tn i s.heap->J.go i H ->
  wpAny (model P w) X.A (pyNext (.ref it)) (fun r s1=>∃ u,r=some u /\
   wpAny (model P w) X.A (letOwnedTupleGo tg (.ref it) u) (fun _ s2=>∃ x H',Inv X pins σ H' s2/\RelV x u/\J.yld i H x H'/\tn (i + 1) s2.heap/\∀ b ∈ fp,H' b=none) E s1) E s
 done:∀ (X:Cx),X.prog=P->X.w=w->X.K=K->X.calm=true->∀ (i:Nat) (pins:List (Addr × Obj)) (s:Shared) (σ:St) (H:Hp) (E:Value->Shared->Prop),Inv X pins σ H s->(∀ b ∈ fp,FpOk X pins H b)->tn i s.heap->J.stop i H ->
  wpAny (model P w) X.A (pyNext (.ref it)) (fun r s1=>r=none/\Inv X pins σ H s1) E s
 self:∀ (A:Around) (i:Nat) (s:Shared) (Q:Value->Shared->Prop) (E:Value->Shared->Prop),tn i s.heap->Q (.ref it) s->wpAny (model P w) A (pyIter (.ref it)) Q E s
abbrev TI:=St->Hp->(It->Hp->Prop)->Prop
def PIE (X:Cx) (pins:List (Addr × Obj)) (σ:St) (tg:Expr) (R:It->Hp->Prop) (itv:Value) (s2:Shared):Prop :=
 ∃ (it:Addr) (fp:List Addr) (tn:Nat->Heap->Prop) (J:It) (H':Hp),itv=.ref it/\Inv X pins σ H' s2/\Turn X.prog X.w X.K tg J fp it tn/\tn 0 s2.heap/\(∀ b ∈ fp,FpOk X pins H' b)/\R J H'
def PI (X:Cx) (tg iter:Expr) (wi:TI):Prop :=
 ∀ (pins:List (Addr × Obj)) (s:Shared) (σ:St) (H:Hp) (R:It->Hp->Prop),Inv X pins σ H s->wi σ H R ->
  wpAny (model X.prog X.w) X.A (eval iter X.env) (fun v s1=>wpAny (model X.prog X.w) X.A (pyIter v) (PIE X pins σ tg R) X.xe s1) X.xe s
theorem Qix {M:Model} {A:Around} {E:Value->Shared->Prop} {s:Shared} {tg:Expr} {it:Addr} {u:Value} {o:Obj} {n:String} {vs:Array Value} {Q:Unit->Shared->Prop} (ho:s.heap.get? it=some o) (hc:o.cls=.type n) (hd:o.data=.fields vs)
    (hn:["enumerate","zip","dict_itemiterator","dict_reverseitemiterator","odict_iterator","itertools.zip_longest","itertools.pairwise"].contains n=false) (hQ:Q () s):wpAny M A (letOwnedTupleGo tg (.ref it) u) Q E s:=by
  unfold letOwnedTupleGo
  cases tg <;> first
    | exact jV hQ
    | (cases u <;> first
        | exact jV hQ
        | (refine jQ (wpAny_load ho ?_)
           rw [hc,hd]
           show wpAny M A (if (["enumerate","zip","dict_itemiterator","dict_reverseitemiterator","odict_iterator","itertools.zip_longest","itertools.pairwise"].contains n && vs[0]? == some (rawInt _))=true then _ else _) Q E s
           rw [if_neg (by intro h;rw [hn,Bool.false_and] at h;cases h)]
           exact jV hQ))
def Itl (K:Fg) (a:Addr):It :=
 ⟨fun i H=>∃ xs x,SqL K H a xs/\xs[i]?=some x,fun i H x H'=>H'=H/\∀ xs,SqL K H a xs->xs[i]?=some x,fun i H=>∃ xs,SqL K H a xs/\xs.length<=i⟩
def Itt (K:Fg) (a:Addr):It :=
 ⟨fun i H=>∃ xs x,SqT K H a xs/\xs[i]?=some x,fun i H x H'=>H'=H/\∀ xs,SqT K H a xs->xs[i]?=some x,fun i H=>∃ xs,SqT K H a xs/\xs.length<=i⟩
def Itr (lo:Int) (n:Nat):It:=⟨fun i _=>i < n,fun i H x H'=>H'=H/\x=.int (lo + i),fun i _=>n<=i⟩
theorem Qiy {P:Program} {w:World} {K:Fg} {tg:Expr} (a it:Addr):Turn P w K tg (Itl K a) [it] it (fun i h=>h.IsListIter it a i) where
 mem:=by simp
 obj:=fun i h st b hb=>by
  have e:b=it:=by simpa using hb
  subst e
  obtain ⟨o,e,c,d⟩:=st
  exact ⟨o,e,fun v z=>by rw [d] at z;cases z⟩
 keep:=fun i h h' st k=>st.at fun o e=>k it (by simp) o e
 item:=by
  intro X hP hw hK hc i pins s σ H E I hf st hg
  subst hP hw hK
  obtain ⟨xs,x,hq,hx⟩:=hg
  obtain ⟨its,rv,p,hz⟩:=I.list hq
  obtain ⟨u,hu,ru⟩:=rv.get hx
  obtain ⟨f0,f1,f2,f3,f4,f5⟩:=hf it (by simp)
  refine wpAny_pyNext_list_item st p.isList (x:=u) (by simpa using hu) fun h' st' sb=>?_
  have I1:Inv X pins σ H { s with heap:=h' }:=I.turned (t':=s.toks) (fun b o hb e=>(sb.2 b hb).trans e) f0 f1 f3 f4 f5
  obtain ⟨o,e,c,d⟩:=id st'
  exact ⟨u,rfl,Qix (s:={ s with heap:=h' }) e c d (by decide) ⟨x,H,I1,ru,⟨rfl,fun ys hy=>by rw [I.list_inj hy hq];exact hx⟩,st',fun b hb=>(hf b hb).1⟩⟩
 done:=by
  intro X hP hw hK hc i pins s σ H E I hf st hg
  subst hP hw hK
  obtain ⟨xs,hq,hx⟩:=hg
  obtain ⟨its,rv,p,hz⟩:=I.list hq
  obtain ⟨f0,f1,f2,f3,f4,f5⟩:=hf it (by simp)
  have hl:=rv.length
  exact wpAny_pyNext_list_end (I.ok.hd hc) st p.isList (by simp;omega) fun h' eb=>⟨rfl,I.turned (t':=s.toks) (fun b o hb e=>eb b o hb e) f0 f1 f3 f4 f5⟩
 self:=fun _ _ _ _ _ st h=>wpAny_pyIter_listiter st h
theorem Qht {P:Program} {w:World} {K:Fg} {tg:Expr} (a it:Addr):Turn P w K tg (Itt K a) [it] it (fun i h=>h.IsTupleIter it a i) where
 mem:=by simp
 obj:=fun i h st b hb=>by
  have e:b=it:=by simpa using hb
  subst e
  obtain ⟨o,e,c,d⟩:=st
  exact ⟨o,e,fun v z=>by rw [d] at z;cases z⟩
 keep:=fun i h h' st k=>st.at fun o e=>k it (by simp) o e
 item:=by
  intro X hP hw hK hc i pins s σ H E I hf st hg
  subst hP hw hK
  obtain ⟨xs,x,hq,hx⟩:=hg
  obtain ⟨its,rv,p,hz⟩:=I.tuple hq
  obtain ⟨u,hu,ru⟩:=rv.get hx
  obtain ⟨f0,f1,f2,f3,f4,f5⟩:=hf it (by simp)
  refine wpAny_pyNext_tuple_item st (show s.heap.IsTuple a its.toArray from p) (x:=u) (by simpa using hu) fun h' st' sb=>?_
  have I1:Inv X pins σ H { s with heap:=h' }:=I.turned (t':=s.toks) (fun b o hb e=>(sb.2 b hb).trans e) f0 f1 f3 f4 f5
  obtain ⟨o,e,c,d⟩:=id st'
  exact ⟨u,rfl,Qix (s:={ s with heap:=h' }) e c d (by decide) ⟨x,H,I1,ru,⟨rfl,fun ys hy=>by rw [I.tuple_inj hy hq];exact hx⟩,st',fun b hb=>(hf b hb).1⟩⟩
 done:=by
  intro X hP hw hK hc i pins s σ H E I hf st hg
  subst hP hw hK
  obtain ⟨xs,hq,hx⟩:=hg
  obtain ⟨its,rv,p,hz⟩:=I.tuple hq
  obtain ⟨f0,f1,f2,f3,f4,f5⟩:=hf it (by simp)
  have hl:=rv.length
  exact wpAny_pyNext_tuple_end (I.ok.hd hc) st (show s.heap.IsTuple a its.toArray from p) (by simp;omega) fun h' eb=>⟨rfl,I.turned (t':=s.toks) (fun b o hb e=>eb b o hb e) f0 f1 f3 f4 f5⟩
 self:=fun _ _ _ _ _ st h=>wpAny_pyIter_tupleiter st h
theorem Qhu {P:Program} {w:World} {K:Fg} {tg:Expr} (it:Addr) (lo:Int) (n:Nat):Turn P w K tg (Itr lo n) [it] it (fun i h=>IsRangeIter h it (lo + (i:Nat) * 1) ((n:Int) - (i:Nat)) 1) where
 mem:=by simp
 obj:=fun i h st b hb=>by
  have e:b=it:=by simpa using hb
  subst e
  exact ⟨_,st,fun v z=>by
   have z':Data.fields _=Data.cell v:=z
   cases z'⟩
 keep:=fun i h h' st k=>k it (by simp) _ st
 item:=by
  intro X hP hw hK hc i pins s σ H E I hf st hg
  subst hP hw hK
  obtain ⟨f0,f1,f2,f3,f4,f5⟩:=hf it (by simp)
  have W:=Walks.range (prog:=X.prog) (w:=X.w) (I.ok.hd hc) it lo 1 n
  refine W.item i s _ _ hg st fun v h' tk hv st' kk=>?_
  obtain ⟨t,rfl⟩:=hv
  have I1:Inv X pins σ H { s with heap:=h',toks:=tk }:=I.turned (fun b o hb e=>kk b o (by simpa using hb) e) f0 f1 f3 f4 f5
  refine ⟨_,rfl,Qix (s:={ s with heap:=h',toks:=tk }) (n:="range_iterator") st' rfl rfl (by decide) ⟨.int (lo + i),H,I1,⟨t,?_⟩,⟨rfl,rfl⟩,st',fun b hb=>(hf b hb).1⟩⟩
  rw [Int.mul_one]
 done:=by
  intro X hP hw hK hc i pins s σ H E I hf st hg
  subst hP hw hK
  obtain ⟨f0,f1,f2,f3,f4,f5⟩:=hf it (by simp)
  exact wpAny_pyNext_range_end (I.ok.hd hc) st (by have:n<=i:=hg;omega) fun h' eb=>⟨rfl,I.turned (t':=s.toks) (fun b o hb e=>eb b o hb e) f0 f1 f3 f4 f5⟩
 self:=fun _ _ _ _ _ st h=>wpAny_pyIter_rangeiter st h
section
variable {X:Cx} {tg:Expr}
def iList (K:Fg) (tl:TE):TI:=fun σ H R=>tl σ H fun x H1=>∃ a,x=.ref a/\(∃ xs,SqL K H1 a xs)/\R (Itl K a) H1
def iTup (K:Fg) (tl:TE):TI:=fun σ H R=>tl σ H fun x H1=>∃ a,x=.ref a/\(∃ xs,SqT K H1 a xs)/\R (Itt K a) H1
theorem Qt {l:Expr} {tl:TE} (hl:PE X l tl):PI X tg l (iList X.K tl):=by
 intro pins s σ H R I h
 refine thn (hl pins s σ H _ I h) fun v s1 hqP=>?_
 obtain ⟨x,H1,I1,r1,q1⟩:=hqP
 obtain ⟨a,e,⟨xs,hq⟩,q⟩:=q1
 subst e
 cases r1
 obtain ⟨its,rv,p,hz⟩:=I1.list hq
 refine wpAny_pyIter_list p.isList ?_
 refine ⟨s1.heap.objs.size,[s1.heap.objs.size],_,_,H1,rfl,I1.kept (t':=s1.toks) fun b o e=>jW _ e,Qiy a _,⟨_,yK _ rfl,rfl,rfl⟩,fun b hb=>?_,q⟩
 have e:b=s1.heap.objs.size:=by simpa using hb
 subst e
 exact I1.fpOk (jK _) (I1.hok.fresh (jK _))
theorem pi_tup {l:Expr} {tl:TE} (hl:PE X l tl):PI X tg l (iTup X.K tl):=by
 intro pins s σ H R I h
 refine thn (hl pins s σ H _ I h) fun v s1 hqP=>?_
 obtain ⟨x,H1,I1,r1,q1⟩:=hqP
 obtain ⟨a,e,⟨xs,hq⟩,q⟩:=q1
 subst e
 cases r1
 obtain ⟨its,rv,p,hz⟩:=I1.tuple hq
 refine wpAny_pyIter_tuple (show s1.heap.IsTuple a its.toArray from p) ?_
 refine ⟨s1.heap.objs.size,[s1.heap.objs.size],_,_,H1,rfl,I1.kept (t':=s1.toks) fun b o e=>jW _ e,Qht a _,⟨_,yK _ rfl,rfl,rfl⟩,fun b hb=>?_,q⟩
 have e:b=s1.heap.objs.size:=by simpa using hb
 subst e
 exact I1.fpOk (jK _) (I1.hok.fresh (jK _))
theorem Qfy {pins:List (Addr × Obj)} {σ:St} {H:Hp} {s:Shared} {R:It->Hp->Prop} {E:Value->Shared->Prop} {lo hi:Int} {t u v:Tok} {tk:Nat} (I:Inv X pins σ H s) (h1:-(2 ^ 62)<=lo) (h2:lo < 2 ^ 62) (h3:-(2 ^ 62)<=hi) (h4:hi < 2 ^ 62)
  (q:R (Itr lo (hi - lo).toNat) H):wpAny (model X.prog X.w) X.A (pyIter (.ref s.heap.objs.size)) (PIE X pins σ tg R) E { s with heap:=s.heap.push { cls:=.type "range",data:=.fields #[.int lo t,.int hi u,.int 1 v] },toks:=tk }:=by
 refine wpAny_pyIter_range (IsRange.new ..) (small_one h1 h2 h3 h4) ?_
 have I1:Inv X pins σ H { s with heap:=s.heap.push { cls:=.type "range",data:=.fields #[.int lo t,.int hi u,.int 1 v] },toks:=tk }:=I.kept fun b o e=>jW _ e
 refine ⟨(s.heap.push { cls:=.type "range",data:=.fields #[.int lo t,.int hi u,.int 1 v] }).objs.size,[(s.heap.push { cls:=.type "range",data:=.fields #[.int lo t,.int hi u,.int 1 v] }).objs.size],_,_,H,rfl,
  I1.kept (t':=tk) fun b o e=>jW _ e,Qhu _ lo (hi - lo).toNat,?_,fun b hb=>?_,q⟩
 ·have e1:lo + ((0:Nat):Int) * 1=lo:=by simp
  have e2:(((hi - lo).toNat:Nat):Int) - ((0:Nat):Int)=Builtin.Range.rangeSize lo hi 1:=by rw [rangeSize_one];split <;> omega
  show IsRangeIter _ _ (lo + ((0:Nat):Int) * 1) ((((hi - lo).toNat:Nat):Int) - ((0:Nat):Int)) 1
  rw [e1,e2]
  exact yK _ rfl
 ·have e:b=(s.heap.push { cls:=.type "range",data:=.fields #[.int lo t,.int hi u,.int 1 v] }).objs.size:=by simpa using hb
  subst e
  exact I1.fpOk (jK _) (I1.hok.fresh (jK _))
def iRng1 (ta:TA):TI:=fun σ H R=>ta σ H fun vs H1=>∃ j:Int,vs=[.int j]/\-(2 ^ 62)<=j/\j < 2 ^ 62/\R (Itr 0 j.toNat) H1
def iRng2 (ta:TA):TI:=fun σ H R=>ta σ H fun vs H1=>∃ i j:Int,vs=[.int i,.int j]/\(-(2 ^ 62)<=i/\i < 2 ^ 62/\-(2 ^ 62)<=j/\j < 2 ^ 62)/\R (Itr i (j - i).toNat) H1
theorem Xk {a:Expr} {ta:TA} {p pos:Pos} (hg:Gl X "range") (hm:X.mg "range"=none) (ha:PA X [a] ta) (hs:autoParam (starEach [a] X.env=[(false,eval a X.env)]) L2.aRfl._auto_1):PI X tg (.Call (.Name "range" p) [a] [] pos) (iRng1 ta):=by
 intro pins s σ H R I h
 refine Call_ (Wd I hg hm boot_range (PyProof.Rows.callWith_type1 (thn (ha pos pins s σ H _ I h) fun us s1 hqP=>?_) hs rfl))
 obtain ⟨vs,H1,I1,r1,q1⟩:=hqP
 obtain ⟨j,e,q1,q2,q⟩:=q1
 subst e
 cases r1 with
 | cons r rr =>
  cases rr
  obtain ⟨t,rfl⟩:=r
  exact call_range_1 (Qfy I1 (by omega) (by omega) q1 q2 (by simpa using q))
theorem Qiz {a b:Expr} {ta:TA} {p pos:Pos} (hg:Gl X "range") (hm:X.mg "range"=none) (ha:PA X [a,b] ta) (hs:autoParam (starEach [a,b] X.env=[(false,eval a X.env),(false,eval b X.env)]) L2.aRfl._auto_1) (hs2:autoParam (starEach [b] X.env=[(false,eval b X.env)]) L2.aRfl._auto_1) :
  PI X tg (.Call (.Name "range" p) [a,b] [] pos) (iRng2 ta):=by
 intro pins s σ H R I h
 refine Call_ (Wd I hg hm boot_range (PyProof.Rows.callWith_type1 (thn (ha pos pins s σ H _ I h) fun us s1 hqP=>?_) (by rw [hs,hs2]) (by rw [hs2];rfl)))
 obtain ⟨vs,H1,I1,r1,q1⟩:=hqP
 obtain ⟨i,j,e,⟨q1,q2,q3,q4⟩,q⟩:=q1
 subst e
 cases r1 with
 | cons r rr =>
  cases rr with
  | cons r' rr =>
   cases rr
   obtain ⟨t,rfl⟩:=r
   obtain ⟨t',rfl⟩:=r'
   exact call_range_2 (Qfy I1 q1 q2 q3 q4 q)
def tFor (wi:TI) (g:TG) (tb:TS):TS:=fun D σ H=>wi σ H fun J H1=>∃ W:Nat->Nat->St->Hp->Prop,(∃ m,W 0 m σ H1)/\∀ i m σ H,W i m σ H ->
 (J.stop i H/\D.nx σ H)\/(J.go i H/\∃ N:St->Hp->Prop,(∀ σ' H',N σ' H'->∃ m',m' < m/\W (i + 1) m' σ' H')/\∀ x H',J.yld i H x H'->g x σ H' fun σ2 H2=>tb { D with nx:=N,ct:=N,bk:=D.nx } σ2 H2)
def Qcs (fp:List Addr) (h:Heap):List (Addr × Obj):=fp.filterMap fun b=>(h.get? b).map fun o=>(b,o)
theorem Jv {fp:List Addr} {h:Heap} {b:Addr} {o:Obj} (hb:b ∈ fp) (e:h.get? b=some o):(b,o) ∈ Qcs fp h:=yJ.mpr ⟨b,hb,by rw [e];rfl⟩
theorem Qja {fp:List Addr} {h:Heap} {p:Addr × Obj} (hp:p ∈ Qcs fp h):p.1 ∈ fp/\h.get? p.1=some p.2:=by
 obtain ⟨b,hb,e⟩:=yJ.mp hp
 cases q:h.get? b with
 | none=>rw [q] at e;cases e
 | some o =>
  rw [q] at e
  have e':(b,o)=p:=Option.some.inj e
  subst e'
  exact ⟨hb,q⟩
theorem Inv.pinned {pins:List (Addr × Obj)} {σ:St} {H:Hp} {s:Shared} {fp:List Addr} (I:Inv X pins σ H s) (hf:∀ b ∈ fp,FpOk X pins H b) (ho:∀ b ∈ fp,∃ o,s.heap.get? b=some o/\∀ v,o.data ≠ .cell v):Inv X (pins ++ Qcs fp s.heap) σ H s :=
 I.pins_of fun p hp=>(zQ.mp hp).elim (fun z=>I.pin p (xZ _ z)) fun z=>by
  obtain ⟨hb,e⟩:=Qja z
  obtain ⟨f0,f1,f2,_⟩:=hf p.1 hb
  obtain ⟨o,e',d⟩:=ho p.1 hb
  rw [e] at e';cases e'
  exact ⟨e,f0,f1,f2,d⟩
theorem Inv.unpinned {pins pl:List (Addr × Obj)} {σ:St} {H:Hp} {s:Shared} (I:Inv X (pins ++ pl) σ H s):Inv X pins σ H s:=I.pins_of fun p hp=>I.pin p (xZ _ (wY _ hp))
theorem Xe {iter:Expr} {body:List Stmt} {wi:TI} {g:TG} {tb:TS} {pos:Pos} (hp:PassesOwn (model X.prog X.w) X.A X.env X.xe) (hc:X.calm=true) (hi:PI X tg iter wi) (hg:PG X tg g) (hb:PSs X body tb)
  (hs:autoParam (∀ x,foldedSetIterable iter X.env x=pure x) L2.aIrf._auto_1):PS X (.For tg iter body [] pos) (tFor wi g tb):=by
 intro pins s σ H D I h
 refine wpAny_For (thn (hi pins s σ H _ I h) fun v s1 h1=>thn h1 fun itv s2 h2=>?_) hs
 obtain ⟨it,fp,tn,J,H2,e,I2,T,st2,f2,W,⟨m0,w0⟩,turn⟩:=h2
 subst e
 -- what stays true of the iterator's objects through the loop
 have stat:∀ {H':Hp},(∀ b ∈ fp,H' b=none)->∀ b ∈ fp,FpOk X pins H' b:=fun hn b hb=>⟨hn b hb,(f2 b hb).2⟩
 refine codeAny_forLoop_any (fun n s'=>∃ i σ' H',Inv X pins σ' H' s'/\tn i s'.heap/\(∀ b ∈ fp,H' b=none)/\W i n σ' H') ?_ m0 ⟨0,σ,H2,I2,st2,fun b hb=>(f2 b hb).1,w0⟩
 rintro n s3 ⟨i,σ3,H3,I3,st3,fr3,w3⟩
 rcases turn i n σ3 H3 w3 with ⟨stop,qn⟩ | ⟨go,N,hN,step⟩
 ·refine wpAny_passesOwn hp (thn (T.done X rfl rfl rfl hc i pins s3 σ3 H3 X.xe I3 (stat fr3) st3 stop) fun r s4 hqP=>?_)
  obtain ⟨hr,I4⟩:=hqP
  subst hr
  exact wpAny_execs_nil ⟨σ3,H3,I4,qn⟩
 ·refine wpAny_passesOwn hp (thn (T.item X rfl rfl rfl hc i pins s3 σ3 H3 X.xe I3 (stat fr3) st3 go) fun r s4 hqP=>?_)
  obtain ⟨u,hr,h4⟩:=hqP
  subst hr
  refine wpAny_passesOwn hp (thn h4 fun _ s5 hqP=>?_)
  obtain ⟨x,H5,I5,r5,y5,st5,fr5⟩:=hqP
  have I5':=I5.pinned (stat fr5) (T.obj _ _ st5)
  refine wpAny_passesOwn hp (thn (hg _ s5 σ3 H5 x u _ I5' r5 (step x H5 y5)) fun _ s6 hqP=>?_)
  obtain ⟨σ6,H6,I6,q6⟩:=hqP
  refine wpAny_passesOwn hp (thn (hb _ s6 σ6 H6 _ I6 q6) fun f s7 q7=>?_)
  have again:∀ {σ7:St} {H7:Hp},Inv X (pins ++ Qcs fp s5.heap) σ7 H7 s7->N σ7 H7->∃ m,m < n/\∃ i σ' H',Inv X pins σ' H' s7/\tn i s7.heap/\(∀ b ∈ fp,H' b=none)/\W i m σ' H':=fun {σ7 H7} I7 n7=>by
   obtain ⟨m',hm,w7⟩:=hN σ7 H7 n7
   refine ⟨m',hm,i + 1,σ7,H7,I7.unpinned,T.keep _ _ _ st5 fun b hb o e=>(I7.pin (b,o) (xZ _ (xZ _ (Jv hb e)))).1,fun b hb=>?_,w7⟩
   obtain ⟨o,e,d⟩:=T.obj _ _ st5 b hb
   exact (I7.pin (b,o) (xZ _ (xZ _ (Jv hb e)))).2.1
  cases f with
  | next=>obtain ⟨σ7,H7,I7,n7⟩:=q7;exact again I7 n7
  | cont=>obtain ⟨σ7,H7,I7,n7⟩:=q7;exact again I7 n7
  | brk=>obtain ⟨σ7,H7,I7,q7⟩:=q7;exact ⟨σ7,H7,I7.unpinned,q7⟩
  | ret v=>obtain ⟨x7,σ7,H7,I7,r7,q7⟩:=q7;exact ⟨x7,σ7,H7,I7.unpinned,r7,q7⟩
end
theorem Xq {K:Fg} {a:Addr} {xs:List V} {g:TG} {tb:TS} {D:Ends} {σ:St} {H:Hp} (Pv:Nat->St->Hp->Prop) (h0:Pv 0 σ H) (hl:∀ i σ H,i<=xs.length->Pv i σ H->SqL K H a xs)
  (hs:∀ i x σ H,xs[i]?=some x->Pv i σ H->g x σ H fun σ2 H2=>tb { D with nx:=Pv (i + 1),ct:=Pv (i + 1),bk:=D.nx } σ2 H2) (hd:∀ σ H,Pv xs.length σ H->D.nx σ H) :
  ∃ W:Nat->Nat->St->Hp->Prop,(∃ m,W 0 m σ H)/\∀ i m σ H,W i m σ H ->
   ((Itl K a).stop i H/\D.nx σ H)\/((Itl K a).go i H/\∃ N:St->Hp->Prop,(∀ σ' H',N σ' H'->∃ m',m' < m/\W (i + 1) m' σ' H')/\∀ x H',(Itl K a).yld i H x H'->g x σ H' fun σ2 H2=>tb { D with nx:=N,ct:=N,bk:=D.nx } σ2 H2):=by
 refine ⟨fun i m σ H=>m=xs.length - i/\i<=xs.length/\Pv i σ H,⟨xs.length,by simp,jXe _,h0⟩,?_⟩
 rintro i m σ H ⟨rfl,hi,p⟩
 have q:=hl i σ H hi p
 by_cases hlt:i < xs.length
 ·refine .inr ⟨⟨xs,xs[i],q,by simp [hlt]⟩,Pv (i + 1),fun σ' H' p'=>⟨xs.length - (i + 1),by omega,rfl,hlt,p'⟩,fun x H' y=>?_⟩
  obtain ⟨e,y⟩:=y
  subst e
  exact hs i x σ _ (y xs q) p
 ·have e:i=xs.length:=by omega
  subst e
  exact .inl ⟨⟨xs,q,jK _⟩,hd σ H p⟩
theorem Xs {lo:Int} {n:Nat} {g:TG} {tb:TS} {D:Ends} {σ:St} {H:Hp} (Pv:Nat->St->Hp->Prop) (h0:Pv 0 σ H)
  (hs:∀ i σ H,i < n->Pv i σ H->g (.int (lo + i)) σ H fun σ2 H2=>tb { D with nx:=Pv (i + 1),ct:=Pv (i + 1),bk:=D.nx } σ2 H2) (hd:∀ σ H,Pv n σ H->D.nx σ H) :
  ∃ W:Nat->Nat->St->Hp->Prop,(∃ m,W 0 m σ H)/\∀ i m σ H,W i m σ H ->
   ((Itr lo n).stop i H/\D.nx σ H)\/((Itr lo n).go i H/\∃ N:St->Hp->Prop,(∀ σ' H',N σ' H'->∃ m',m' < m/\W (i + 1) m' σ' H')/\∀ x H',(Itr lo n).yld i H x H'->g x σ H' fun σ2 H2=>tb { D with nx:=N,ct:=N,bk:=D.nx } σ2 H2):=by
 refine ⟨fun i m σ H=>m=n - i/\i<=n/\Pv i σ H,⟨n,by simp,jXe _,h0⟩,?_⟩
 rintro i m σ H ⟨rfl,hi,p⟩
 by_cases hlt:i < n
 ·refine .inr ⟨hlt,Pv (i + 1),fun σ' H' p'=>⟨n - (i + 1),by omega,rfl,hlt,p'⟩,fun x H' y=>?_⟩
  obtain ⟨e,y⟩:=y
  subst e y
  exact hs i σ _ hlt p
 ·have e:i=n:=by omega
  subst e
  exact .inl ⟨jK _,hd σ H p⟩
abbrev R2:=V->V->Hp->VK->Prop
def OpR (X:Cx) (f:Value->Value->Sem Value) (r:R2):Prop :=
 ∀ (pins:List (Addr × Obj)) (s:Shared) (σ:St) (H:Hp) (x y:V) (v u:Value) (Q:VK),Inv X pins σ H s->RelV x v->RelV y u->r x y H Q ->
  wpAny (model X.prog X.w) X.A (f v u) (EP X pins σ Q) X.xe s
def UnR (X:Cx) (f:Value->Sem Value) (r:V->Hp->VK->Prop):Prop :=
 ∀ (pins:List (Addr × Obj)) (s:Shared) (σ:St) (H:Hp) (x:V) (v:Value) (Q:VK),Inv X pins σ H s->RelV x v->r x H Q ->
  wpAny (model X.prog X.w) X.A (f v) (EP X pins σ Q) X.xe s
def Jg (X:Cx) (f:Value) (r:List V->Hp->VK->Prop):Prop :=
 ∀ (pins:List (Addr × Obj)) (s:Shared) (σ:St) (H:Hp) (xs:List V) (us:List Value) (Q:VK),Inv X pins σ H s->Vals xs us->r xs H Q ->
  wpAny (model X.prog X.w) X.A (call f us) (EP X pins σ Q) X.xe s
def tOp (r:R2) (ta tb:TE):TE:=fun σ H Q=>ta σ H fun x H1=>tb σ H1 fun y H2=>r x y H2 Q
def tUn (r:V->Hp->VK->Prop) (ta:TE):TE:=fun σ H Q=>ta σ H fun x H1=>r x H1 Q
def rI (C:Int->Int->Prop) (g:Int->Int->V):R2:=fun x y H Q=>∃ i j,x=.int i/\y=.int j/\C i j/\Q (g i j) H
def rI0 (g:Int->Int->V):R2:=fun x y H Q=>∃ i j,x=.int i/\y=.int j/\Q (g i j) H
def rU (g:Int->V):V->Hp->VK->Prop:=fun x H Q=>∃ i,x=.int i/\Q (g i) H
section
variable {X:Cx} {a b:Expr} {ta tb:TE} {pos:Pos}
theorem binT (ha:PE X a ta) (hb:PE X b tb) {pins:List (Addr × Obj)} {s:Shared} {σ:St} {H:Hp} {R:V->V->Hp->Prop} (I:Inv X pins σ H s)
  (h:ta σ H fun x H1=>tb σ H1 fun y H2=>R x y H2) {Q:Value->Shared->Prop} {f:Value->Value->Sem Value}
  (hf:∀ v u s2 x y H2,Inv X pins σ H2 s2->RelV x v->RelV y u->R x y H2->wpAny (model X.prog X.w) X.A (f v u) Q X.xe s2) :
  wpAny (model X.prog X.w) X.A (eval a X.env) (fun v s₁=>wpAny (model X.prog X.w) X.A (eval b X.env) (fun u s₂=>wpAny (model X.prog X.w) X.A (f v u) Q X.xe s₂) X.xe s₁) X.xe s:=by
 refine thn (ha pins s σ H _ I h) fun v s1 hqP=>?_
 obtain ⟨x,H1,I1,r1,q1⟩:=hqP
 refine thn (hb pins s1 σ H1 _ I1 q1) fun u s2 hqP=>?_
 obtain ⟨y,H2,I2,r2,q2⟩:=hqP
 exact hf v u s2 x y H2 I2 r1 r2 q2
theorem Qj {op:Operator} {r:R2} (ho:OpR X (binaryOp op) r) (ha:PE X a ta) (hb:PE X b tb):PE X (.BinOp a op b pos) (tOp r ta tb):=by
 intro pins s σ H Q I h
 exact wpAny_BinOp (binT ha hb I h fun v u s2 x y H2 I2 rx ry q=>ho pins s2 σ H2 x y v u Q I2 rx ry q)
theorem Qhv {op:UnaryOp} {r:V->Hp->VK->Prop} (ho:UnR X (unaryOp op) r) (ha:PE X a ta):PE X (.UnaryOp op a pos) (tUn r ta):=by
 intro pins s σ H Q I h
 exact UnaryOp_ (thn (ha pins s σ H _ I h) fun v s1 ⟨x,H1,I1,r1,q1⟩=>ho pins s1 σ H1 x v Q I1 r1 q1)
theorem opI {f:Value->Value->Sem Value} {C:Int->Int->Prop} {g:Int->Int->Int}
  (rule:∀ (i j:Int) (t u:Tok) (s:Shared) (Q:Value->Shared->Prop) (E:Value->Shared->Prop),C i j->Q (.int (g i j) s.toks) { s with toks:=s.toks + 1 }->wpAny (model X.prog X.w) X.A (f (.int i t) (.int j u)) Q E s) :
  OpR X f (rI C fun i j=>.int (g i j)):=by
 intro pins s σ H x y v u Q I rx ry h
 obtain ⟨i,j,rfl,rfl,hc,q⟩:=h
 obtain ⟨t,rfl⟩:=rx
 obtain ⟨t',rfl⟩:=ry
 exact rule i j t t' s _ _ hc ⟨.int (g i j),H,I.tok _,⟨_,rfl⟩,q⟩
theorem opI0 {f:Value->Value->Sem Value} {g:Int->Int->Int}
  (rule:∀ (i j:Int) (t u:Tok) (s:Shared) (Q:Value->Shared->Prop) (E:Value->Shared->Prop),Q (.int (g i j) s.toks) { s with toks:=s.toks + 1 }->wpAny (model X.prog X.w) X.A (f (.int i t) (.int j u)) Q E s) :
  OpR X f (rI0 fun i j=>.int (g i j)):=by
 intro pins s σ H x y v u Q I rx ry h
 obtain ⟨i,j,rfl,rfl,q⟩:=h
 obtain ⟨t,rfl⟩:=rx
 obtain ⟨t',rfl⟩:=ry
 exact rule i j t t' s _ _ ⟨.int (g i j),H,I.tok _,⟨_,rfl⟩,q⟩
theorem opB0 {f:Value->Value->Sem Value} {g:Int->Int->Bool}
  (rule:∀ (i j:Int) (t u:Tok) (s:Shared) (Q:Value->Shared->Prop) (E:Value->Shared->Prop),Q (.bool (g i j)) s->wpAny (model X.prog X.w) X.A (f (.int i t) (.int j u)) Q E s) :
  OpR X f (rI0 fun i j=>.bl (g i j)):=by
 intro pins s σ H x y v u Q I rx ry h
 obtain ⟨i,j,rfl,rfl,q⟩:=h
 obtain ⟨t,rfl⟩:=rx
 obtain ⟨t',rfl⟩:=ry
 exact rule i j t t' s _ _ ⟨.bl (g i j),H,I,rfl,q⟩
def CDiv (i j:Int):Prop:=0 < j/\j < 1073741824
def CMul (i j:Int):Prop:=(-(2 ^ 64) < i/\i < 2 ^ 64)\/(-(2 ^ 64) < j/\j < 2 ^ 64)
theorem CMul.ok {i j:Int} (h:CMul i j):IntMulOk i j:=by
 rcases h with ⟨h1,h2⟩ | ⟨h1,h2⟩
 ·exact .of_left (intBits_le_64 h1 h2)
 ·exact .of_right (intBits_le_64 h1 h2)
theorem Qs:OpR X (binaryOp .Add) (rI0 fun i j=>.int (i + j)):=opI0 fun _ _ _ _ _ _ _ q=>add_int q
theorem Kl:OpR X (binaryOp .Sub) (rI0 fun i j=>.int (i - j)):=opI0 fun _ _ _ _ _ _ _ q=>sub_int q
theorem Zr:OpR X (binaryOp .Mult) (rI CMul fun i j=>.int (i * j)):=opI fun _ _ _ _ _ _ _ hc q=>mul_int q hc.ok
theorem Ya:OpR X (binaryOp .FloorDiv) (rI CDiv fun i j=>.int (i / j)):=opI fun i j _ _ _ _ _ hc q=>by
 have h1:(0:Int) < j:=hc.1
 have h2:j < 1073741824:=hc.2
 exact floordiv_int (by omega) (by rw [Int.fdiv_eq_ediv_of_nonneg i (by omega)];exact q) (.inl (PyProof.noPylong_small (by omega)))
theorem Xh:OpR X (binaryOp .Mod) (rI (fun _ j=>0 < j) fun i j=>.int (i % j)):=opI fun i j _ _ _ _ _ hc q=>by
 have h1:(0:Int) < j:=hc
 exact mod_int' (by omega) (by rw [Int.fmod_eq_emod_of_nonneg i (by omega)];exact q)
theorem unI {f:Value->Sem Value} {g:Int->Int}
  (rule:∀ (i:Int) (t:Tok) (s:Shared) (Q:Value->Shared->Prop) (E:Value->Shared->Prop),Q (.int (g i) s.toks) { s with toks:=s.toks + 1 }->wpAny (model X.prog X.w) X.A (f (.int i t)) Q E s) :
  UnR X f (rU fun i=>.int (g i)):=by
 intro pins s σ H x v Q I rx h
 obtain ⟨i,rfl,q⟩:=h
 obtain ⟨t,rfl⟩:=rx
 exact rule i t s _ _ ⟨.int (g i),H,I.tok _,⟨_,rfl⟩,q⟩
theorem Qar:UnR X (unaryOp .USub) (rU fun i=>.int (-i)):=unI fun _ _ _ _ _ q=>neg_int q
end
def scal:V->V->Bool
 | .non,.non=>true | .non,.int _=>true | .int _,.non=>true | .non,.bl _=>true | .bl _,.non=>true | .non,.str _=>true | .str _,.non=>true
 | .int _,.int _=>true | .bl _,.bl _=>true | .str _,.str _=>true | .byt _,.byt _=>true
 | .int _,.str _=>true | .str _,.int _=>true | .bl _,.str _=>true | .str _,.bl _=>true
 | _,_=>false
def rEq:R2:=fun x y H Q=>scal x y=true/\Q (.bl (decide (x=y))) H
def rNe:R2:=fun x y H Q=>scal x y=true/\Q (.bl (!decide (x=y))) H
theorem Qjb {i j:Int}:decide (V.int i=V.int j)=(i == j):=by
 rw [jZa]
 simp
theorem Qou {i j:Bool}:decide (V.bl i=V.bl j)=(i == j):=by
 rw [jZa]
 simp
theorem Qjc {i j:Str}:decide (V.str i=V.str j)=(i == j):=by
 rw [jZa]
 simp
theorem Qjd {i j:Array UInt8}:decide (V.byt i=V.byt j)=(i.toList == j.toList):=by
 rw [jZa]
 cases i
 cases j
 simp
section
variable {X:Cx} {a b c:Expr} {ta tb tc:TE} {pos:Pos}
theorem Xx {pins:List (Addr × Obj)} {σ:St} {H:Hp} {s:Shared} {Q:VK} {k k':Bool} (I:Inv X pins σ H s) (q:Q (.bl k) H) (e:k=k'):EP X pins σ Q (.bool k') s:=by
 subst e
 exact ⟨.bl k,H,I,rfl,q⟩
theorem Yb:OpR X (compareOp .Eq) rEq:=by
 intro pins s σ H x y v u Q I rx ry h
 obtain ⟨hs,q⟩:=h
 cases x with
 | non =>
  cases rx
  cases y with
  | non=>cases ry;exact PySem.EqNone.eq_none_none (Xx I q (by simp))
  | bl j=>cases ry;exact PySem.EqNone.eq_none_bool (Xx I q (by simp))
  | int j=>obtain ⟨t',rfl⟩:=ry;exact PySem.EqNone.eq_none_int (Xx I q (by simp))
  | str j=>obtain ⟨t',rfl⟩:=ry;exact PySem.EqNone.eq_none_str (Xx I q (by simp))
  | _=>exact absurd (show false=true from hs) yW
 | bl i =>
  cases rx
  cases y with
  | non=>cases ry;exact PySem.EqNone.eq_bool_none (Xx I q (by simp))
  | bl j=>cases ry;exact eq_bool (Xx I q Qou)
  | str j=>obtain ⟨t',rfl⟩:=ry;exact PySem.EqMixed.eq_bool_str (Xx I q (by simp))
  | _=>exact absurd (show false=true from hs) yW
 | int i =>
  obtain ⟨t,rfl⟩:=rx
  cases y with
  | non=>cases ry;exact PySem.EqNone.eq_int_none (Xx I q (by simp))
  | int j=>obtain ⟨t',rfl⟩:=ry;exact eq_int (Xx I q Qjb)
  | str j=>obtain ⟨t',rfl⟩:=ry;exact PySem.EqMixed.eq_int_str (Xx I q (by simp))
  | _=>exact absurd (show false=true from hs) yW
 | str i =>
  obtain ⟨t,rfl⟩:=rx
  cases y with
  | non=>cases ry;exact PySem.EqNone.eq_str_none (Xx I q (by simp))
  | bl j=>cases ry;exact PySem.EqMixed.eq_str_bool (Xx I q (by simp))
  | int j=>obtain ⟨t',rfl⟩:=ry;exact PySem.EqMixed.eq_str_int (Xx I q (by simp))
  | str j=>obtain ⟨t',rfl⟩:=ry;exact eq_str (Xx I q Qjc)
  | _=>exact absurd (show false=true from hs) yW
 | byt i =>
  obtain ⟨t,rfl⟩:=rx
  cases y with
  | byt j=>obtain ⟨t',rfl⟩:=ry;exact PySem.W.eq_bytes (Xx I q Qjd)
  | _=>exact absurd (show false=true from hs) yW
 | _=>cases y <;> exact absurd (show false=true from hs) yW
theorem Qme:OpR X (compareOp .NotEq) rNe:=by
 intro pins s σ H x y v u Q I rx ry h
 obtain ⟨hs,q⟩:=h
 cases x with
 | non =>
  cases rx
  cases y with
  | non=>cases ry;exact PySem.EqNone.ne_none_none (Xx I q (by simp))
  | bl j=>cases ry;exact PySem.EqNone.ne_none_bool (Xx I q (by simp))
  | int j=>obtain ⟨t',rfl⟩:=ry;exact PySem.EqNone.ne_none_int (Xx I q (by simp))
  | str j=>obtain ⟨t',rfl⟩:=ry;exact PySem.EqNone.ne_none_str (Xx I q (by simp))
  | _=>exact absurd (show false=true from hs) yW
 | bl i =>
  cases rx
  cases y with
  | non=>cases ry;exact PySem.EqNone.ne_bool_none (Xx I q (by simp))
  | bl j=>cases ry;exact ne_bool (Xx I q (congrArg not Qou))
  | str j=>obtain ⟨t',rfl⟩:=ry;exact PySem.EqMixed.ne_bool_str (Xx I q (by simp))
  | _=>exact absurd (show false=true from hs) yW
 | int i =>
  obtain ⟨t,rfl⟩:=rx
  cases y with
  | non=>cases ry;exact PySem.EqNone.ne_int_none (Xx I q (by simp))
  | int j=>obtain ⟨t',rfl⟩:=ry;exact ne_int (Xx I q (congrArg not Qjb))
  | str j=>obtain ⟨t',rfl⟩:=ry;exact PySem.EqMixed.ne_int_str (Xx I q (by simp))
  | _=>exact absurd (show false=true from hs) yW
 | str i =>
  obtain ⟨t,rfl⟩:=rx
  cases y with
  | non=>cases ry;exact PySem.EqNone.ne_str_none (Xx I q (by simp))
  | bl j=>cases ry;exact PySem.EqMixed.ne_str_bool (Xx I q (by simp))
  | int j=>obtain ⟨t',rfl⟩:=ry;exact PySem.EqMixed.ne_str_int (Xx I q (by simp))
  | str j=>obtain ⟨t',rfl⟩:=ry;exact ne_str (Xx I q (congrArg not Qjc))
  | _=>exact absurd (show false=true from hs) yW
 | byt i =>
  obtain ⟨t,rfl⟩:=rx
  cases y with
  | byt j=>obtain ⟨t',rfl⟩:=ry;exact PySem.W.ne_bytes (Xx I q (congrArg not Qjd))
  | _=>exact absurd (show false=true from hs) yW
 | _=>cases y <;> exact absurd (show false=true from hs) yW
theorem Qct:OpR X (compareOp .Lt) (rI0 fun i j=>.bl (decide (i < j))):=opB0 fun _ _ _ _ _ _ _ q=>lt_int q
theorem Km:OpR X (compareOp .LtE) (rI0 fun i j=>.bl (decide (i<=j))):=opB0 fun _ _ _ _ _ _ _ q=>le_int q
theorem Qje:OpR X (compareOp .Gt) (rI0 fun i j=>.bl (decide (j < i))):=opB0 fun _ _ _ _ _ _ _ q=>gt_int q
theorem op_ge:OpR X (compareOp .GtE) (rI0 fun i j=>.bl (decide (j<=i))):=opB0 fun _ _ _ _ _ _ _ q=>ge_int q
theorem op_isN:OpR X (compareOp .Is) (fun x y H Q=>y=.non/\Q (.bl (decide (x=.non))) H):=by
 intro pins s σ H x y v u Q I rx ry h
 obtain ⟨rfl,q⟩:=h
 cases ry
 refine is_none_gen (Xx I q ?_)
 cases x <;> first
  | (cases rx;rfl)
  | (obtain ⟨t,rfl⟩:=rx;rfl)
theorem Qq (b:Expr) {op:CmpOp} (h:autoParam (op ≠ .In) L2.aDec._auto_1) (h2:autoParam (op ≠ .NotIn) L2.aDec._auto_1):behindInMarks op b=false:=by
 have e1:(op == CmpOp.In)=false:=by cases op <;> first | rfl | exact absurd rfl h
 have e2:(op == CmpOp.NotIn)=false:=by cases op <;> first | rfl | exact absurd rfl h2
 cases b <;> simp [behindInMarks,e1,e2]
theorem Vb {op:CmpOp} {r:R2} (ho:OpR X (compareOp op) r) (ha:PE X a ta) (hb:PE X b tb) (hm:behindInMarks op b=false):PE X (.Compare a [op] [b] pos) (tOp r ta tb):=by
 intro pins s σ H Q I h
 exact wpAny_Compare1 (binT ha hb I h fun v u s2 x y H2 I2 rx ry q=>ho pins s2 σ H2 x y v u Q I2 rx ry q) hm
def tTest (t:TE):TT:=fun σ H Q=>t σ H fun x H'=>∃ k,x=.bl k/\Q k H'
theorem Qn {op:CmpOp} {r:R2} (ho:OpR X (compareOp op) r) (ha:PE X a ta) (hb:PE X b tb) (hm:behindInMarks op b=false):PT X (.Compare a [op] [b] pos) (tTest (tOp r ta tb)):=by
 intro pins s σ H Q I h
 refine wpAny_isTrue_Compare1 (thn (ha pins s σ H _ I h) fun v s1 ⟨x,H1,I1,r1,q1⟩=>thn (hb pins s1 σ H1 _ I1 q1) fun u s2 ⟨y,H2,I2,r2,q2⟩ =>
  thn (ho pins s2 σ H2 x y v u _ I2 r1 r2 q2) fun c s3 ⟨z,H3,I3,r3,k,e,q3⟩=>?_) hm
 subst e
 cases r3
 exact wpAny_truthy_bool ⟨H3,I3,q3⟩
def Qov (r r':R2) (ta tb tc:TE):TE:=fun σ H Q=>ta σ H fun x H1=>tb σ H1 fun y H2=>r x y H2 fun z H3=>∃ k,z=.bl k /\
 (if k=true then tc σ H3 fun w' H4=>r' y w' H4 Q else Q (.bl false) H3)
theorem Qfz {op op':CmpOp} {r r':R2} (ho:OpR X (compareOp op) r) (ho':OpR X (compareOp op') r') (ha:PE X a ta) (hb:PE X b tb) (hc:PE X c tc)
  (hm:lastMarks [op,op'] [b,c]=false:=by with_unfolding_all rfl):PE X (.Compare a [op,op'] [b,c] pos) (Qov r r' ta tb tc):=by
 intro pins s σ H Q I h
 refine Compare_chain (thn (ha pins s σ H _ I h) fun v s1 ⟨x,H1,I1,r1,q1⟩=>chain_link (thn (hb pins s1 σ H1 _ I1 q1) fun u s2 ⟨y,H2,I2,r2,q2⟩ =>
  thn (ho pins s2 σ H2 x y v u _ I2 r1 r2 q2) fun d s3 ⟨z,H3,I3,r3,k,e,q3⟩=>?_)) hm
 subst e
 cases r3
 refine wpAny_truthy_bool ?_
 cases k with
 | false=>exact ite_ff ⟨.bl false,H3,I3,rfl,q3⟩
 | true=>exact ite_tt (chain_last (thn (hc pins s3 σ H3 _ I3 q3) fun w' s4 ⟨z',H4,I4,r4,q4⟩=>ho' pins s4 σ H4 y z' u w' Q I4 r2 r4 q4))
theorem Qga {op op':CmpOp} {r r':R2} (ho:OpR X (compareOp op) r) (ho':OpR X (compareOp op') r') (ha:PE X a ta) (hb:PE X b tb) (hc:PE X c tc)
  (hm:lastMarks [op,op'] [b,c]=false:=by with_unfolding_all rfl):PT X (.Compare a [op,op'] [b,c] pos) (tTest (Qov r r' ta tb tc)):=by
 intro pins s σ H Q I h
 refine isTrue_chain (thn (ha pins s σ H _ I h) fun v s1 ⟨x,H1,I1,r1,q1⟩=>test_link (thn (hb pins s1 σ H1 _ I1 q1) fun u s2 ⟨y,H2,I2,r2,q2⟩ =>
  thn (ho pins s2 σ H2 x y v u _ I2 r1 r2 q2) fun d s3 ⟨z,H3,I3,r3,k,e,q3⟩=>?_)) hm
 subst e
 cases r3
 refine wpAny_truthy_bool ?_
 cases k with
 | false =>
  obtain ⟨k',e',q'⟩:=q3
  cases e'
  exact ite_ff ⟨H3,I3,q'⟩
 | true =>
  refine ite_tt (test_last (thn (hc pins s3 σ H3 _ I3 q3) fun w' s4 ⟨z',H4,I4,r4,q4⟩=>thn (ho' pins s4 σ H4 y z' u w' _ I4 r2 r4 q4) fun d' s5 hqP=>?_))
  obtain ⟨z2,H5,I5,r5,k2,e2,q5⟩:=hqP
  subst e2
  cases r5
  exact wpAny_truthy_bool ⟨H5,I5,q5⟩
theorem Qgb:(sizeLine:Nat) < 2 ^ 63:=by rw [sizeLine_eq];decide
theorem Qhw:OpR X (binaryOp .Add) (fun x y H Q=>∃ i j,x=.str i/\y=.str j/\i.length + j.length<=sizeLine/\Q (.str (i ++ j)) H):=by
 intro pins s σ H x y v u Q I rx ry h
 obtain ⟨i,j,rfl,rfl,hz,q⟩:=h
 obtain ⟨t,rfl⟩:=rx
 obtain ⟨t',rfl⟩:=ry
 exact add_str (fun t' tk=>⟨.str (i ++ j),H,I.tok _,⟨_,rfl⟩,q⟩) hz
theorem vals1 {x:V} {us:List Value} (r:Vals [x] us):∃ u,us=[u]/\RelV x u:=by
 cases r with
 | cons r1 r2=>cases r2;exact ⟨_,rfl,r1⟩
theorem vals2 {x y:V} {us:List Value} (r:Vals [x,y] us):∃ u w',us=[u,w']/\RelV x u/\RelV y w':=by
 cases r with
 | cons r1 r2 =>
  cases r2 with
  | cons r3 r4=>cases r4;exact ⟨_,_,rfl,r1,r3⟩
theorem Qcu (hc:X.calm=true):Jg X (.builtin "max") (fun xs H Q=>∃ i j,xs=[.int i,.int j]/\Q (.int (if j > i then j else i)) H):=by
 intro pins s σ H xs us Q I r h
 obtain ⟨i,j,rfl,q⟩:=h
 obtain ⟨u,w',rfl,⟨t,rfl⟩,⟨t',rfl⟩⟩:=vals2 r
 refine max_two_ints (I.ok.hd hc) fun h' tk k=>⟨_,H,I.kept k,?_,q⟩
 by_cases hj:j > i
 ·rw [if_pos hj,if_pos hj];exact ⟨_,rfl⟩
 ·rw [if_neg hj,if_neg hj];exact ⟨_,rfl⟩
theorem Jn (hc:X.calm=true):Jg X (.builtin "min") (fun xs H Q=>∃ i j,xs=[.int i,.int j]/\Q (.int (if j < i then j else i)) H):=by
 intro pins s σ H xs us Q I r h
 obtain ⟨i,j,rfl,q⟩:=h
 obtain ⟨u,w',rfl,⟨t,rfl⟩,⟨t',rfl⟩⟩:=vals2 r
 refine min_two_ints (I.ok.hd hc) fun h' tk k=>⟨_,H,I.kept k,?_,q⟩
 by_cases hj:j < i
 ·rw [if_pos hj,if_pos hj];exact ⟨_,rfl⟩
 ·rw [if_neg hj,if_neg hj];exact ⟨_,rfl⟩
end
structure ObjM (h:Heap) (x dx C:Addr) (mA:Str->Option Value):Prop where
 obj:h.get? x=some (PySem.W.instObj C dx)
 ns:h.Ns1 dx mA
 ne:dx ≠ x
theorem Qjf {h:Heap} {dx:Addr} {mA:Str->Option Value} (n:h.Ns1 dx mA):∃ od,h.get? dx=some od/\∀ name,PySem.W.lookIn name od=some (mA name):=by
 obtain ⟨o,es,ep,ho,hd,hk,_,hm⟩:=n
 refine ⟨o,ho,fun name=>?_⟩
 have e:=hm name
 unfold nsFind findBy at e
 rw [← Array.find?_toList] at e
 unfold PySem.W.lookIn
 rw [hd]
 dsimp only
 split
 ·rename_i y q
  rw [q] at e
  exact congrArg some e
 ·rename_i q
  rw [q] at e
  have a:es.toList.any (·.refKey)=false:=by
   rw [List.any_eq_false]
   intro y hy
   obtain ⟨z,t,hkey⟩:=hk y (Array.mem_toList_iff.mp hy)
   simp [DictEntry.refKey,hkey]
  have a':¬ es.toList.any (·.refKey)=true:=by rw [a];exact yW
  rw [if_neg a']
  exact congrArg some e
theorem ObjM.look {h:Heap} {x dx C:Addr} {mA:Str->Option Value} (I:ObjM h x dx C mA):∃ od,PySem.W.InstAt h x (PySem.W.instObj C dx) C (some od)/\∀ name,PySem.W.lookIn name od=some (mA name) :=
 let ⟨od,ho,hl⟩:=Qjf I.ns
 ⟨od,⟨I.obj,rfl,rfl,ho⟩,hl⟩
section
variable {prog:Program} {w:World} {A:Around} {E:Value->Shared->Prop} {s:Shared} {K:Fg} {x dx C f:Addr} {mA:Str->Option Value} {name:Str} {v:Value}
theorem get_map {expr:Bool} {Q:Value->Shared->Prop} (X:K.In s.heap) (I:ObjM s.heap x dx C mA) (hg:PySem.W.plainGet K C name=true) (hh:PySem.W.hasDictIn K C=true)
  (ha:PySem.W.findIn K (.ref C) name=some none) (hv:mA name=some v) (hv':PySem.W.handedIn v=true) (h:Q v { s with toks:=s.toks + 1 }) :
  wpAny (model prog w) A (getAttr (.ref x) name expr) Q E s:=by
 obtain ⟨od,J,hl⟩:=I.look
 exact PySem.W.get_value X J (PySem.W.plainGet_of hg).1 (PySem.W.findObj_own hh ha rfl (by rw [hl,hv])) hv' h
theorem Qmf {pl:Sem Bool} {Q:Value × List Value->Shared->Prop} (X:K.In s.heap) (I:ObjM s.heap x dx C mA) (hg:PySem.W.plainGet K C name=true)
  (hf:PySem.W.findIn K (.ref C) name=some (some (.ref f))) (ht:PySem.W.isFn K (.ref f)=true) (hv:mA name=none) (h:Q (.ref f,[.ref x]) s) :
  wpAny (model prog w) A (getMethod (.ref x) name pl) Q E s:=by
 obtain ⟨od,J,hl⟩:=I.look
 exact PySem.W.method_fn X J (PySem.W.plainGet_of hg).1 (PySem.W.plainGet_of hg).2 hf (beq_iff_eq.mp ht) (by show (PySem.W.lookIn name od).map (·.isSome)=some false;rw [hl,hv];rfl) h
theorem Qpt {ns:List Str} {Q:Unit->Shared->Prop} (X:K.In s.heap) (I:ObjM s.heap x dx C mA)
  (hs:PySem.W.findIn K (.ref C) "__setattr__"=some (some (.builtin "object.__setattr__"))) (hp:PySem.W.plainOver K C=true) (ht:PySem.W.takerIn K C name=some none) (hh:PySem.W.hasDictIn K C=true)
  (hw:PySem.Within mA ns) (hsz:ns.length<=sizeLine)
  (h:∀ h',ObjM h' x dx C (fun y=>if y=name then some v else mA y)->Heap.SameBut dx s.heap h'->Q () { s with heap:=h',toks:=s.toks + 2 }) :
  wpAny (model prog w) A (setAttr (.ref x) name v) Q E s:=by
 obtain ⟨od,J,hl⟩:=I.look
 refine PySem.W.set_plain X J hs (PySem.W.osa_open (s:={ s with toks:=s.toks + 1 }) (r:=none) X J hp ht fun b=>?_)
 obtain ⟨cd,hc,hd'⟩:=PySem.W.any_some hh
 have hx:s.heap.get? x=some ⟨.ref C,some dx,.plain,#[]⟩:=I.obj
 refine jQ (jV (jQ (jQ (wpAny_loadPart hx (jQ (PySem.W.Looks.here (s:={ s with toks:=s.toks + 1 }) (PySem.W.looks_clsIn X hc) ?_))))))
 rw [hd']
 refine jV (a:=some dx) (jQ (jV (jQ ?_)))
 refine wpAny_nsSet1 (s:={ s with toks:=s.toks + 1 }) I.ns fun h' hn2 hs2=>?_
 obtain ⟨oD,esD,epD,hoD,hdD,hcD⟩:=hn2.count (PySem.Within.cons name v hw)
 refine jQ (wpAny_lookBehind hoD (by rw [hdD];exact pastItsLine_dict (jQd hcD (by rw [xW];omega))) ?_)
 exact jV (h _ ⟨(hs2.2 _ (Ne.symm I.ne)).trans I.obj,hn2,I.ne⟩ hs2)
theorem Qmg {R:Result->Shared->Prop} {vs:List Value} {kw:List (Str × Value)} (X:K.In s.heap) (hm:PySem.W.makesIn K C=true)
  (hi:PySem.W.findIn K (.ref C) "__init__"=some (some (.ref f))) (hf:PySem.W.typeIn K (.ref f)=some (.type "function"))
  (h:codeAny (model prog w) (A.under (.builtin "type.__call__" ⟨.ref C :: vs,kw⟩)) (.call (.ref f) ⟨.ref (s.heap.objs.size + 1) :: vs,kw⟩) (PySem.W.InitBack (s.heap.objs.size + 1) R)
   { s with heap:=(s.heap.push PySem.W.emptyDict).push (PySem.W.instObj C s.heap.objs.size) }) :
  codeAny (model prog w) A (.call (.ref C) ⟨vs,kw⟩) R s:=by
 obtain ⟨hh,g,d,t,os⟩:=s
 exact PySem.W.make_core (PySem.W.makes_of X hm) (PySem.W.looks_findIn X hi) (fun self=>PySem.W.bind_fn X self hf) (.inl rfl) h
end
def putF (f:Str) (v:V):List (Str × V)->List (Str × V)
 | []=>[(f,v)]
 | (g,x) :: r=>if g=f then (g,v) :: r else (g,x) :: putF f v r
theorem Wh (f g:Str) (v:V):∀ fs:List (Str × V),(putF f v fs).lookup g=if g=f then some v else fs.lookup g
 | []=>by
  show List.lookup g [(f,v)]=_
  by_cases h:g=f
  ·have hb:(g == f)=true:=beq_iff_eq.mpr h
   simp only [List.lookup,hb,if_pos h]
  ·have hb:(g == f)=false:=beq_eq_false_iff_ne.mpr h
   simp only [List.lookup,hb,if_neg h]
 | (k,x) :: r=>by
  have ih:=Wh f g v r
  rw [show putF f v ((k,x) :: r)=(if k=f then (k,v) :: r else (k,x) :: putF f v r) from rfl]
  by_cases hk:k=f
  ·rw [if_pos hk]
   by_cases h:g=k
   ·have hb:(g == k)=true:=beq_iff_eq.mpr h
    simp only [List.lookup,hb,if_pos (h.trans hk)]
   ·have hb:(g == k)=false:=beq_eq_false_iff_ne.mpr h
    simp only [List.lookup,hb,if_neg (fun e:g=f=>h (e.trans hk.symm))]
  ·rw [if_neg hk]
   by_cases h:g=k
   ·have hb:(g == k)=true:=beq_iff_eq.mpr h
    simp only [List.lookup,hb,if_neg (fun e:g=f=>hk (h.symm.trans e))]
   ·have hb:(g == k)=false:=beq_eq_false_iff_ne.mpr h
    simp only [List.lookup,hb]
    exact ih
theorem Wi (f:Str) (v:V):∀ fs:List (Str × V),f ∈ (putF f v fs).map (·.1)/\∀ g,g ∈ fs.map (·.1)->g ∈ (putF f v fs).map (·.1)
 | []=>⟨by simp [putF],fun g h=>by simp at h⟩
 | (k,x) :: r=>by
  obtain ⟨i1,i2⟩:=Wi f v r
  rw [show putF f v ((k,x) :: r)=(if k=f then (k,v) :: r else (k,x) :: putF f v r) from rfl]
  by_cases hk:k=f
  ·rw [if_pos hk]
   subst hk
   exact ⟨by simp,fun g h=>by simpa using h⟩
  ·rw [if_neg hk]
   refine ⟨?_,fun g h=>?_⟩
   ·rw [yQ]
    exact yZ _ i1
   ·rw [yQ] at h ⊢
    rcases yX.mp h with e | e
    ·exact yX.mpr (.inl e)
    ·exact yZ _ (i2 g e)
theorem Kf (f:Str) (v:V):∀ fs:List (Str × V),(putF f v fs).length<=fs.length + 1
 | []=>by simp [putF]
 | (k,x) :: r=>by
  have ih:=Kf f v r
  rw [show putF f v ((k,x) :: r)=(if k=f then (k,v) :: r else (k,x) :: putF f v r) from rfl]
  by_cases hk:k=f
  ·rw [if_pos hk,xW,xW];omega
  ·rw [if_neg hk,xW,xW];omega
theorem RelO.some_of {v:V} {o:Option Value} (r:RelO (some v) o):∃ u,o=some u/\RelV v u:=by
 cases o with
 | none=>exact (show False from r).elim
 | some u=>exact ⟨u,rfl,r⟩
theorem RelO.none_of {o:Option Value} (r:RelO none o):o=none:=by
 cases o with
 | none=>rfl
 | some u=>exact (show False from r).elim
theorem Qjg {v:V} {u:Value} (r:RelV v u):PySem.W.handedIn u=true:=by
 cases v with
 | non=>cases (show u=Value.none from r);rfl
 | bl b=>cases (show u=Value.bool b from r);rfl
 | int i=>obtain ⟨t,e⟩:=(show ∃ t,u=Value.int i t from r);cases e;rfl
 | str x=>obtain ⟨t,e⟩:=(show ∃ t,u=Value.str x t from r);cases e;rfl
 | byt b=>obtain ⟨t,e⟩:=(show ∃ t,u=Value.bytes b t from r);cases e;rfl
 | flt b=>obtain ⟨t,e⟩:=(show ∃ t,u=Value.float b t from r);cases e;rfl
 | ref a=>cases (show u=Value.ref a from r);rfl
 | ty n=>cases (show u=Value.type n from r);rfl
section
variable {P:Program} {w:World} {H:Hp} {h:Heap} {a C dx:Addr} {fs:List (Str × V)}
theorem Qes (hok:HOk P w H h) (e:H a=some (.ins C dx fs)):∃ mA,ObjM h a dx C mA/\(∀ f,RelO (fs.lookup f) (mA f))/\PySem.Within mA (fs.map (·.1))/\fs.length<=1000/\H dx=some (.own a):=by
 obtain ⟨d,z,ne,ob,mA,n,r,q⟩:=(show ObjOk P w H h a (.ins C dx fs) from hok a _ e)
 exact ⟨mA,⟨ob,n,ne⟩,r,q,z,d⟩
end
structure Cls (K:Fg) (C:Addr):Prop where
 pg:PySem.W.plainGet K C Str.empty=true
 hd:PySem.W.hasDictIn K C=true
 po:PySem.W.plainOver K C=true
 sa:PySem.W.findIn K (.ref C) "__setattr__"=some (some (.builtin "object.__setattr__"))
theorem Cls.get {K:Fg} {C:Addr} (c:Cls K C) (f:Str):PySem.W.plainGet K C f=true:=c.pg
def NoAttr (K:Fg) (C:Addr) (f:Str):Prop:=PySem.W.findIn K (.ref C) f=some none
theorem NoAttr.taker {K:Fg} {C:Addr} {f:Str} (n:NoAttr K C f):PySem.W.takerIn K C f=some none:=by
 unfold PySem.W.takerIn
 rw [show PySem.W.findIn K (.ref C) f=some none from n]
 rfl
structure Meth (K:Fg) (C:Addr) (m:Str) (f:Addr):Prop where
 at_:PySem.W.findIn K (.ref C) m=some (some (.ref f))
 fn:PySem.W.isFn K (.ref f)=true
 kp:PySem.W.keepIn K (.ref f)=true
section
variable {X:Cx} {pins:List (Addr × Obj)} {σ:St} {H:Hp} {s:Shared} {a C dx:Addr} {fs:List (Str × V)} {f:Str} {v:V} {A:Around} {E:Value->Shared->Prop}
theorem Qhx {b:Bool} {Q:Value->Shared->Prop} (I:Inv X pins σ H s) (e:H a=some (.ins C dx fs)) (c:Cls X.K C) (n:NoAttr X.K C f) (l:fs.lookup f=some v)
  (h:∀ u s',Inv X pins σ H s'->RelV v u->Q u s'):wpAny (model X.prog X.w) A (getAttr (.ref a) f b) Q E s:=by
 obtain ⟨mA,O,r,_,_,_⟩:=Qes I.hok e
 obtain ⟨u,hu,ru⟩:=RelO.some_of (v:=v) (o:=mA f) (by rw [← l];exact r f)
 exact get_map I.kIn O (c.get f) c.hd n hu (Qjg ru) (h u _ (I.tok _) ru)
theorem Qas {m:Str} {g:Addr} {pl:Sem Bool} {Q:Value × List Value->Shared->Prop} (I:Inv X pins σ H s) (e:H a=some (.ins C dx fs)) (c:Cls X.K C) (k:Meth X.K C m g) (l:fs.lookup m=none)
  (h:Q (.ref g,[.ref a]) s):wpAny (model X.prog X.w) A (getMethod (.ref a) m pl) Q E s:=by
 obtain ⟨mA,O,r,_,_,_⟩:=Qes I.hok e
 have hn:mA m=none:=RelO.none_of (by rw [← l];exact r m)
 exact Qmf I.kIn O (c.get m) k.at_ k.fn hn h
theorem Qhy {y:V} {u:Value} {Q:Unit->Shared->Prop} (I:Inv X pins σ H s) (e:H a=some (.ins C dx fs)) (c:Cls X.K C) (n:NoAttr X.K C f) (hl:fs.length < 1000) (ry:RelV y u)
  (h:∀ s',Inv X pins σ (upd H a (.ins C dx (putF f y fs))) s'->Q () s'):wpAny (model X.prog X.w) A (setAttr (.ref a) f u) Q E s:=by
 obtain ⟨mA,O,r,wi,_,ho⟩:=Qes I.hok e
 have hz:(fs.map (·.1)).length<=sizeLine:=by rw [jX,sizeLine_eq];omega
 refine Qpt I.kIn O c.sa c.po n.taker c.hd wi hz fun h' O' sb=>h _ ?_
 have hd:∃ o,h'.get? dx=some o:=let ⟨o,_,_,e',_⟩:=O'.ns;⟨o,e'⟩
 refine I.write (x:=a) (e:=dx) (by rw [e];exact True.intro) (.inr ho) (fun b q hb z=>(sb.2 b hb).trans z) hd ?_
 refine ⟨by rw [Qi O.ne];exact ho,?_,O.ne,O'.obj,_,O'.ns,fun g=>?_,fun g hg=>?_⟩
 ·have:=Kf f y fs;omega
 ·show RelO ((putF f y fs).lookup g) (if g=f then some u else mA g)
  rw [Wh]
  by_cases q:g=f
  ·rw [if_pos q,if_pos q];exact ry
  ·rw [if_neg q,if_neg q];exact r g
 ·by_cases q:g=f
  ·rw [q];exact (Wi f y fs).1
  ·refine (Wi f y fs).2 g (wi g fun z=>hg ?_)
   show (if g=f then some u else mA g)=none
   rw [if_neg q];exact z
theorem Inv.made (I:Inv X pins σ H s):Inv X pins σ (upd (upd H s.heap.objs.size (.own (s.heap.objs.size + 1))) (s.heap.objs.size + 1) (.ins C s.heap.objs.size []))
  { s with heap:=(s.heap.push PySem.W.emptyDict).push (PySem.W.instObj C s.heap.objs.size) }:=by
 have e1:(s.heap.push PySem.W.emptyDict).get? s.heap.objs.size=some PySem.W.emptyDict:=yK s.heap rfl
 have e2:((s.heap.push PySem.W.emptyDict).push (PySem.W.instObj C s.heap.objs.size)).get? (s.heap.objs.size + 1)=some (PySem.W.instObj C s.heap.objs.size):=by
  have:=yK (s.heap.push PySem.W.emptyDict) (o:=PySem.W.instObj C s.heap.objs.size) rfl
  rwa [jZd] at this
 have e3:(s.heap.push PySem.W.emptyDict).Ns s.heap.objs.size (fun _=>none):=⟨PySem.W.emptyDict,#[],_,e1,rfl,(fun e he=>absurd he (by simp)),fun _=>rfl⟩
 have I1:=I.laid (a:=s.heap.objs.size) (o:=.own (s.heap.objs.size + 1)) (h':=s.heap.push PySem.W.emptyDict) (t':=s.toks) (fun b u q=>jW _ q) (jK _) ⟨_,e1⟩
 refine I1.laid (a:=s.heap.objs.size + 1) (o:=.ins C s.heap.objs.size []) (t':=s.toks) (fun b u q=>jW _ q) (Nat.le_of_eq (jZd _ _)) ?_
 have ne:s.heap.objs.size ≠ s.heap.objs.size + 1:=xY (Nat.lt_succ_self _)
 refine ⟨by rw [Qi ne,upd_same],jXe _,ne,e2,fun _=>none,(Heap.Ns1.of_empty e3).at fun o q=>jW _ q,fun _=>True.intro,fun y hy=>absurd rfl hy⟩
theorem Qpu {prog:Program} {w:World} {env:Env} {e:Expr} {f:Str} {pos:Pos} {s:Shared} {Q:Value->Shared->Prop} (hb:attributeBase e f env (eval e env)=eval e env)
  (h:wpAny (model prog w) A (eval e env) (fun o s₁=>wpAny (model prog w) A (getAttr o f true) Q E s₁) E s):wpAny (model prog w) A (eval (.Attribute e f pos) env) Q E s :=
 Attribute_any_ h (by rw [arm_eval_Attribute,hb])
end
def tFld (K:Fg) (ta:TE) (f:Str):TE:=fun σ H Q=>ta σ H fun x H1=>∃ a C dx fs v,x=.ref a/\H1 a=some (.ins C dx fs)/\Cls K C/\NoAttr K C f/\fs.lookup f=some v/\Q v H1
def sFld (K:Fg) (ta tv:TE) (f:Str):TS:=fun D σ H=>tv σ H fun y H1=>ta σ H1 fun x H2=>∃ a C dx fs,x=.ref a/\H2 a=some (.ins C dx fs)/\Cls K C/\NoAttr K C f/\fs.length < 1000 /\
 D.nx σ (upd H2 a (.ins C dx (putF f y fs)))
section
variable {X:Cx} {o e value:Expr} {f:Str} {pos pos':Pos} {ta tv:TE}
theorem Yi (he:PE X e ta) (hb:attributeBase e f X.env (eval e X.env)=eval e X.env):PE X (.Attribute e f pos) (tFld X.K ta f):=by
 intro pins s σ H Q I h
 refine Qpu hb (thn (he pins s σ H _ I h) fun u s1 hqP=>?_)
 obtain ⟨x,H1,I1,rx,a,C,dx,fs,v,ex,ea,c,n,l,q⟩:=hqP
 subst ex
 obtain rfl:u=Value.ref a:=rx
 exact Qhx I1 ea c n l fun u' s2 I2 ru=>⟨v,H1,I2,ru,q⟩
theorem Wj (ha:PE X o ta) (hv:PE X value tv) (hs:swapsWith value (some (.Attribute o f pos')) pos.line X.env=pure false):PS X (.Assign [.Attribute o f pos'] value pos) (sFld X.K ta tv f):=by
 intro pins s σ H D I h
 refine plainObj_wpAny_Assign_Attribute (thn (hv pins s σ H _ I h) fun u s1 ⟨y,H1,I1,ry,q⟩=>thn (ha pins s1 σ H1 _ I1 q) fun ov s2 hqP=>?_) hs
 obtain ⟨x,H2,I2,rx,a,C,dx,fs,ex,ea,c,n,l,q2⟩:=hqP
 subst ex
 obtain rfl:ov=Value.ref a:=rx
 exact Qhy I2 ea c n l ry fun s3 I3=>⟨σ,_,I3,q2⟩
end
structure Room (k:Nat) (A:Around):Prop where
 hd:A.handled=none
 dp:A.depth + 3 * k + 5 < recursionLimit
 un:A.units + 16 * k + 200 < cLine
theorem Room.mono {j k:Nat} {A:Around} (r:Room k A) (h:j<=k):Room j A:=⟨r.hd,by have:=r.dp;omega,by have:=r.un;omega⟩
theorem Room.deeper {k:Nat} {A:Around} (r:Room (k + 1) A) (env:Env):Room k (A.deeper env) :=
 ⟨r.hd,by have:=r.dp;show A.depth + 1 + 3 * k + 5 < _;omega,by have:=r.un;show A.units + 3 + 16 * k + 200 < _;omega⟩
theorem Qhz {A:Around} {C:Addr} {us:List Value} {kw:List (Str × Value)}:(A.under (.builtin "type.__call__" ⟨.ref C :: us,kw⟩)).depth=A.depth + 1:=by
 first | rfl | simp [Around.under,Code.weight,Code.isCreation,Code.isGuard,Code.isCaller,Code.frames,Code.isFrame,guardIds]
theorem Qia {A:Around} {C:Addr} {us:List Value} {kw:List (Str × Value)}:(A.under (.builtin "type.__call__" ⟨.ref C :: us,kw⟩)).units=A.units + 1:=by
 first | rfl | simp [Around.under,Code.cUnits,Code.frames,Code.isFrame]
theorem Room.make {k:Nat} {A:Around} (r:Room (k + 1) A) (C:Addr) (us:List Value) (kw:List (Str × Value)):Room k (A.under (.builtin "type.__call__" ⟨.ref C :: us,kw⟩)) :=
 ⟨r.hd,by have:=r.dp;rw [Qhz];omega,by have:=r.un;rw [Qia];omega⟩
theorem Room.depth {k:Nat} {A:Around} (r:Room k A):A.depth < recursionLimit:=by have:=r.dp;omega
theorem Room.units {k:Nat} {A:Around} (r:Room k A):A.units + 64 < cLine:=by have:=r.un;omega
def tNil:TA:=fun _ H Q=>Q [] H
def tCons (ta:TE) (tr:TA):TA:=fun σ H Q=>ta σ H fun x H1=>tr σ H1 fun xs H2=>Q (x :: xs) H2
section
variable {X:Cx} {e:Expr} {es:List Expr} {te:TE} {t:TA} {pos:Pos}
theorem Qe:PA X [] tNil:=fun _ _ _ _ H Q I h=>Calls.spliced_nil ⟨[],H,I,.nil,h⟩
theorem Qa (ha:PE X e te) (hr:PA X es t) (hs:autoParam (starEach (e :: es) X.env=(false,eval e X.env) :: starEach es X.env) L2.aRfl._auto_1):PA X (e :: es) (tCons te t):=by
 intro pos pins s σ H Q I h
 rw [hs]
 show wpAny _ _ (spliced ((false,eval e X.env) :: backTo pos (starEach es X.env))) _ _ s
 refine Calls.spliced_cons (thn (ha pins s σ H _ I h) fun u s1 hqP=>?_)
 obtain ⟨x,H1,I1,r1,q1⟩:=hqP
 exact thn (hr pos pins s1 σ H1 _ I1 q1) fun us s2 ⟨xs,H2,I2,r2,q2⟩=>⟨x :: xs,H2,I2,.cons r1 r2,q2⟩
def tTup (t:TA):TE:=fun σ H Q=>t σ H fun xs H1=>xs.length<=sizeLine/\∀ p,H1 p=none->Q (.ref p) (upd H1 p (.tup xs))
def tLst (t:TA):TE:=fun σ H Q=>t σ H fun xs H1=>xs.length<=sizeLine/\∀ p,H1 p=none->Q (.ref p) (upd H1 p (.lst xs))
theorem Xd {x1} (h:PA X es t):PE X (.Tuple es x1 pos) (tTup t):=by
 intro pins s σ H Q I hq
 refine wpAny_Tuple_spliced (thn (h pos pins s σ H _ I hq) fun us s1 ⟨xs,H1,I1,r,z,q⟩=>⟨by rw [← r.length];exact z,?_⟩)
 have hf:H1 s1.heap.objs.size=none:=I1.hok.fresh (jK _)
 refine ⟨.ref s1.heap.objs.size,upd H1 s1.heap.objs.size (.tup xs),I1.laid (t':=s1.toks) (fun b u e=>jW _ e) (jK _) ?_,rfl,q _ hf⟩
 exact ⟨z,us,r,⟨_,yK _ rfl,rfl,_,rfl⟩⟩
theorem Xw (h:PA X es t):PE X (.List es pos) (tLst t):=by
 intro pins s σ H Q I hq
 refine wpAny_List_spliced (thn (h pos pins s σ H _ I hq) fun us s1 ⟨xs,H1,I1,r,z,q⟩=>⟨by rw [← r.length];exact z,?_⟩)
 have hf:H1 s1.heap.objs.size=none:=I1.hok.fresh (jK _)
 refine ⟨.ref s1.heap.objs.size,upd H1 s1.heap.objs.size (.lst xs),I1.laid (t':=s1.toks) (fun b u e=>jW _ e) (jK _) ?_,rfl,q _ hf⟩
 exact ⟨z,us,0,r,yK _ rfl⟩
end
abbrev Sp:=List V->Hp->VK->XK->Prop
abbrev CXT:=List Env->Hp->Shared->XK->Value->Shared->Prop
structure Env0 (P:Program) (w:World) (K:Fg) (mg:Str->Option Value) (base:Heap) (A:Around) (outer:List Env) (s:Shared) (H:Hp):Prop where
 frames:A.frames=some outer
 mod:Mod K mg base
 bs:∀ b o,base.get? b=some o->s.heap.get? b=some o/\H b=none
 bsz:base.objs.size<=s.heap.objs.size
 funs:s.heap.FunFrames base outer
 frf:∀ b ∈ frs outer,H b=none
 hok:HOk P w H s.heap
 bare:AllBare s.gens
def CE (outer:List Env) (P:Program) (w:World) (H:Hp) (s:Shared) (Q:VK) (u:Value) (s':Shared):Prop :=
 ∃ v H',s'.os=s.os/\AllBare s'.gens/\Un (frs outer) [] H H' s.heap s'.heap/\HOk P w H' s'.heap/\RelV v u/\Q v H'
def CR (CX:CXT) (outer:List Env) (P:Program) (w:World) (H:Hp) (s:Shared) (Q:VK) (E:XK) (r:Result) (s':Shared):Prop :=
 match r with
 | .ok (.ret u)=>CE outer P w H s Q u s'
 | .ok _=>False
 | .error e=>CX outer H s E e s'
structure FnOk (P:Program) (w:World) (K:Fg) (mg:Str->Option Value) (base:Heap) (CX:CXT) (k:Nat) (f:Addr) (fd:FuncData) (ps:List Str) (sp:Sp):Prop where
 len:∀ vs H Q E,sp vs H Q E->vs.length=ps.length
 run:∀ (A:Around) (outer:List Env) (s:Shared) (H:Hp) (args:Args) (us:List Value) (vs:List V) (Q:VK) (E:XK),Room k A->Env0 P w K mg base A outer s H->BindsTo s fd args (ps.zip us)->Vals vs us->sp vs H Q E ->
  codeAny (model P w) A (.call (.ref f) args) (CR CX outer P w H s Q E) s
theorem Env0.make {P:Program} {w:World} {K:Fg} {mg:Str->Option Value} {base:Heap} {A:Around} {outer:List Env} {s:Shared} {H:Hp} (e:Env0 P w K mg base A outer s H) (C:Addr) (us:List Value) (kw:List (Str × Value)) :
  Env0 P w K mg base (A.under (.builtin "type.__call__" ⟨.ref C :: us,kw⟩)) outer s H:=⟨by first | exact e.frames | (simpa [Around.under,Code.envs,Code.isFrame,pushEnvs] using e.frames),e.mod,e.bs,e.bsz,e.funs,e.frf,e.hok,e.bare⟩
section
variable {X:Cx} {pins:List (Addr × Obj)} {σ:St} {H:Hp} {s s':Shared}
theorem Inv.env0 (I:Inv X pins σ H s):Env0 X.prog X.w X.K X.mg X.base X.A X.stack s H :=
 ⟨I.ok.frames,I.ok.mod,I.bs,jQd I.ok.bsz I.sz,I.stack,I.stkFree,I.hok,I.bare⟩
theorem Inv.after {Q:VK} {u:Value} (I:Inv X pins σ H s) (h:CE X.stack X.prog X.w H s Q u s'):EP X pins σ Q u s':=by
 obtain ⟨v,H',os,bare,un,hok,r,q⟩:=h
 obtain ⟨hh,g,d,t,os'⟩:=s'
 obtain rfl:os'=s.os:=os
 exact ⟨v,H',I.call (h':=hh) (g':=g) (d':=d) (t':=t) (ch:=[]) un hok bare (fun b z=>absurd z (by simp)),r,q⟩
end
def tCall (sp:Sp) (dvs:List V) (E:XK) (t:TA):TE:=fun σ H Q=>t σ H fun vs H1=>sp (vs ++ dvs) H1 Q E
def tMeth (C:Addr) (m:Str) (sp:Sp) (dvs:List V) (E:XK) (ta:TE) (t:TA):TE:=fun σ H Q=>ta σ H fun x H1=>∃ a dx fs,x=.ref a/\H1 a=some (.ins C dx fs)/\fs.lookup m=none /\
 t σ H1 fun vs H2=>sp (x :: (vs ++ dvs)) H2 Q E
def tMake (C:Addr) (sp:Sp) (dvs:List V) (E:XK) (t:TA):TE:=fun σ H Q=>t σ H fun vs H1=>∀ x dx,H1 x=none->H1 dx=none->dx ≠ x ->
 sp (.ref x :: (vs ++ dvs)) (upd (upd H1 dx (.own x)) x (.ins C dx [])) (fun v H2=>v=.non/\Q (.ref x) H2) E
def Binds (K:Fg) (fd:FuncData) (ps:List Str) (ds:List Value):Prop :=
 ∀ (s:Shared) (us:List Value),K.In s.heap->(us ++ ds).length=ps.length->BindsTo s fd ⟨us,[]⟩ (ps.zip (us ++ ds))
theorem Binds.all {K:Fg} {fd:FuncData} {ps:List Str} (h:∀ us:List Value,us.length=ps.length->bindArgs fd ⟨us,[]⟩=pure (ps.zip us)):Binds K fd ps []:=fun s us _ hl=>by
 rw [zZ] at hl ⊢
 exact .of_eq (h us hl)
def Wk (CX:CXT) (X:Cx) (E:XK):Prop:=∀ (pins:List (Addr × Obj)) (σ:St) (H:Hp) (s:Shared) (e:Value) (s':Shared),Inv X pins σ H s->CX X.stack H s E e s'->X.xe e s'
section
variable {X:Cx} {CX:CXT} {k:Nat} {f C:Addr} {fd:FuncData} {ps:List Str} {sp:Sp} {dvs:List V} {ds:List Value} {E:XK} {x m:Str} {p pos apos:Pos} {e o:Expr} {es:List Expr} {ta:TE} {t:TA}
theorem Qjh {pins:List (Addr × Obj)} {σ:St} {H:Hp} {s:Shared} {Q:VK} {us:List Value} {vs:List V} (F:FnOk X.prog X.w X.K X.mg X.base CX k f fd ps sp) (hr:Room k X.A) (hb:Binds X.K fd ps ds) (hd:Vals dvs ds) (hx:Wk CX X E)
  (I:Inv X pins σ H s) (r:Vals vs us) (h:sp (vs ++ dvs) H Q E):wpAny (model X.prog X.w) X.A (call (.ref f) us) (EP X pins σ Q) X.xe s:=by
 have r2:Vals (vs ++ dvs) (us ++ ds):=r.append hd
 have hl:(us ++ ds).length=ps.length:=by rw [← r2.length];exact F.len _ _ _ _ h
 refine wpAny_call (codeAny_mono (F.run X.A X.stack s H ⟨us,[]⟩ (us ++ ds) (vs ++ dvs) Q E hr I.env0 (hb s us I.kIn hl) r2 h) fun r s' hq=>?_)
 cases r with
 | error e=>exact hx pins σ H s e s' I hq
 | ok fl =>
  cases fl with
  | ret u=>exact I.after hq
  | next=>exact False.elim hq
  | brk=>exact False.elim hq
  | cont=>exact False.elim hq
theorem Qpv (F:FnOk X.prog X.w X.K X.mg X.base CX k f fd ps sp) (hr:Room k X.A) (hg:Gl X x) (hm:X.mg x=some (.ref f)) (hk:PySem.W.keepIn X.K (.ref f)=true) (hb:Binds X.K fd ps ds) (hd:Vals dvs ds) (hx:Wk CX X E)
  (ha:PA X (e :: es) t) (hdb:autoParam ((x == ("__debug__":Str))=false) L2.aDec._auto_1) (he:autoParam (starEach (e :: es) X.env=(false,eval e X.env) :: starEach es X.env) L2.aRfl._auto_1) (hpl:autoParam ((backTo pos (starEach es X.env)).any (·.1)=false) L2.aRfl._auto_1) :
  PE X (.Call (.Name x p) (e :: es) [] pos) (tCall sp dvs E t):=by
 intro pins s σ H Q I h
 refine wpAny_Call_Name_kw (Qer I hg hm ?_ hdb)
 refine PySem.W.callWith_K (h₀:=X.base) I.ok.mod.kin hk (thn (ha pos pins s σ H _ I h) fun us s1 ⟨vs,H1,I1,r,q⟩=>⟨I1.kIn,?_⟩) he hpl
 exact Qjh F hr hb hd hx I1 r q
theorem Yj {pl:Sem Bool} (he:PE X o ta) (c:Cls X.K C) (hm:Meth X.K C m f) (F:FnOk X.prog X.w X.K X.mg X.base CX k f fd ps sp) (hr:Room k X.A) (hb:Binds X.K fd ps ds) (hd:Vals dvs ds) (hx:Wk CX X E) (ha:PA X (e :: es) t)
  (hst:autoParam (starEach (e :: es) X.env=(false,eval e X.env) :: starEach es X.env) L2.aRfl._auto_1) (hpl:autoParam ((backTo pos (starEach es X.env)).any (·.1)=false) L2.aRfl._auto_1)
  (ht:eval (.Call (.Attribute o m apos) (e :: es) [] pos) X.env=(do
   let ov ← eval o X.env
   standAt apos.atName
   let (f,first) ← holding [ov] (getMethod ov m pl)
   callWith pos f first (backTo pos (starEach (e :: es) X.env)) (backToKw pos (keywordEach [] X.env))):=by rfl) :
  PE X (.Call (.Attribute o m apos) (e :: es) [] pos) (tMeth C m sp dvs E ta t):=by
 intro pins s σ H Q I h
 refine PySem.W.methodCall_KW (pl:=pl) (thn (he pins s σ H _ I h) fun u s1 hqP=>?_) ht
 obtain ⟨x,H1,I1,rx,a,dx,fs,ex,ea,l,q⟩:=hqP
 subst ex
 obtain rfl:u=Value.ref a:=rx
 refine Qas I1 ea c hm l ?_
 refine PySem.W.callWith_K (first:=[.ref a]) (h₀:=X.base) I.ok.mod.kin hm.kp (thn (ha pos pins s1 σ H1 _ I1 q) fun us s2 ⟨vs,H2,I2,r,q2⟩=>⟨I2.kIn,?_⟩) hst hpl
 exact Qjh (us:=.ref a :: us) (vs:=.ref a :: vs) F hr hb hd hx I2 (.cons rfl r) q2
theorem Qbi {pl:Sem Bool} (he:PE X o ta) (c:Cls X.K C) (hm:Meth X.K C m f) (F:FnOk X.prog X.w X.K X.mg X.base CX k f fd ps sp) (hr:Room k X.A) (hb:Binds X.K fd ps ds) (hd:Vals dvs ds) (hx:Wk CX X E)
  (ht:eval (.Call (.Attribute o m apos) [] [] pos) X.env=(do
   let ov ← eval o X.env
   standAt apos.atName
   let (f,first) ← holding [ov] (getMethod ov m pl)
   callWith pos f first (backTo pos (starEach [] X.env)) (backToKw pos (keywordEach [] X.env))):=by rfl) :
  PE X (.Call (.Attribute o m apos) [] [] pos) (tMeth C m sp dvs E ta tNil):=by
 intro pins s σ H Q I h
 refine PySem.W.methodCall_KW (pl:=pl) (thn (he pins s σ H _ I h) fun u s1 hqP=>?_) ht
 obtain ⟨x,H1,I1,rx,a,dx,fs,ex,ea,l,q⟩:=hqP
 subst ex
 obtain rfl:u=Value.ref a:=rx
 refine Qas I1 ea c hm l ?_
 exact PySem.W.callWith_K0 (first:=[.ref a]) I1.kIn hm.kp (Qjh (us:=[.ref a]) (vs:=[.ref a]) F hr hb hd hx I1 (.cons rfl .nil) q)
structure Mk (K:Fg) (C f:Addr):Prop where
 makes:PySem.W.makesIn K C=true
 init:PySem.W.findIn K (.ref C) "__init__"=some (some (.ref f))
 fn:PySem.W.isFn K (.ref f)=true
 kp:PySem.W.keepIn K (.ref C)=true
theorem Qmh {pins:List (Addr × Obj)} {σ:St} {H:Hp} {s:Shared} {Q:VK} {us:List Value} {vs:List V} (M:Mk X.K C f) (F:FnOk X.prog X.w X.K X.mg X.base CX k f fd ps sp) (hr:Room (k + 1) X.A) (hb:Binds X.K fd ps ds) (hd:Vals dvs ds)
  (hx:Wk CX X E) (I:Inv X pins σ H s) (r:Vals vs us)
  (h:∀ x dx,H x=none->H dx=none->dx ≠ x->sp (.ref x :: (vs ++ dvs)) (upd (upd H dx (.own x)) x (.ins C dx [])) (fun v H2=>v=.non/\Q (.ref x) H2) E) :
  wpAny (model X.prog X.w) X.A (call (.ref C) us) (EP X pins σ Q) X.xe s:=by
 have hq:=h (s.heap.objs.size + 1) s.heap.objs.size (I.hok.fresh (Nat.le_succ _)) (I.hok.fresh (jK _)) (xY (Nat.lt_succ_self _))
 have I2:=Inv.made (C:=C) I
 have r2:Vals (V.ref (s.heap.objs.size + 1) :: (vs ++ dvs)) (Value.ref (s.heap.objs.size + 1) :: (us ++ ds)):=.cons rfl (r.append hd)
 have hl:(Value.ref (s.heap.objs.size + 1) :: us ++ ds).length=ps.length:=by
  have e:=r2.length
  rw [F.len _ _ _ _ hq] at e
  exact e.symm
 refine wpAny_call (Qmg (f:=f) I.kIn M.makes M.init (beq_iff_eq.mp M.fn) (codeAny_mono (F.run _ X.stack _ _ ⟨Value.ref (s.heap.objs.size + 1) :: us,[]⟩ (Value.ref (s.heap.objs.size + 1) :: (us ++ ds)) _ _ E (hr.make C us [])
  (I2.env0.make C us []) (hb _ (Value.ref (s.heap.objs.size + 1) :: us) I2.kIn hl) r2 hq) fun r s' hq'=>?_))
 cases r with
 | error e=>exact hx pins σ _ _ e s' I2 hq'
 | ok fl =>
  cases fl with
  | ret u =>
   obtain ⟨v,H',I3,rv,ev,q3⟩:=I2.after hq'
   subst ev
   exact ⟨rv,⟨V.ref (s.heap.objs.size + 1),H',I3,rfl,q3⟩⟩
  | next=>exact False.elim hq'
  | brk=>exact False.elim hq'
  | cont=>exact False.elim hq'
theorem Wl (M:Mk X.K C f) (F:FnOk X.prog X.w X.K X.mg X.base CX k f fd ps sp) (hr:Room (k + 1) X.A) (hg:Gl X x) (hm:X.mg x=some (.ref C)) (hb:Binds X.K fd ps ds) (hd:Vals dvs ds) (hx:Wk CX X E)
  (ha:PA X (e :: es) t) (hdb:autoParam ((x == ("__debug__":Str))=false) L2.aDec._auto_1) (he:autoParam (starEach (e :: es) X.env=(false,eval e X.env) :: starEach es X.env) L2.aRfl._auto_1) (hpl:autoParam ((backTo pos (starEach es X.env)).any (·.1)=false) L2.aRfl._auto_1) :
  PE X (.Call (.Name x p) (e :: es) [] pos) (tMake C sp dvs E t):=by
 intro pins s σ H Q I h
 refine wpAny_Call_Name_kw (Qer I hg hm ?_ hdb)
 refine PySem.W.callWith_K (h₀:=X.base) I.ok.mod.kin M.kp (thn (ha pos pins s σ H _ I h) fun us s1 ⟨vs,H1,I1,r,q⟩=>⟨I1.kIn,?_⟩) he hpl
 exact Qmh M F hr hb hd hx I1 r q
end
structure FnScope (N P:List Str) (sc:Scope):Prop where
 kind:sc.kind=.function
 co:sc.isCoroutine=false
 gen:sc.isGenerator=false
 nd:N.Nodup
 pre:N.take P.length=P
 par:∀ x ∈ P,sc.names.lookup x=some .local\/sc.names.lookup x=some .cell
 nofree:∀ y ∈ sc.names,y.2 ≠ .free
theorem Qcv {kindOf:Str->Option NameKind} {x:Str}:∀ {binds:List (Str × Value)} {m:Str->Option Value},(∀ v,(x,v) ∉ binds)->bindL kindOf binds m x=m x
 | [],_,_=>rfl
 | (n,v) :: r,m,h=>by
  unfold bindL
  rw [Qcv fun w hw=>h w (yZ _ hw)]
  split
  ·have:x ≠ n:=by rintro rfl;exact h v kZ
   simp [this]
  ·rfl
theorem Qcw {kindOf:Str->Option NameKind} {x:Str}:∀ {binds:List (Str × Value)} {m:Str->Option Value},(∀ v,(x,v) ∉ binds)->bindC kindOf binds m x=m x
 | [],_,_=>rfl
 | (n,v) :: r,m,h=>by
  unfold bindC
  rw [Qcw fun w hw=>h w (yZ _ hw)]
  split
  ·rfl
  ·have:x ≠ n:=by rintro rfl;exact h v kZ
   simp [this]
theorem Qcx {kindOf:Str->Option NameKind} {x:Str} {v:Value}:∀ {P:List Str} {vs:List Value} {i:Nat} {m:Str->Option Value},P.Nodup->P[i]?=some x->vs[i]?=some v->kindOf x=some .local ->
  bindL kindOf (P.zip vs) m x=some v
 | [],_,_,_,_,h,_,_=>by simp at h
 | _ :: _,[],_,_,_,_,h,_=>by simp at h
 | p :: P,w :: vs,0,m,nd,h1,h2,hk=>by
  simp at h1 h2;subst h1;subst h2
  show bindL kindOf ((p,w) :: P.zip vs) m p=_
  unfold bindL
  rw [Qcv fun v hv=>(jYc.mp nd).1 (List.of_mem_zip hv).1,if_pos hk]
  simp
 | p :: P,w :: vs,i + 1,m,nd,h1,h2,hk=>by
  show bindL kindOf ((p,w) :: P.zip vs) m x=_
  unfold bindL
  exact Qcx (i:=i) (jYc.mp nd).2 (by simpa using h1) (by simpa using h2) hk
theorem Qcy {kindOf:Str->Option NameKind} {x:Str} {v:Value}:∀ {P:List Str} {vs:List Value} {i:Nat} {m:Str->Option Value},P.Nodup->P[i]?=some x->vs[i]?=some v->kindOf x ≠ some .local ->
  bindC kindOf (P.zip vs) m x=some v
 | [],_,_,_,_,h,_,_=>by simp at h
 | _ :: _,[],_,_,_,_,h,_=>by simp at h
 | p :: P,w :: vs,0,m,nd,h1,h2,hk=>by
  simp at h1 h2;subst h1;subst h2
  show bindC kindOf ((p,w) :: P.zip vs) m p=_
  unfold bindC
  rw [Qcw fun v hv=>(jYc.mp nd).1 (List.of_mem_zip hv).1,if_neg hk]
  simp
 | p :: P,w :: vs,i + 1,m,nd,h1,h2,hk=>by
  show bindC kindOf ((p,w) :: P.zip vs) m x=_
  unfold bindC
  exact Qcy (i:=i) (jYc.mp nd).2 (by simpa using h1) (by simpa using h2) hk
def start (N:List Str) (vs:List V):St:=vs.map some ++ List.replicate (N.length - vs.length) none
def cxOf (CX:CXT) (P:Program) (w:World) (K:Fg) (mg:Str->Option Value) (base:Heap) (N:List Str) (qual:Str) (scope:Scope) (f:Addr) (cd:Value) (A:Around) (outer:List Env) (s:Shared) (H:Hp) (E:XK):Cx where
 prog:=P
 w:=w
 K:=K
 mg:=mg
 base:=base
 A:=A.deeper (envOfC qual scope s.heap.objs.size f cd)
 N:=N
 s₀:=s
 H₀:=H
 env:=envOfC qual scope s.heap.objs.size f cd
 outer:=outer
 stack:=envOfC qual scope s.heap.objs.size f cd :: outer
 ex:=[]
 calm:=true
 fn:=fun _=>true
 pn:=[]
 xe:=fun e s'=>wpAny (model P w) (A.deeper (envOfC qual scope s.heap.objs.size f cd)) (leaving (envOfC qual scope s.heap.objs.size f cd) e) (fun _ s''=>CX outer H s E e s'') (fun e' s''=>CX outer H s E e' s'') s'
theorem Qgc {sc:Scope} {n:Nat} {x:Str} (h:sc.names.lookup x=some .cell):∃ c,(cellsFrom n sc.names []).lookup x=some c:=by
 have q:=PySem.W.cellsFrom_some sc.names n [] (.inl h)
 exact kQa.mp q
theorem Qji {CX:CXT} {P:Program} {w:World} {K:Fg} {mg:Str->Option Value} {base:Heap} {N ps:List Str} {qual:Str} {scope:Scope} {f:Addr} {cd:Value} {A:Around} {outer:List Env} {s s1:Shared} {H:Hp} {E:XK} {us:List Value} {vs:List V}
  (S:FnScope N ps scope) (hd:A.handled=none) (e0:Env0 P w K mg base A outer s H) (hl:vs.length=ps.length) (r:Vals vs us)
  (x:InCallC s s.heap.objs.size (bindL (envOfC qual scope s.heap.objs.size f cd).kindOf (ps.zip us) fun _=>none) (cellsFrom (s.heap.objs.size + 1) scope.names []) (bindC (envOfC qual scope s.heap.objs.size f cd).kindOf (ps.zip us) fun _=>none) s1) :
  Inv (cxOf CX P w K mg base N qual scope f cd A outer s H E) [] (start N vs) H s1:=by
 have hpl:ps.length<=N.length:=by have:=congrArg List.length S.pre;rw [zK] at this;omega
 obtain ⟨h1,tk,rfl,hk⟩:=x.done
 have noA:∀ b:Addr,b ∉ (cxOf CX P w K mg base N qual scope f cd A outer s H E).ex:=fun b z=>absurd (show b ∈ ([]:List Addr) from z) (by simp)
 refine ⟨⟨e0.mod,S.kind,rfl,rfl,jK _,fun y z c h1 h2=>?_,fun y hy=>?_,fun y c _ h=>?_,fun _=>hd,Around.frames_deeper e0.frames,.inr ⟨rfl,rfl⟩,fun b z=>absurd z (noA b),e0.bs,e0.bsz,fun b _ _=>noA b,fun b z=>absurd z (noA b),e0.funs,e0.frf⟩,
  rfl,e0.bare,Un.kept hk,⟨_,x.toInCall.ns,fun i y v h1 h2 h3=>?_⟩,fun y c h=>⟨_,x.cell y c h⟩,e0.hok.fresh (jK _),fun y c h=>?_,fun p hp=>absurd (show p ∈ ([]:List (Addr × Obj)) from hp) (by simp),e0.hok.kept hk,?_⟩
 ·exact name_of_addr x.apart (PySem.mem_of_lookup h1) (PySem.mem_of_lookup h2)
 ·have hy:scope.names.lookup y=some .cell\/scope.names.lookup y=some .free:=hy
  rcases hy with hy | hy
  ·exact Qgc hy
  ·exact absurd rfl (S.nofree _ (PySem.mem_of_lookup hy))
 ·exact Nat.le_of_lt (x.above y c (PySem.mem_of_lookup h))
 ·have hi:i < vs.length:=by
   unfold start at h2
   by_cases hi:i < vs.length
   ·exact hi
   ·rw [List.getElem?_append_right (by simpa using hi)] at h2
    rw [List.getElem?_replicate] at h2
    split at h2 <;> cases h2
  have ha:vs[i]?=some v:=by
   unfold start at h2
   rw [jQc (by simpa using hi),yY] at h2
   cases e:vs[i]? with
   | none=>rw [e] at h2;cases h2
   | some a=>rw [e] at h2;cases h2;rfl
  obtain ⟨u,hu,rv⟩:=r.get ha
  have hp:ps[i]?=some y:=by
   rw [← S.pre,List.getElem?_take_of_lt (by omega)];exact h1
  have ndP:ps.Nodup:=by rw [← S.pre];exact S.nd.sublist (kYd _ _)
  refine ⟨u,rv,?_⟩
  rcases S.par y (kX hp) with k | k
  ·exact .inl ⟨k,Qcx ndP hp hu k⟩
  ·obtain ⟨c,e⟩:=Qgc (n:=s.heap.objs.size + 1) k
   refine .inr ⟨.inl k,c,e,?_⟩
   have q:=x.cell y c e
   rw [Qcy ndP hp hu (by show scope.names.lookup y ≠ _;rw [k];decide)] at q
   exact q
 ·exact e0.hok.fresh (Nat.le_of_lt (x.above y c (PySem.mem_of_lookup h)))
 ·unfold start
  show _=N.length
  rw [jY,jX,List.length_replicate]
  omega
theorem fn_of {CX:CXT} {P:Program} {w:World} {K:Fg} {mg:Str->Option Value} {base:Heap} {k:Nat} {f:Addr} {name qual:Str} {params:Arguments} {body:List Stmt} {scope:Scope} {dV kV doc pm cdv ct oc:Value} {an od:Option Addr}
  {osl:Array (Option Value)} {N ps:List Str} {sp:Sp} (lk:K.lookup f=some ⟨oc,od,.func (PySem.W.fnOf name qual params body scope dV kV doc pm an cdv ct),osl⟩) (hcd:PySem.W.codeIn K cdv qual=true) (S:FnScope N ps scope)
  (len:∀ vs H Q E,sp vs H Q E->vs.length=ps.length)
  (hbody:∀ (A:Around) (outer:List Env) (s:Shared) (H:Hp) (vs:List V) (Q:VK) (E:XK),Room k (A.deeper (envOfC qual scope s.heap.objs.size f cdv))->sp vs H Q E ->
   ∃ t,PSs (cxOf CX P w K mg base N qual scope f cdv A outer s H E) body t/\t { nx:=fun _ H'=>Q .non H',rt:=Q } (start N vs) H) :
  FnOk P w K mg base CX (k + 1) f (PySem.W.fnOf name qual params body scope dV kV doc pm an cdv ct) ps sp:=by
 refine ⟨len,fun A outer s H args us vs Q E hr e0 hb r hsp=>?_⟩
 have hl:=len _ _ _ _ hsp
 have KX:K.In s.heap:=e0.mod.kin.keeps fun b o e=>(e0.bs b o e).1
 have lim:s.heap.NoLimit:=e0.mod.nolimit.keeps fun b o e=>(e0.bs b o e).1
 have hkind:∀ y ∈ ps.zip us,scope.names.lookup y.1=some .local\/(scope.names.lookup y.1=some .cell/\((cellsFrom (s.heap.objs.size + 1) scope.names []).lookup y.1).isSome=true):=fun ⟨n,v⟩ hy=>by
  rcases S.par n (List.of_mem_zip hy).1 with q | q
  ·exact .inl q
  ·exact .inr ⟨q,PySem.W.cellsFrom_some _ _ _ (.inl q)⟩
 refine codeAny_call_function hr.depth (KX _ _ lk) rfl S.co S.gen rfl (PySem.W.codeRec_of KX hcd) (hb _ _ _ _ ?_)
 refine wpAny_newFunctionEnv_cells S.kind hkind fun env he s1 x=>?_
 subst he
 refine ⟨lim.keeps x.toInCall.keep,codeAny_func ?_⟩
 obtain ⟨t,ht,hq⟩:=hbody A outer s H vs Q E (hr.deeper _) hsp
 have I:Inv (cxOf CX P w K mg base N qual scope f cdv A outer s H E) [] (start N vs) H s1:=Qji S hr.hd e0 hl r x
 refine wpAny_mono (ht [] s1 (start N vs) H _ I hq) (fun fl s' hs=>?_) fun e s' hs=>hs
 have fin:∀ {σ':St} {H':Hp} {v:V} {u:Value},Inv (cxOf CX P w K mg base N qual scope f cdv A outer s H E) [] σ' H' s'->RelV v u->Q v H'->CE outer P w H s Q u s' :=
  fun {σ' H' v u} J rv q=>⟨v,H',J.os,J.bare,J.base,J.hok,rv,q⟩
 cases fl with
 | ret u =>
  obtain ⟨v,σ',H',J,rv,q⟩:=hs
  exact fin J rv q
 | next =>
  obtain ⟨σ',H',J,q⟩:=hs
  exact fin (v:=V.non) (u:=Value.none) J rfl q
 | brk =>
  obtain ⟨_,_,_,q⟩:=hs
  exact False.elim q
 | cont =>
  obtain ⟨_,_,_,q⟩:=hs
  exact False.elim q
section
variable {X:Cx} {x:Str} {p pos:Pos} {e:Expr} {es:List Expr} {t:TA} {id T:String} {r:List V->Hp->VK->Prop}
def tCB (r:List V->Hp->VK->Prop) (t:TA):TE:=fun σ H Q=>t σ H fun vs H1=>r vs H1 Q
theorem Qy (hc:Jg X (.builtin id) r) (hg:Gl X x) (hm:X.mg x=none) (hv:bootBuiltins x=some (.builtin id)) (ha:PA X (e :: es) t) (hn:autoParam (x ≠ "__name__") L2.aDec._auto_1) (hdb:autoParam ((x == ("__debug__":Str))=false) L2.aDec._auto_1)
  (he:autoParam (starEach (e :: es) X.env=(false,eval e X.env) :: starEach es X.env) L2.aRfl._auto_1) (hpl:autoParam ((backTo pos (starEach es X.env)).any (·.1)=false) L2.aRfl._auto_1):PE X (.Call (.Name x p) (e :: es) [] pos) (tCB r t):=by
 intro pins s σ H Q I h
 refine wpAny_Call_Name_kw (Wd I hg hm hv ?_ hn hdb)
 exact PyProof.Rows.callWith_builtin1 (thn (ha pos pins s σ H _ I h) fun us s1 ⟨vs,H1,I1,r1,q1⟩=>hc pins s1 σ H1 vs us Q I1 r1 q1) he hpl
theorem Xf (hc:Jg X (.type T) r) (hg:Gl X x) (hm:X.mg x=none) (hv:bootBuiltins x=some (.type T)) (ha:PA X (e :: es) t) (hn:autoParam (x ≠ "__name__") L2.aDec._auto_1) (hdb:autoParam ((x == ("__debug__":Str))=false) L2.aDec._auto_1)
  (he:autoParam (starEach (e :: es) X.env=(false,eval e X.env) :: starEach es X.env) L2.aRfl._auto_1) (hpl:autoParam ((backTo pos (starEach es X.env)).any (·.1)=false) L2.aRfl._auto_1):PE X (.Call (.Name x p) (e :: es) [] pos) (tCB r t):=by
 intro pins s σ H Q I h
 refine wpAny_Call_Name_kw (Wd I hg hm hv ?_ hn hdb)
 exact PyProof.Rows.callWith_type1 (thn (ha pos pins s σ H _ I h) fun us s1 ⟨vs,H1,I1,r1,q1⟩=>hc pins s1 σ H1 vs us Q I1 r1 q1) he hpl
end
end L2
namespace HT
open PySem PyProof.Rows
section
variable {prog:Program} {w:World} {A:Around} {E:Value->Shared->Prop} {s:Shared}
theorem cat_tup {t b:Addr} {vs ws:List Value} {Q:Value->Shared->Prop} (ht:IsTup s.heap t vs.toArray) (hb:IsTup s.heap b ws.toArray) (hv:vs ≠ [])
  (h1:ws=[]->Q (.ref t) s) (h2:ws ≠ []->Q (.ref s.heap.objs.size) { s with heap:=s.heap.push { cls:=.type "tuple",data:=.seq (vs ++ ws).toArray } })
  (hsz:vs.length + ws.length<=sizeLine):wpAny (model prog w) A (binaryOp .Add (.ref t) (.ref b)) Q E s:=by
 obtain ⟨⟨cls,dd,data,sl⟩,ho,hc,n,hd⟩:=id ht
 obtain ⟨⟨cls2,dd2,data2,sl2⟩,ho2,hc2,n2,hd2⟩:=id hb
 simp only at hc hd hc2 hd2
 subst hc hd hc2 hd2
 have e:vs.toArray ++ ws.toArray=(vs ++ ws).toArray:=by simp
 by_cases hw:ws=[]
 ·exact concat_meets ⟨_,ho,rfl⟩ ⟨_,ho2,rfl⟩ noFill_tuple_add seq_tuple_add PySem.F.slot_tuple_add PySem.F.entry_tuple_add (PySem.F.args_tuple_add_2 _ _)
   (tuple_addW1 t b vs.toArray ws.toArray n n2 dd dd2 sl sl2 (by simpa using hv) (by simp [hw])) ⟨ho,ho2,h1 hw⟩
 ·refine concat_meets ⟨_,ho,rfl⟩ ⟨_,ho2,rfl⟩ noFill_tuple_add seq_tuple_add PySem.F.slot_tuple_add PySem.F.entry_tuple_add (PySem.F.args_tuple_add_2 _ _)
   (tuple_addW2 t b vs.toArray ws.toArray n n2 dd dd2 sl sl2 (by simpa using hv) (by simpa using hw) (by rw [kY,kY];exact hsz)) ⟨ho,ho2,?_⟩
  rw [e]
  exact h2 hw
def sIx (n d:Nat):Option Int->Nat
 | none=>d
 | some v=>if v < 0 then (v + (n:Int)).toNat else min v.toNat n
theorem sIx_none (n d:Nat):sIx n d none=d:=rfl
theorem sIx_nat (n d k:Nat):sIx n d (some (k:Int))=min k n:=by
 show (if (k:Int) < 0 then ((k:Int) + (n:Int)).toNat else min (k:Int).toNat n)=min k n
 rw [if_neg (by omega),jXf]
theorem sIx_le (n d:Nat) (hd:d<=n) (o:Option Int):sIx n d o<=n:=by
 cases o with
 | none=>exact hd
 | some v =>
  show (if v < 0 then (v + (n:Int)).toNat else min v.toNat n)<=n
  by_cases hv:v < 0
  ·rw [if_pos hv];omega
  ·rw [if_neg hv];exact Nat.min_le_right _ _
theorem min_cast (v:Int) (n:Nat) (h:¬ v < 0):min v (n:Int)=((min v.toNat n:Nat):Int):=by
 obtain ⟨k,rfl⟩:=Int.eq_ofNat_of_zero_le (Int.not_lt.mp h)
 rw [jXf]
 rcases Nat.le_total k n with h | h
 ·rw [kYa h,Int.min_eq_left (Int.ofNat_le.mpr h)]
 ·rw [Nat.min_eq_right h,Int.min_eq_right (Int.ofNat_le.mpr h)]
theorem clip_eq (v:Int) (n d:Nat):(if v < 0 then max (v + (n:Int)) 0 else min v (n:Int))=((sIx n d (some v):Nat):Int):=by
 show (if v < 0 then max (v + (n:Int)) 0 else min v (n:Int))=(((if v < 0 then (v + (n:Int)).toNat else min v.toNat n):Nat):Int)
 by_cases hv:v < 0
 ·rw [if_pos hv,if_pos hv];exact (Int.ofNat_toNat _).symm
 ·rw [if_neg hv,if_neg hv];exact min_cast v n hv
theorem Qib (lo hi:Option Int) (n:Nat):Builtin.Slice.sliceAdjust lo hi 1 (n:Int)=(((sIx n 0 lo:Nat):Int),((sIx n n hi:Nat):Int)):=by
 have h1:¬ ((1:Int) < 0):=by omega
 unfold Builtin.Slice.sliceAdjust
 simp only [h1,if_false]
 refine Prod.ext ?_ ?_
 ·cases lo with
  | none=>rfl
  | some v=>exact clip_eq v n 0
 ·cases hi with
  | none=>rfl
  | some v=>exact clip_eq v n n
theorem Qic (i j:Nat):Builtin.Slice.slicePlaces (i:Int) (j:Int) 1=j - i:=by
 unfold Builtin.Slice.slicePlaces
 have h1:(1:Int) > 0:=by omega
 simp only [h1,if_true,Int.ediv_one]
 split <;> omega
theorem Qat {v:Value} {o:Option Int} {Q:Option Int->Shared->Prop} (p:IsPart v o) (h:Q o s):wpAny (model prog w) A (Builtin.Slice.slicePartIndex v) Q E s:=by
 cases p with
 | none=>exact slicePart_none h
 | int i t=>exact slicePart_int h
theorem Jk {sl:Addr} {vl vu:Value} {lo hi:Option Int} {n:Nat} {Q:Int × Int × Nat->Shared->Prop} (hs:s.heap.IsSliceOf sl vl vu .none) (pl:IsPart vl lo) (pu:IsPart vu hi)
  (h:Q (((sIx n 0 lo:Nat):Int),1,sIx n n hi - sIx n 0 lo) s):wpAny (model prog w) A (Builtin.Slice.sliceApplied (.ref sl) (pure (n:Int))) Q E s:=by
 obtain ⟨os,hos,hcs,hds⟩:=id hs
 unfold Builtin.Slice.sliceApplied Builtin.Slice.sliceFields
 refine jQ (jQ (wpAny_field hos hds (x:=vl) rfl (jQ (wpAny_field hos hds (x:=vu) rfl (jQ (wpAny_field hos hds (x:=.none) rfl (jV ?_)))))))
 refine jQ (slicePart_none ?_)
 show wpAny _ _ (if ((1:Int) == 0)=true then _ else _) _ _ s
 rw [if_neg (by decide)]
 refine jQ (Qat pl (jQ (Qat pu (jQ (jV ?_)))))
 show wpAny _ _ (match Builtin.Slice.sliceAdjust lo hi 1 (n:Int) with | (lo,hi)=>pure (lo,(1:Int),Builtin.Slice.slicePlaces lo hi 1)) _ _ s
 rw [Qib lo hi n]
 show wpAny _ _ (pure (((sIx n 0 lo:Nat):Int),(1:Int),Builtin.Slice.slicePlaces ((sIx n 0 lo:Nat):Int) ((sIx n n hi:Nat):Int) 1)) _ _ s
 rw [Qic]
 exact jV h
theorem Qmi (xs:Array Value) (i k:Nat):((List.range k).filterMap fun (m:Nat)=>xs[((i:Int) + (m:Int) * 1).toNat]?).toArray=((xs.toList.drop i).take k).toArray:=by
 have e:(fun (m:Nat)=>xs[((i:Int) + (m:Int) * 1).toNat]?)=fun m=>xs[i + m]?:=by
  funext m
  have:((i:Int) + (m:Int) * 1).toNat=i + m:=by omega
  rw [this]
 rw [e]
 have:=pick_run xs i k
 rw [List.filterMap_map] at this
 have e2:((fun x=>xs[x]?) ∘ fun x=>i + x)=fun m=>xs[i + m]?:=rfl
 rw [e2] at this
 rw [this]
theorem getItem_tuple_cut {t sl:Addr} {items:Array Value} {vl vu:Value} {lo hi:Option Int} {Q:Value->Shared->Prop} (ht:IsTup s.heap t items) (hs:s.heap.IsSliceOf sl vl vu .none) (pl:IsPart vl lo) (pu:IsPart vu hi)
  (hw:¬ (sIx items.size 0 lo=0/\sIx items.size items.size hi=items.size))
  (h:Q (.ref s.heap.objs.size) { s with heap:=s.heap.push { cls:=.type "tuple",data:=.seq ((items.toList.drop (sIx items.size 0 lo)).take (sIx items.size items.size hi - sIx items.size 0 lo)).toArray } })
  (hsz:items.size<=sizeLine):wpAny (model prog w) A (getItem (.ref t) (.ref sl)) Q E s:=by
 have htake:sizeOk (.seq ((items.toList.drop (sIx items.size 0 lo)).take (sIx items.size items.size hi - sIx items.size 0 lo)).toArray):=by
  show ((items.toList.drop (sIx items.size 0 lo)).take (sIx items.size items.size hi - sIx items.size 0 lo)).toArray.size<=sizeLine
  rw [kY,zK,kYf,jZb]
  omega
 have hj:sIx items.size items.size hi<=items.size:=sIx_le _ _ (jK _) hi
 obtain ⟨os,hos,hcs,hds⟩:=id hs
 have hTs:s.TypeIs (.ref sl) "slice":=⟨os,hos,hcs⟩
 unfold getItem
 try with_reducible refine wpAny_holding ?_
 first | refine jQ (jV ?_) | skip
 refine jQ (wpAny_sequenceKey ht.typeIs (by decide) ?_)
 refine jQ (wpAny_callSpecial?_slot (name:=Str.ofString "__getitem__") ht.typeIs PyProof.Rows.slot_tuple_getitem
  (wpAny_call_entry PyProof.Rows.slot_tuple_getitem ht.typeIs entry_tuple_getitem ?_ (args_tuple_getitem _ _)))
 show wpAny _ _ (Builtin.Tuple.tupleItemsOf (.ref t) >>= _) _ _ s
 refine jQ (tupleItemsOf_ ht ?_)
 refine jQ (wpAny_typeOf hTs ?_)
 rw [if_pos (by decide)]
 refine jQ (Jk hs pl pu ?_)
 have hno:¬ ((((sIx items.size 0 lo:Nat):Int) == 0 && (1:Int) == 1 && (sIx items.size items.size hi - sIx items.size 0 lo) == items.size)=true):=by
  intro q
  rw [wV,wV] at q
  have q1:((sIx items.size 0 lo:Nat):Int)=0:=eq_of_beq q.1.1
  have q2:sIx items.size items.size hi - sIx items.size 0 lo=items.size:=eq_of_beq q.2
  exact hw ⟨by omega,by omega⟩
 show wpAny _ _ (if (((sIx items.size 0 lo:Nat):Int) == 0 && (1:Int) == 1 && (sIx items.size items.size hi - sIx items.size 0 lo) == items.size)=true then _ else _) _ _ s
 rw [if_neg hno,Qmi]
 first
  | exact jQ (m:=Builtin.Tuple.tupleExact _) (wpAny_newObj_type (jV ⟨_,rfl,jV h⟩) htake)
  | exact jQ (m:=Builtin.Tuple.tupleExact _) (wpAny_newObj_type (jQ (jV (jV ⟨_,rfl,jV h⟩))) htake)
  | exact jQ (jQ (m:=Builtin.Tuple.tupleExact _) (wpAny_newObj_type (jV (jV ⟨_,rfl,jV h⟩)) htake))
  | exact jQ (jQ (m:=Builtin.Tuple.tupleExact _) (wpAny_newObj_type (jV ⟨_,rfl,jV h⟩) htake))
end
end HT
namespace L2
open PySem PySem.Spec PyProof.Rows
abbrev TO:=St->Hp->(Option Int->Hp->Prop)->Prop
def PO (X:Cx) (e:Option Expr) (t:TO):Prop :=
 ∀ (pins:List (Addr × Obj)) (s:Shared) (σ:St) (H:Hp) (Q:Option Int->Hp->Prop),Inv X pins σ H s->t σ H Q ->
  wpAny (model X.prog X.w) X.A (evalPart e X.env) (fun u s'=>∃ o H',Inv X pins σ H' s'/\IsPart u o/\Q o H') X.xe s
def Qpw:TO:=fun _ H Q=>Q none H
def tPart (t:TE):TO:=fun σ H Q=>t σ H fun x H1=>∃ i,x=.int i/\Q (some i) H1
theorem intsAre_of {ns:List Int}:∀ {us:List Value},Vals (ns.map V.int) us->IntsAre us ns:=by
 induction ns with
 | nil=>intro us r;rw [jJb] at r;cases r;exact .nil
 | cons n ns ih =>
  intro us r
  rw [yQ] at r
  cases r with
  | cons r1 r2 =>
   obtain ⟨t,e⟩:=r1
   subst e
   exact .cons n t (ih r2)
section
variable {X:Cx} {e:Expr} {te:TE} {lo hi:Option Expr} {tl th:TO} {pos p2:Pos}
theorem Zs:PO X none Qpw:=by
 intro pins s σ H Q I h
 rw [evalPart_none]
 exact jV ⟨none,H,I,.none,h⟩
theorem Zt (h:PE X e te):PO X (some e) (tPart te):=by
 intro pins s σ H Q I hw
 rw [evalPart_some]
 refine thn (h pins s σ H _ I hw) fun u s1 hqP=>?_
 obtain ⟨x,H1,I1,r1,q1⟩:=hqP
 obtain ⟨i,rfl,q⟩:=q1
 obtain ⟨t,rfl⟩:=r1
 exact ⟨some i,H1,I1,.int i t,q⟩
def SlR (X:Cx) (r:V->Option Int->Option Int->Hp->VK->Prop):Prop :=
 ∀ (pins:List (Addr × Obj)) (s:Shared) (σ:St) (H:Hp) (x:V) (v vl vu:Value) (lo hi:Option Int) (sl:Addr) (Q:VK),Inv X pins σ H s->RelV x v->s.heap.IsSliceOf sl vl vu .none->IsPart vl lo->IsPart vu hi->r x lo hi H Q ->
  ∃ T id,typeLookup (.type T) "__getitem__"=pure (some (.builtin id))/\s.TypeIs v T/\wpAny (model X.prog X.w) X.A (getItem v (.ref sl)) (EP X pins σ Q) X.xe s
def tSl (r:V->Option Int->Option Int->Hp->VK->Prop) (te:TE) (tl th:TO):TE:=fun σ H Q=>te σ H fun x H1=>tl σ H1 fun l H2=>th σ H2 fun u H3=>r x l u H3 Q
theorem Za {r:V->Option Int->Option Int->Hp->VK->Prop} (hr:SlR X r) (he:PE X e te) (hl:PO X lo tl) (hu:PO X hi th):PE X (.Subscript e (.Slice lo hi none p2) pos) (tSl r te tl th):=by
 intro pins s σ H Q I h
 refine Subscript_ (thn (he pins s σ H _ I h) fun v s1 hqP=>?_)
 obtain ⟨x,H1,I1,r1,q1⟩:=hqP
 refine wpAny_Slice (thn (hl pins s1 σ H1 _ I1 q1) fun vl s2 ⟨l,H2,I2,pl,q2⟩=>thn (hu pins s2 σ H2 _ I2 q2) fun vu s3 hqP=>?_)
 obtain ⟨u,H3,I3,pu,q3⟩:=hqP
 rw [evalPart_none]
 refine jV ?_
 have I4:Inv X pins σ H3 { s3 with heap:=s3.heap.push { cls:=.type "slice",data:=.fields #[vl,vu,.none] } }:=I3.kept (t':=s3.toks) fun b ob q=>jW _ q
 obtain ⟨T,id,hT,ht,hg⟩:=hr pins { s3 with heap:=s3.heap.push { cls:=.type "slice",data:=.fields #[vl,vu,.none] } } σ H3 x v vl vu l u s3.heap.objs.size Q I4 r1 (Heap.IsSliceOf.new ..) pl pu q3
 show wpAny (model X.prog X.w) X.A (subscriptTail e (.Slice lo hi none p2) v (.ref s3.heap.objs.size)) (EP X pins σ Q) X.xe { s3 with heap:=s3.heap.push { cls:=.type "slice",data:=.fields #[vl,vu,.none] } }
 exact tail_any (ops:=[.ref s3.heap.objs.size,v]) ht hT hg (by with_unfolding_all rfl)
def cutV (xs:List V) (lo hi:Option Int):List V:=(xs.drop (HT.sIx xs.length 0 lo)).take (HT.sIx xs.length xs.length hi - HT.sIx xs.length 0 lo)
theorem Wm (xs:List V) (lo hi:Option Int):(cutV xs lo hi).length<=xs.length:=by
 unfold cutV
 rw [zK,kYf]
 omega
def rSlT (K:Fg):V->Option Int->Option Int->Hp->VK->Prop:=fun x lo hi H Q=>∃ a xs,x=.ref a/\SqT K H a xs /\
 ¬ (HT.sIx xs.length 0 lo=0/\HT.sIx xs.length xs.length hi=xs.length)/\∀ p,H p=none->Q (.ref p) (upd H p (.tup (cutV xs lo hi)))
theorem Qcz:SlR X (rSlT X.K):=by
 intro pins s σ H x v vl vu lo hi sl Q I rx hs pl pu h
 obtain ⟨a,xs,rfl,hx,hw,q⟩:=h
 cases rx
 obtain ⟨its,r,ht,hz⟩:=I.tuple hx
 have hlen:its.toArray.size=xs.length:=by rw [kY];exact r.length.symm
 refine ⟨"tuple",_,PyProof.Rows.slot_tuple_getitem.lookup,ht.typeIs,?_⟩
 refine HT.getItem_tuple_cut ht hs pl pu (by rw [hlen];exact hw) ?_ (by rw [hlen];exact hz)
 rw [hlen]
 refine ⟨.ref s.heap.objs.size,_,I.laid (t':=s.toks) (o:=.tup (cutV xs lo hi)) (fun b ob q=>jW _ q) (jK _) ?_,rfl,q _ (I.hok.fresh (jK _))⟩
 exact ⟨jQd (Wm xs lo hi) hz,_,(r.drop (HT.sIx xs.length 0 lo)).take (HT.sIx xs.length xs.length hi - HT.sIx xs.length 0 lo),IsTup.new _ _⟩
def rCatT (K:Fg):R2:=fun x y H Q=>∃ a b xs ys,x=.ref a/\y=.ref b/\SqT K H a xs/\SqT K H b ys/\xs ≠ []/\xs.length + ys.length<=sizeLine /\
 (ys=[]->Q (.ref a) H)/\(ys ≠ []->∀ p,H p=none->Q (.ref p) (upd H p (.tup (xs ++ ys))))
theorem Vals.nil_iff {xs:List V} {us:List Value} (r:Vals xs us):us=[] ↔ xs=[]:=by
 cases r with
 | nil=>simp
 | cons _ _=>simp
theorem Wn:OpR X (binaryOp .Add) (rCatT X.K):=by
 intro pins s σ H x y v u Q I rx ry h
 obtain ⟨a,b,xs,ys,rfl,rfl,ha,hb,hx,hz,q1,q2⟩:=h
 cases rx
 cases ry
 obtain ⟨its,r1,p1,_⟩:=I.tuple ha
 obtain ⟨its2,r2,p2,_⟩:=I.tuple hb
 refine HT.cat_tup p1 p2 (fun z=>hx (r1.nil_iff.mp z)) (fun z=>⟨.ref a,H,I,rfl,q1 (r2.nil_iff.mp z)⟩) (fun z=>?_) (by rw [← r1.length,← r2.length];exact hz)
 refine ⟨.ref s.heap.objs.size,_,I.laid (t':=s.toks) (o:=.tup (xs ++ ys)) (fun b ob q=>jW _ q) (jK _) ?_,rfl,q2 (fun w=>z (r2.nil_iff.mpr w)) _ (I.hok.fresh (jK _))⟩
 exact ⟨by rw [jY];exact hz,_,r1.append r2,IsTup.new _ _⟩
end
def ixN (n:Nat) (i:Int):Option Nat:=if 0<=i then (if i < n then some i.toNat else none) else if -(n:Int)<=i then some (i + n).toNat else none
def atI {α:Type} (xs:List α) (i:Int):Option α:=(ixN xs.length i).bind fun j=>xs[j]?
theorem Qpx {n:Nat} {i:Int} {j:Nat} (h:ixN n i=some j):seqIndex? i n=some j/\j < n/\-(n:Int)<=i/\i < n:=by
 unfold ixN at h
 by_cases h0:0<=i
 ·rw [if_pos h0] at h
  by_cases h1:i < n
  ·rw [if_pos h1] at h
   have e:i.toNat=j:=Option.some.inj h
   exact ⟨by rw [seqIndex_of h0 h1,e],by omega,by omega,h1⟩
  ·rw [if_neg h1] at h;cases h
 ·rw [if_neg h0] at h
  by_cases h1:-(n:Int)<=i
  ·rw [if_pos h1] at h
   have e:(i + n).toNat=j:=Option.some.inj h
   exact ⟨by rw [seqIndex_neg (by omega) h1,e],by omega,h1,by omega⟩
  ·rw [if_neg h1] at h;cases h
theorem Qet {α:Type} {xs:List α} {i:Int} {v:α} (h:atI xs i=some v):∃ j,seqIndex? i xs.length=some j/\xs[j]?=some v/\j < xs.length/\-(xs.length:Int)<=i/\i < xs.length:=by
 unfold atI at h
 cases e:ixN xs.length i with
 | none=>rw [e] at h;cases h
 | some j =>
  rw [e] at h
  obtain ⟨h1,h2,h3,h4⟩:=Qpx e
  exact ⟨j,h1,h,h2,h3,h4⟩
theorem Vc {α:Type} {xs:List α} {j:Nat} {v:α} (h:xs[j]?=some v):atI xs (j:Int)=some v:=by
 have hj:j < xs.length:=(kK.mp h).1
 have e:ixN xs.length (j:Int)=some j:=by
  unfold ixN
  rw [if_pos (by omega),if_pos (by omega)];simp
 unfold atI;rw [e];exact h
def Qpy (b:Expr):Prop:=∀ o i,subscripted b false o i=operate [o,i] (getItem o i)
def IxR (X:Cx) (r:R2):Prop :=
 ∀ (value slice:Expr) (pins:List (Addr × Obj)) (s:Shared) (σ:St) (H:Hp) (x y:V) (v u:Value) (Q:VK),Inv X pins σ H s->RelV x v->RelV y u->r x y H Q ->
  subscripted slice false v u=operate [v,u] (getItem v u)->wpAny (model X.prog X.w) X.A (subscriptTail value slice v u) (EP X pins σ Q) X.xe s
def MtR (X:Cx) (id:String) (r:V->List V->Hp->VK->Prop):Prop :=
 ∀ (pins:List (Addr × Obj)) (s:Shared) (σ:St) (H:Hp) (x:V) (xs:List V) (v:Value) (us:List Value) (Q:VK),Inv X pins σ H s->RelV x v->Vals xs us->r x xs H Q ->
  wpAny (model X.prog X.w) X.A (call (.builtin id) (v :: us)) (EP X pins σ Q) X.xe s
section
variable {X:Cx} {a b:Expr} {ta tb:TE} {pos:Pos}
theorem Qo {r:R2} (hr:IxR X r) (ha:PE X a ta) (hb:PE X b tb) (hs:Qpy b):PE X (.Subscript a b pos) (tOp r ta tb):=by
 intro pins s σ H Q I h
 exact Subscript_ (binT ha hb I h fun v u s2 x y H2 I2 rx ry q=>hr a b pins s2 σ H2 x y v u Q I2 rx ry q (hs _ _))
def rIxL (K:Fg):R2:=fun x y H Q=>∃ p xs i v,x=.ref p/\y=.int i/\SqL K H p xs/\atI xs i=some v/\Q v H
def rIxT (K:Fg):R2:=fun x y H Q=>∃ p xs i v,x=.ref p/\y=.int i/\SqT K H p xs/\atI xs i=some v/\Q v H
def rIxS:R2:=fun x y H Q=>∃ z i c,x=.str z/\y=.int i/\z.length<=sizeLine/\atI z.cps.toList i=some c/\Q (.str ⟨#[c]⟩) H
theorem Qm:IxR X (rIxL X.K):=by
 intro value slice pins s σ H x y v u Q I rx ry h hs
 obtain ⟨p,xs,i,z,rfl,rfl,hq,he,q⟩:=h
 cases rx
 obtain ⟨t,rfl⟩:=ry
 obtain ⟨its,r,pl,hz⟩:=I.list hq
 obtain ⟨j,h1,h2,h3,h4,h5⟩:=Qet he
 obtain ⟨w,ew,rw'⟩:=r.get h2
 have hl:=r.length
 have hn:=Qgb
 have fin:EP X pins σ Q w s:=⟨z,H,I,rw',q⟩
 by_cases h0:0<=i
 ·have hj:i.toNat=j:=by
   rw [seqIndex_of h0 h5] at h1
   exact Option.some.inj h1
  exact item_listR pl.isList h0 (by omega) (by rw [hj];simpa using ew) fin hs
 ·have hj:(i + (its.toArray.size:Int)).toNat=j:=by
   rw [seqIndex_neg (by omega) h4] at h1
   rw [kY,← hl]
   exact Option.some.inj h1
  exact subscriptTail_builtinR (x:=w) pl.isList.typeIs slot_list_getitem.lookup
   (wpAny_getItem_list_neg (Q:=fun r s'=>r=w/\EP X pins σ Q r s') pl.isList (by omega) (by rw [kY] <;> omega) (by omega) (by rw [hj];simpa using ew) ⟨rfl,fin⟩) hs
theorem Xn:IxR X (rIxT X.K):=by
 intro value slice pins s σ H x y v u Q I rx ry h hs
 obtain ⟨p,xs,i,z,rfl,rfl,hq,he,q⟩:=h
 cases rx
 obtain ⟨t,rfl⟩:=ry
 obtain ⟨its,r,pl,hz⟩:=I.tuple hq
 obtain ⟨j,h1,h2,h3,h4,h5⟩:=Qet he
 obtain ⟨w,ew,rw'⟩:=r.get h2
 have hl:=r.length
 have hn:=Qgb
 have fin:EP X pins σ Q w s:=⟨z,H,I,rw',q⟩
 exact subscriptTail_builtinR (x:=w) pl.typeIs slot_tuple_getitem.lookup
  (getItem_tuple (j:=j) (Q:=fun r s'=>r=w/\EP X pins σ Q r s') pl (by omega) (by omega) (by rw [kY,← hl];exact h1) (by simpa using ew) ⟨rfl,fin⟩) hs
theorem Qow:IxR X rIxS:=by
 intro value slice pins s σ H x y v u Q I rx ry h hs
 obtain ⟨z,i,c,rfl,rfl,hz,he,q⟩:=h
 obtain ⟨t,rfl⟩:=rx
 obtain ⟨t',rfl⟩:=ry
 obtain ⟨j,h1,h2,h3,h4,h5⟩:=Qet he
 have hl:z.cps.toList.length=z.length:=by simp [Str.length]
 rw [hl] at h1 h4 h5
 have hn:=Qgb
 exact tail_any (typeIs_str s z t) slot_str_getitem.lookup (getItem_str (c:=c) (by
  have e1:decide (i < -(2 ^ 63:Int))=false:=xJ (by omega)
  have e2:decide (i ≥ 2 ^ 63)=false:=xJ (by omega)
  rw [e1,e2,Bool.or_false]) (by rw [h1];simpa using h2) ⟨.str ⟨#[c]⟩,H,I.tok _,⟨_,rfl⟩,q⟩) hs
theorem Wo (i:Int) (n d:Nat):max 0 (min (if i < 0 then i + (n:Int) else i) (n:Int))=((HT.sIx n d (some i):Nat):Int):=by
 rw [← HT.clip_eq]
 by_cases h:i < 0
 ·rw [if_pos h,if_pos h,Int.min_eq_left (by have:=Int.add_le_add_right (Int.le_of_lt h) (n:Int);rwa [jYd] at this),Int.max_comm]
 ·rw [if_neg h,if_neg h,HT.min_cast i n h,Int.max_eq_right (Int.natCast_nonneg _)]
theorem Qda (lo hi:Option Int) (n:Nat):(sliceBounds lo hi none n).1=((HT.sIx n 0 lo:Nat):Int)/\(sliceBounds lo hi none n).2.1=((HT.sIx n n hi:Nat):Int)/\(sliceBounds lo hi none n).2.2=1:=by
 refine ⟨?_,?_,rfl⟩
 ·cases lo with
  | none=>rfl
  | some i=>exact Wo i n 0
 ·cases hi with
  | none=>rfl
  | some i=>exact Wo i n n
theorem Qbj (its:List Value) (lo hi:Option Int):slicePick its.toArray lo hi none=((its.drop (HT.sIx its.length 0 lo)).take (HT.sIx its.length its.length hi - HT.sIx its.length 0 lo)).toArray:=by
 obtain ⟨h1,h2,h3⟩:=Qda lo hi its.toArray.size
 unfold slicePick
 rw [h1,h2,h3]
 simp only [sliceRange_one,pick_run,kY] <;> rfl
def rSlL (K:Fg):V->Option Int->Option Int->Hp->VK->Prop:=fun x lo hi H Q=>∃ a xs,x=.ref a/\SqL K H a xs/\∀ p,H p=none->Q (.ref p) (upd H p (.lst (cutV xs lo hi)))
theorem Qjj:SlR X (rSlL X.K):=by
 intro pins s σ H x v vl vu lo hi sl Q I rx hs pl pu h
 obtain ⟨a,xs,rfl,hx,q⟩:=h
 cases rx
 obtain ⟨its,r,ht,hz⟩:=I.list hx
 have hlen:=r.length
 refine ⟨"list",_,slot_list_getitem.lookup,ht.isList.typeIs,?_⟩
 refine wpAny_getItem_list_slice ht.isList hs pl pu .none (by simp) ?_ (by rw [kY] <;> omega)
 rw [Qbj,← hlen]
 refine ⟨.ref s.heap.objs.size,_,I.laid (t':=s.toks) (o:=.lst (cutV xs lo hi)) (fun b ob q=>jW _ q) (jK _) ?_,rfl,q _ (I.hok.fresh (jK _))⟩
 exact ⟨jQd (Wm xs lo hi) hz,_,0,(r.drop (HT.sIx xs.length 0 lo)).take (HT.sIx xs.length xs.length hi - HT.sIx xs.length 0 lo),yK _ rfl⟩
def Ka:V->Bool
 | .non=>true
 | .bl _=>true
 | .int _=>true
 | .str _=>true
 | _=>false
def eqV:V->V->Bool
 | .non,.non=>true
 | .bl a,.bl b=>a == b
 | .bl a,.int b=>(if a then 1 else 0) == b
 | .int a,.bl b=>a == (if b then 1 else 0)
 | .int a,.int b=>a == b
 | .str a,.str b=>a == b
 | _,_=>false
theorem Qjk {A:Around} {s:Shared} {y x:V} {u v:Value} (ry:RelV y u) (rx:RelV x v) (fy:Ka y=true) (fx:Ka x=true):SeqAt.EqAt A s u v (eqV y x):=by
 cases y with
 | non =>
  cases ry
  cases x with
  | non=>cases rx;exact SeqAt.EqAt.same _
  | bl b=>cases rx;exact SeqAt.EqAt.none_bool b
  | int b=>obtain ⟨t,rfl⟩:=rx;exact SeqAt.EqAt.none_int b t
  | str b=>obtain ⟨t,rfl⟩:=rx;exact SeqAt.EqAt.none_str b t
  | _=>exact absurd (show false=true from fx) yW
 | bl a =>
  cases ry
  cases x with
  | non=>cases rx;exact SeqAt.EqAt.bool_none a
  | bl b=>cases rx;exact SeqAt.EqAt.bool_bool a b
  | int b=>obtain ⟨t,rfl⟩:=rx;exact SeqAt.EqAt.bool_int a b t
  | str b=>obtain ⟨t,rfl⟩:=rx;exact SeqAt.EqAt.bool_str a b t
  | _=>exact absurd (show false=true from fx) yW
 | int a =>
  obtain ⟨t',rfl⟩:=ry
  cases x with
  | non=>cases rx;exact SeqAt.EqAt.int_none a t'
  | bl b=>cases rx;exact SeqAt.EqAt.int_bool a t' b
  | int b=>obtain ⟨t,rfl⟩:=rx;exact SeqAt.EqAt.int_int a t' b t
  | str b=>obtain ⟨t,rfl⟩:=rx;exact SeqAt.EqAt.int_str a t' b t
  | _=>exact absurd (show false=true from fx) yW
 | str a =>
  obtain ⟨t',rfl⟩:=ry
  cases x with
  | non=>cases rx;exact SeqAt.EqAt.str_none a t'
  | bl b=>cases rx;exact SeqAt.EqAt.str_bool a t' b
  | int b=>obtain ⟨t,rfl⟩:=rx;exact SeqAt.EqAt.str_int a t' b t
  | str b=>obtain ⟨t,rfl⟩:=rx;exact SeqAt.EqAt.str_str a t' b t
  | _=>exact absurd (show false=true from fx) yW
 | _=>exact absurd (show false=true from fy) yW
def eqU (x:V) (u:Value):Bool:=match u with
 | .none=>eqV .non x
 | .bool b=>eqV (.bl b) x
 | .int i _=>eqV (.int i) x
 | .str z _=>eqV (.str z) x
 | _=>false
theorem Qox {x y:V} {u:Value} (r:RelV y u) (f:Ka y=true):eqU x u=eqV y x:=by
 cases y with
 | non=>cases r;rfl
 | bl b=>cases r;rfl
 | int i=>obtain ⟨t,rfl⟩:=r;rfl
 | str z=>obtain ⟨t,rfl⟩:=r;rfl
 | _=>exact absurd (show false=true from f) yW
theorem Qeu {x:V}:∀ {xs:List V} {us:List Value},Vals xs us->xs.all Ka=true->us.any (eqU x)=xs.any fun y=>eqV y x
 | _,_,.nil,_=>rfl
 | y :: xs,u :: us,.cons r t,f=>by
  rw [List.all_cons,wV] at f
  rw [kXc,kXc,Qox r f.1,Qeu t f.2]
theorem Qbk {A:Around} {s:Shared} {x:V} {v:Value} (rx:RelV x v) (fx:Ka x=true):∀ {xs:List V} {us:List Value},Vals xs us->xs.all Ka=true->∀ u ∈ us,SeqAt.EqAt A s u v (eqU x u)
 | _,_,.nil,_=>fun u hu=>by cases hu
 | y :: xs,u :: us,.cons r t,f=>fun u' hu=>by
  rw [List.all_cons,wV] at f
  rcases yX.mp hu with rfl | hu
  ·rw [Qox r f.1];exact Qjk r rx f.1 fx
  ·exact Qbk rx fx t f.2 u' hu
def inV (x:V) (xs:List V):Bool:=xs.any fun y=>eqV y x
def rIn (K:Fg) (neg:Bool):R2:=fun x y H Q=>∃ p xs,y=.ref p/\(SqL K H p xs\/SqT K H p xs)/\Ka x=true/\xs.all Ka=true/\Q (.bl (if neg then !inV x xs else inV x xs)) H
theorem Qdb:OpR X (compareOp .NotIn) (rIn X.K true):=by
 intro pins s σ H x y v u Q I rx ry h
 obtain ⟨p,xs,rfl,hq,fx,fs,q⟩:=h
 cases ry
 rcases hq with hq | hq
 ·obtain ⟨its,r,pl,hz⟩:=I.list hq
  refine SeqAt.notIn_listAt (eqU x) pl.isList (fun w hw=>Qbk rx fx r fs w (by simpa using hw)) ⟨.bl _,H,I,rfl,?_⟩
  rw [show its.toArray.any (eqU x)=its.any (eqU x) by simp,Qeu r fs]
  exact q
 ·obtain ⟨its,r,pl,hz⟩:=I.tuple hq
  refine SeqAt.notIn_tupleAt (eqU x) pl (fun w hw=>Qbk rx fx r fs w (by simpa using hw)) ⟨.bl _,H,I,rfl,?_⟩
  rw [show its.toArray.any (eqU x)=its.any (eqU x) by simp,Qeu r fs]
  exact q
theorem Xo:Jg X (.builtin "len") (fun xs H Q=>∃ p ys,xs=[.ref p]/\(SqL X.K H p ys\/SqT X.K H p ys)/\Q (.int ys.length) H):=by
 intro pins s σ H xs us Q I r h
 obtain ⟨p,ys,rfl,hq,q⟩:=h
 obtain ⟨u,rfl,rx⟩:=vals1 r
 cases rx
 have hn:=Qgb
 rcases hq with hq | hq
 ·obtain ⟨its,r',pl,hz⟩:=I.list hq
  have hlen:=r'.length
  exact Calls.call_len_list pl.isList (by simp only [kY] <;> omega) ⟨.int ys.length,H,I.tok _,⟨s.toks + 1,by rw [kY,hlen]⟩,q⟩
 ·obtain ⟨its,r',pl,hz⟩:=I.tuple hq
  have hlen:=r'.length
  exact len_tuple pl (by simp only [kY] <;> omega) ⟨.int ys.length,H,I.tok _,⟨s.toks + 1,by rw [kY,hlen]⟩,q⟩
theorem Jo:Jg X (.type "list") (fun xs H Q=>∃ p ys,xs=[.ref p]/\(SqL X.K H p ys\/SqT X.K H p ys)/\∀ l,H l=none->Q (.ref l) (upd H l (.lst ys))):=by
 intro pins s σ H xs us Q I r h
 obtain ⟨p,ys,rfl,hq,q⟩:=h
 obtain ⟨u,rfl,rx⟩:=vals1 r
 cases rx
 have fin:∀ (its:List Value),Vals ys its->ys.length<=sizeLine->∀ (h':Heap) (c':Nat),(∀ b o',s.heap.get? b=some o'->h'.get? b=some o') ->
   h'.get? s.heap.objs.size=some { cls:=.type "list",dict:=none,data:=.seq its.toArray c',slots:=#[] }->EP X pins σ Q (.ref s.heap.objs.size) { s with heap:=h' }:=fun its r' hz h' c' kp e =>
  ⟨.ref s.heap.objs.size,_,I.laid (t':=s.toks) kp (jK _) (show ObjOk X.prog X.w _ h' _ (.lst ys) from ⟨hz,its,c',r',e⟩),rfl,q _ (I.hok.fresh (jK _))⟩
 rcases hq with hq | hq
 ·obtain ⟨its,r',pl,hz⟩:=I.list hq
  have hlen:=r'.length
  obtain ⟨o,ho,hc,n,hd⟩:=pl.isList
  exact call_list_seq p (.inl rfl) ho hc hd (fun h' c' kp e=>fin its r' hz h' c' kp e) (by simp only [kY] <;> omega)
 ·obtain ⟨its,r',pl,hz⟩:=I.tuple hq
  have hlen:=r'.length
  obtain ⟨o,ho,hc,n,hd⟩:=pl
  exact call_list_seq p (.inr rfl) ho hc hd (fun h' c' kp e=>fin its r' hz h' c' kp e) (by simp only [kY] <;> omega)
theorem Xu:Jg X (.type "tuple") (fun xs H Q=>∃ p ys,xs=[.ref p]/\((SqL X.K H p ys/\∀ l,H l=none->Q (.ref l) (upd H l (.tup ys)))\/(SqT X.K H p ys/\Q (.ref p) H))):=by
 intro pins s σ H xs us Q I r h
 obtain ⟨p,ys,rfl,h⟩:=h
 obtain ⟨u,rfl,rx⟩:=vals1 r
 cases rx
 rcases h with ⟨hq,q⟩ | ⟨hq,q⟩
 ·obtain ⟨its,r',pl,hz⟩:=I.list hq
  have hlen:=r'.length
  refine call_tuple_list pl.isList (fun h' kp=>?_) (by simp only [kY] <;> omega)
  have I1:Inv X pins σ H { s with heap:=h' }:=I.kept (t':=s.toks) kp
  have I2:Inv X pins σ (upd H h'.objs.size (.tup ys)) { s with heap:=h'.push { cls:=.type "tuple",data:=.seq its.toArray } } :=
   I1.laid (t':=s.toks) (fun b o e=>jW _ e) (jK _) (show ObjOk X.prog X.w _ _ _ (.tup ys) from ⟨hz,its,r',IsTup.new _ _⟩)
  exact ⟨.ref h'.objs.size,_,I2,rfl,q _ (I1.hok.fresh (jK _))⟩
 ·obtain ⟨its,r',pl,hz⟩:=I.tuple hq
  exact call_tuple_same pl ⟨.ref p,H,I,rfl,q⟩
def tyV (K:Fg) (T:String) (x:V) (H:Hp):Prop:=match x with
 | .str _=>T="str"
 | .int _=>T="int"
 | .ref p=>(T="list"/\∃ xs,SqL K H p xs)\/(T="tuple"/\∃ o,K.lookup p=some o/\o.cls=.type "tuple"/\o.dict=none) \/
   (T="dict"/\((∃ kvs,H p=some (.dK kvs))\/∃ kvs,H p=some (.dT kvs)))\/(T="set"/\∃ S n,H p=some (.set S n))
 | _=>False
theorem Qoy {pins:List (Addr × Obj)} {σ:St} {H:Hp} {s:Shared} {T:String} {x:V} {v:Value} (I:Inv X pins σ H s) (r:RelV x v) (ty:tyV X.K T x H) :
  s.TypeIs v T/\∀ a,v=.ref a->∃ ob,s.heap.get? a=some ob/\ob.dict=none:=by
 cases x with
 | str z =>
  obtain ⟨t,rfl⟩:=r
  cases (show T="str" from ty)
  exact ⟨typeIs_str s z t,fun _ e=>nomatch e⟩
 | int i =>
  obtain ⟨t,rfl⟩:=r
  cases (show T="int" from ty)
  exact ⟨typeIs_int s i t,fun _ e=>nomatch e⟩
 | ref p =>
  cases r
  rcases ty with ⟨rfl,xs,hq⟩ | ⟨rfl,o,hk,hc,hd⟩ | ⟨rfl,hk⟩ | ⟨rfl,S,n,hk⟩
  ·obtain ⟨its,_,pl,_⟩:=I.list hq
   refine ⟨pl.isList.typeIs,fun a e=>?_⟩
   cases e
   obtain ⟨o,n,e,c,hd,_⟩:=pl
   exact ⟨o,e,hd⟩
  ·refine ⟨⟨o,I.kIn p o hk,hc⟩,fun a e=>?_⟩
   cases e
   exact ⟨o,I.kIn _ o hk,hd⟩
  ·have z:∃ o,s.heap.get? p=some o/\o.ExactDict:=by
    rcases hk with ⟨kvs,hk⟩ | ⟨kvs,hk⟩
    ·obtain ⟨_,_,_,_,o,_,_,e,ex,_⟩:=I.hok p _ hk
     exact ⟨o,e,ex⟩
    ·obtain ⟨_,_,_,_,o,_,_,e,ex,_⟩:=I.hok p _ hk
     exact ⟨o,e,ex⟩
   obtain ⟨o,e,ex⟩:=z
   refine ⟨⟨o,e,ex.1⟩,fun a e2=>?_⟩
   cases e2
   exact ⟨o,e,ex.2.1⟩
  ·obtain ⟨o,_,_,_,e,ex,_⟩:=I.hok p _ hk
   refine ⟨⟨o,e,ex.1⟩,fun a e2=>?_⟩
   cases e2
   exact ⟨o,e,ex.2.1⟩
 | _=>exact False.elim ty
def tBM0 (K:Fg) (T:String) (r:V->List V->Hp->VK->Prop) (to:TE):TE:=fun σ H Q=>to σ H fun x H1=>tyV K T x H1/\r x [] H1 Q
def tBM (K:Fg) (T:String) (r:V->List V->Hp->VK->Prop) (to:TE) (t:TA):TE:=fun σ H Q=>to σ H fun x H1=>tyV K T x H1/\t σ H1 fun xs H2=>r x xs H2 Q
variable {o e:Expr} {es:List Expr} {to:TE} {t:TA} {name:Str} {apos cpos:Pos} {T id:String} {r:V->List V->Hp->VK->Prop}
theorem Qoz (pa:PlainAttrs T) (slot:Slot T name id) (hty:typeOf (.builtin id)=pure (.type "method_descriptor")) (hm:MtR X id r) (ho:PE X o to)
  (hbase:autoParam (attributeBase o name X.env (eval o X.env)=eval o X.env) L2.aRfl._auto_1) (hline:autoParam ((apos.endLine == cpos.line)=true) L2.aRfl._auto_1):PE X (.Call (.Attribute o name apos) [] [] cpos) (tBM0 X.K T r to):=by
 intro pins s σ H Q I h
 refine wpAny_Call_method0_late hbase hline (thn (ho pins s σ H _ I h) fun v s1 hqP=>?_)
 obtain ⟨x,H1,I1,r1,ty,q1⟩:=hqP
 obtain ⟨h1,h2⟩:=Qoy I1 r1 ty
 exact ⟨T,id,pa,slot,hty,h1,h2,Calls.callWith_builtin rfl (PySem.evalArgs_none (hm pins s1 σ H1 x [] v [] Q I1 r1 .nil q1))⟩
theorem Zp (pa:PlainAttrs T) (slot:Slot T name id) (hty:typeOf (.builtin id)=pure (.type "method_descriptor")) (hm:MtR X id r) (ho:PE X o to) (ha:PA X (e :: es) t)
  (hbase:autoParam (attributeBase o name X.env (eval o X.env)=eval o X.env) L2.aRfl._auto_1)
  (hfew:((backTo cpos (starEach (e :: es) X.env)).all (fun x=>!x.1) && (backToKw cpos (keywordEach [] X.env)).all (fun x=>x.1.isSome)
   && decide ((e :: es).length + ([]:List Keyword).length + (if ([]:List Keyword).isEmpty then 0 else 1) < 30))=true:=by rfl)
  (hline:autoParam ((apos.endLine == cpos.line)=true) L2.aRfl._auto_1) (hs:autoParam (starEach (e :: es) X.env=(false,eval e X.env) :: starEach es X.env) L2.aRfl._auto_1) (hplain:autoParam ((backTo cpos (starEach es X.env)).any (·.1)=false) L2.aRfl._auto_1) :
  PE X (.Call (.Attribute o name apos) (e :: es) [] cpos) (tBM X.K T r to t):=by
 intro pins s σ H Q I h
 refine wpAny_Call_method_late hbase hfew hline rfl (thn (ho pins s σ H _ I h) fun v s1 hqP=>?_)
 obtain ⟨x,H1,I1,r1,ty,q1⟩:=hqP
 obtain ⟨h1,h2⟩:=Qoy I1 r1 ty
 refine ⟨T,id,pa,slot,hty,h1,h2,?_⟩
 have hA:=ha cpos pins s1 σ H1 _ I1 q1
 rw [hs] at hA ⊢
 refine Calls.callWith_builtin (by show (false || (backTo cpos (starEach es X.env)).any (·.1))=false;rw [hplain] <;> rfl) (Calls.evalArgs_plain ?_)
 exact thn hA fun us s2 ⟨vs,H2,I2,r2,q2⟩=>hm pins s2 σ H2 x vs v us Q I2 r1 r2 q2
end
def MtM (X:Cx) (id:String) (r:V->List V->Hp->VK->Prop):Prop :=
 ∀ (pins:List (Addr × Obj)) (s:Shared) (σ:St) (H:Hp) (x:V) (xs:List V) (v:Value) (us:List Value) (Q:VK),Inv X pins σ H s->RelV x v->Vals xs us->r x xs H Q ->
  wpAny (model X.prog X.w) X.A (call (.builtin id) (v :: us)) (EP X pins σ Q) X.xe s
theorem Vals.one {x:V} {us:List Value} (h:Vals [x] us):∃ u,us=[u]/\RelV x u:=by
 cases h with
 | cons r t=>cases t;exact ⟨_,rfl,r⟩
theorem Vals.two {x y:V} {us:List Value} (h:Vals [x,y] us):∃ u v,us=[u,v]/\RelV x u/\RelV y v:=by
 cases h with
 | cons r t =>
  cases t with
  | cons q t=>cases t;exact ⟨_,_,rfl,r,q⟩
theorem Vals.zero:∀ {us:List Value},Vals [] us->us=[]
 | _,.nil=>rfl
section
variable {X:Cx} {pins:List (Addr × Obj)} {σ:St} {H:Hp} {s:Shared} {l:Addr} {xs ys:List V}
theorem Inv.lset {its its':List Value} {n:Nat} {f:Array Value->Array Value} {t':Nat} (I:Inv X pins σ H s) (hH:H l=some (.lst xs))
  (e:s.heap.get? l=some { cls:=.type "list",data:=.seq its.toArray n }) (hf:f its.toArray=its'.toArray) (hv:Vals ys its') (hz:ys.length<=sizeLine) :
  Inv X pins σ (upd H l (.lst ys)) { s with heap:=s.heap.update l (Obj.mapSeq f),toks:=t' }:=by
 have q:=PySem.IsL.update e f
 rw [hf] at q
 refine I.write (x:=l) (e:=l) (by rw [hH];exact trivial) (.inl rfl) (fun b' u hb hu=>(Heap.get?_update_other s.heap (Obj.mapSeq f) (Ne.symm hb)).trans hu) ⟨_,q⟩ ?_
 exact ⟨hz,its',_,hv,q⟩
theorem Inv.lnew {its:List Value} {t':Nat} (I:Inv X pins σ H s) (hv:Vals ys its) (hz:ys.length<=sizeLine) :
  Inv X pins σ (upd H s.heap.objs.size (.lst ys)) { s with heap:=s.heap.push { cls:=.type "list",data:=.seq its.toArray },toks:=t' } :=
 I.laid (fun _ _ q=>jW _ q) (jK _) ⟨hz,its,0,hv,yK _ rfl⟩
theorem Inv.fresh (I:Inv X pins σ H s):H s.heap.objs.size=none:=I.hok.fresh (jK _)
theorem Inv.lstM (I:Inv X pins σ H s) (hH:H l=some (.lst xs)):xs.length<=sizeLine/\∃ (its:List Value) (n:Nat),Vals xs its/\xs.length=its.length/\s.heap.get? l=some { cls:=.type "list",data:=.seq its.toArray n }:=by
 obtain ⟨z,its,n,r,e⟩:=I.hok l _ hH
 exact ⟨z,its,n,r,r.length,e⟩
theorem Qmj {n:Nat} (h:n<=sizeLine):Builtin.List.listTooLong n=false:=by
 unfold Builtin.List.listTooLong
 exact xJ (by omega)
end
section
variable {X:Cx}
def Qpz:V->List V->Hp->VK->Prop:=fun x vs H Q=>∃ l xs y,x=.ref l/\vs=[y]/\H l=some (.lst xs)/\xs.length < sizeLine/\Q .non (upd H l (.lst (xs ++ [y])))
theorem Xb:MtM X "list.append" Qpz:=by
 intro pins s σ H x vs v us Q I rx rv h
 obtain ⟨l,xs,y,rfl,rfl,hH,hz,q⟩:=h
 cases rx
 obtain ⟨u,rfl,ru⟩:=rv.one
 obtain ⟨z,its,n,r,hl,e⟩:=I.lstM hH
 refine call_meets F.slot_list_append ⟨_,e,rfl⟩ F.entry_list_append (F.args_list_append_2 _ _) (PySem.list_append l its.toArray n u (by rw [kY];omega)) ⟨e,?_⟩
 refine ⟨.non,_,I.lset (its':=its ++ [u]) hH e (by simp) (r.append (.cons ru .nil)) ?_,rfl,q⟩
 rw [jY,jZf]
 omega
def rClear:V->List V->Hp->VK->Prop:=fun x vs H Q=>∃ l xs,x=.ref l/\vs=[]/\H l=some (.lst xs)/\Q .non (upd H l (.lst []))
theorem Qgd:MtM X "list.clear" rClear:=by
 intro pins s σ H x vs v us Q I rx rv h
 obtain ⟨l,xs,rfl,rfl,hH,q⟩:=h
 cases rx
 have hus:=rv.zero
 subst hus
 obtain ⟨z,its,n,r,hl,e⟩:=I.lstM hH
 refine call_meets F.slot_list_clear ⟨_,e,rfl⟩ F.entry_list_clear (F.args_list_clear_1 _) (AutoSeq1.list_clear_list_0 l its.toArray n (by rw [kY];omega)) ⟨e,?_⟩
 exact ⟨.non,_,I.lset (its':=[]) (ys:=[]) hH e rfl .nil (jXe _),rfl,q⟩
def rCat:R2:=fun x y H Q=>∃ l b xs zs,x=.ref l/\y=.ref b/\H l=some (.lst xs)/\H b=some (.lst zs)/\xs.length + zs.length<=sizeLine/\∀ p,H p=none->Q (.ref p) (upd H p (.lst (xs ++ zs)))
theorem Kc:OpR X (binaryOp .Add) rCat:=by
 intro pins s σ H x y v u Q I rx ry h
 obtain ⟨l,b,xs,zs,rfl,rfl,hH,hB,hz,q⟩:=h
 cases rx
 cases ry
 obtain ⟨z,its,n,r,hl,e⟩:=I.lstM hH
 obtain ⟨z2,its2,n2,r2,hl2,e2⟩:=I.lstM hB
 refine PySem.P.add_list e e2 ?_ (by rw [kY,kY];omega)
 have ea:its.toArray ++ its2.toArray=(its ++ its2).toArray:=by simp
 rw [ea]
 exact ⟨.ref _,_,I.lnew (t':=s.toks) (r.append r2) (by rw [jY];omega),rfl,q _ I.fresh⟩
end
end L2
namespace Att
open PySem PySem.W PySem.Calls PyProof.Rows
theorem Wp {P:Params} {h:Heap}:∀ (ns:List Int) (vs:List Value),WellAll P h vs (ns.map WData.int)->IntsAre vs ns:=by
 intro ns
 induction ns with
 | nil =>
  intro vs w
  rw [jJb] at w
  cases w
  exact .nil
 | cons n ns ih =>
  intro vs w
  rw [yQ] at w
  cases w with
  | cons a b =>
   cases a
   exact .cons _ _ (ih _ b)
theorem Qjl {l:OpenLaw} {n:Nat} (hn:l.most=some n) {P:Params} {h:Heap} {args:List WData} {vals:List Value}
  (hpre:l.row.toRowW.claim.pre args=true) (hwl:WellAll P h vals args) :
  ∃ a vs ns,vals=[Value.ref a]/\args=[WData.list (ns.map WData.int)]/\h.get? a=some { cls:=.type "list",data:=.seq vs.toArray }/\IntsAre vs ns/\ns.length<=n:=by
 have hsh:WShape.hasAll [] args [.list .int]=true:=(pre_splitW hpre).1
 have hc:l.pre.holds [] { args:=args }=true:=(pre_splitW hpre).2
 obtain ⟨d,r,rfl,h1,h2⟩:=hasAllW_cons hsh
 obtain rfl:=hasAllW_nil h2
 obtain ⟨xs,rfl,h3⟩:=hasW_list h1
 obtain ⟨ns,rfl⟩:=items_int h3
 have hlen:ns.length<=n:=by
  unfold OpenLaw.pre at hc
  have h4:(WTm.not (.lt (.lit (.int (n:Int))) (.len (.arg 0)))).holds [] { args:=[.list (ns.map .int)] }=true:=by
   have h4:=(holds_andW hc).1
   rw [hn] at h4
   exact h4
  have h5:=condW_of h4 (w_not (w_lt w_lit (w_len_list (w_arg rfl))))
  rw [jX] at h5
  refine Nat.le_of_not_lt fun q=>?_
  have q':(n:Int) < ((ns.length:Nat):Int):=by omega
  first
   | (rw [kQ q'] at h5;exact absurd h5 (by decide))
   | (simp at h5;omega)
 cases hwl with
 | cons w1 w2 =>
  cases w2
  cases w1 with
  | list ho hall=>exact ⟨_,_,ns,rfl,rfl,ho,Wp ns _ hall,hlen⟩
theorem Qjm (l:OpenLaw) (args:List WData):l.row.toRowW.claim.post args (.bool true) args=true :=
 postW_of (r:=l.row.toRowW) (X:=(true == true))
  (show WShape.has [] (.bool true) .bool=true by first | rfl | decide | simp [WShape.has,WShape.arms,WShape.armsAll])
  (show (WTm.eq .res (.lit (.bool true))).value [] { args:=args,res:=some (.bool true),after:=args }=some (.bool (true == true)) from w_eq_bool (w_res rfl) w_lit) rfl
theorem attach_call {l:OpenLaw} {n:Nat} {q:Program} {loose:List Str} {XP:(Str->Option Value)->Heap->Prop} {YP:World->Heap->Prop} {d:DefRec}
  (hn:l.most=some n) (hdf:d.params.defaults=[])
  (call:∀ (w:World) (s₀ s₁:Shared) (mg mb:Str->Option Value) (fa:Addr) (o:Obj) (pm cd doc:Value) (a:Addr) (vs:List Value) (ns:List Int),
   Ground q loose [] XP w s₀ mg mb s₁.heap->YP w s₁.heap ->
   s₁.heap.get? fa=some o->o.data=.func (docDef d.name d.params d.body d.scope pm cd doc)->s₁.heap.CodeRec cd d.name->mg d.name=some (.ref fa) ->
   s₁.heap.get? a=some { cls:=.type "list",data:=.seq vs.toArray }->IntsAre vs ns->ns.length<=n->s₁.gens=#[] ->
   codeAny (model l.prog w) callerA (.call (.ref fa) ⟨[.ref a],[]⟩) (fun r s'=>r=.ok (.ret (.bool true))/\OldK s₁.heap s'.heap/\s'.os=s₁.os/\AllBare s'.gens) s₁) :
  WalkO q loose XP YP l.row.toRowW d [] (fun f vs=>PySem.call f vs):=by
 intro w s₀ s₁ mg mb G Y fa o pm cd doc dV kV ho hd hcd hD hmg hg args vals as hpre hlay hrd hwl hlo
 obtain rfl:dV=.none:=Dflts.none hD hdf
 obtain rfl:kV=.none:=Dflts.noKw hD
 obtain ⟨a,vs,ns,rfl,rfl,hobj,hints,hlen⟩:=Qjl hn hpre hwl
 refine enter_call (codeAny_mono (call w s₀ s₁ mg mb fa o pm cd doc a vs ns G Y ho (fd_plain hd) hcd hmg hobj hints hlen hg) fun r s' hq=>?_)
 obtain ⟨rfl,h2,h3,h4⟩:=hq
 exact ⟨.inl ⟨.bool true,.bool true,[],rfl,fun _=>rfl,.bool true,Qjm l _,fun _=>⟨List.Pairwise.nil,fun _ hm=>(nomatch hm)⟩⟩,h2,h3,h4⟩
end Att
namespace L2
open PySem PySem.Spec PyProof.Rows
theorem Qdc:∀ {vs:List Value} {ns:List Int},IntsAre vs ns->Vals (ns.map V.int) vs
 | _,_,.nil=>.nil
 | _,_,.cons n t h=>.cons ⟨t,rfl⟩ (Qdc h)
def Only (H:Hp):Prop:=∀ b,H b=none\/∃ o xs,H b=some (.frz o (.lst xs))
theorem Qmk {P:Program} {w:World} {K:Fg} {mg mb:Str->Option Value} {CX:CXT} {k:Nat} {fa a:Addr} {fd:FuncData} {x:Str} {sp:Sp} {s₁:Shared} {vs:List Value} {ns:List Int}
  (KX:K.In s₁.heap) (hns:s₁.heap.Ns mainGlobals mg) (hb:s₁.heap.Ns builtinsNs mb) (hbb:∀ x:Str,x ≠ "__name__"->mb x=bootBuiltins x) (hlim:s₁.heap.NoLimit) (hg:s₁.gens=#[])
  (ha:s₁.heap.get? a=some { cls:=.type "list",data:=.seq vs.toArray }) (hi:IntsAre vs ns) (hl:ns.length<=sizeLine) (hr:Room k callerA)
  (F:∀ base:Heap,K.In base->base.Ns mainGlobals mg->FnOk P w K mg base CX k fa fd [x] sp) (hbind:∀ (s:Shared) (u:Value),BindsTo s fd ⟨[u],[]⟩ [(x,u)])
  (hsp:∀ H:Hp,Only H->SqL K H a (ns.map V.int)->sp [.ref a] H (fun v _=>v=.bl true) fun _ _ _=>False)
  (hCX:∀ H e s',CX [] H s₁ (fun _ _ _=>False) e s'->False) :
  codeAny (model P w) callerA (.call (.ref fa) ⟨[.ref a],[]⟩) (fun r s'=>r=.ok (.ret (.bool true))/\OldK s₁.heap s'.heap/\s'.os=s₁.os/\AllBare s'.gens) s₁:=by
 have rv:=Qdc hi
 have lenV:=hi.length
 -- from an abstract heap in which nothing but the script may be tracked
 have core:∀ H:Hp,Only H->SqL K H a (ns.map V.int)->HOk P w H s₁.heap->(∀ b,H b ≠ none->b=a)->(H a ≠ none->K.lookup a=none) ->
   codeAny (model P w) callerA (.call (.ref fa) ⟨[.ref a],[]⟩) (fun r s'=>r=.ok (.ret (.bool true))/\OldK s₁.heap s'.heap/\s'.os=s₁.os/\AllBare s'.gens) s₁:=by
  intro H hO hS hok hA hK
  have base_of:∀ {b:Addr} {o:Obj},s₁.heap.get? b=some o->H b=none->(hidT s₁.heap H).get? b=some o:=fun e n=>Qmd e n
  have noA:∀ {b:Addr} {o:Obj} {es:Array DictEntry} {ep:Nat},s₁.heap.get? b=some o->o.data=.dict es ep->H b=none:=fun {b o es ep} e d=>by
   cases q:H b with
   | none=>rfl
   | some u =>
    have e':b=a:=hA b (by rw [q];simp)
    subst e'
    rw [ha] at e;cases e
    have d':Data.seq vs.toArray _=Data.dict es ep:=d
    cases d'
  have nsK:∀ {b:Addr} {m:Str->Option Value},s₁.heap.Ns b m->(hidT s₁.heap H).Ns b m:=fun {b m} ⟨o,es,ep,e,d,r⟩=>⟨o,es,ep,base_of e (noA e d),d,r⟩
  have hKb:K.In (hidT s₁.heap H):=fun b o e=>base_of (KX b o e) (by
   cases q:H b with
   | none=>rfl
   | some u =>
    have e':b=a:=hA b (by rw [q];simp)
    subst e'
    rw [hK (by rw [q];simp)] at e;cases e)
  have hM:Mod K mg (hidT s₁.heap H):=⟨hKb,nsK hns,⟨mb,nsK hb,hbb⟩,let ⟨mc,h1,h2⟩:=hlim;⟨mc,nsK h1,h2⟩⟩
  have e0:Env0 P w K mg (hidT s₁.heap H) callerA [] s₁ H:=⟨rfl,hM,fun b o e=>Qpq e,Nat.le_of_eq (Qiv _ _),trivial,fun b hb=>absurd (show b ∈ ([]:List Addr) from hb) (by simp),hok,.of_eq hg⟩
  refine codeAny_mono ((F _ hKb (nsK hns)).run callerA [] s₁ H ⟨[.ref a],[]⟩ [.ref a] [.ref a] _ _ hr e0 (hbind s₁ (.ref a)) (.cons rfl .nil) (hsp H hO hS)) fun r s' h=>?_
  cases r with
  | error e=>exact (hCX H e s' h).elim
  | ok fl =>
   cases fl with
   | next=>exact False.elim h
   | brk=>exact False.elim h
   | cont=>exact False.elim h
   | ret u =>
    obtain ⟨v,H',os,bare,un,hok',r',q⟩:=h
    have q':v=.bl true:=q
    subst q'
    obtain rfl:u=Value.bool true:=r'
    refine ⟨rfl,OldK.of_keep fun b o e=>?_,os,bare⟩
    cases q:H b with
    | none=>exact un.keep b o e q (by intro z;exact absurd (show b ∈ ([]:List Addr) from z) (by simp)) (by simp)
    | some u =>
     rcases hO b with z | ⟨ob,xs,z⟩
     ·rw [q] at z;cases z
     ·have z2:=un.frzs b ob _ z
      obtain ⟨e1,_⟩:=hok b _ z
      obtain ⟨e2,_⟩:=hok' b _ z2
      rw [e] at e1;cases e1
      exact e2
 cases hk:K.lookup a with
 | some o =>
  -- the script is one of the module's own objects
  have e:=KX a o hk
  rw [ha] at e
  cases e
  refine core (fun _=>none) (fun _=>.inl rfl) (.inr ⟨_,vs.toArray,_,hk,rfl,rfl,rfl,by rw [kY,lenV];exact hl,by simpa using rv⟩) (fun b u z=>by have z':(none:Option HO)=some u:=z;cases z') (fun b z=>absurd rfl z) fun z=>absurd rfl z
 | none =>
  refine core (fun b=>if b=a then some (.frz { cls:=.type "list",data:=.seq vs.toArray } (.lst (ns.map V.int))) else none) (fun b=>?_) (.inl (.inr ⟨{ cls:=.type "list",data:=.seq vs.toArray },if_pos rfl⟩)) (fun b u z=>?_) (fun b z=>?_) fun _=>hk
  ·by_cases hb:b=a
   ·exact .inr ⟨_,_,if_pos hb⟩
   ·exact .inl (if_neg hb)
  ·by_cases hb:b=a
   ·have z':=(if_pos hb).symm.trans z
    cases z'
    subst hb
    exact ⟨ha,by rw [jX];exact hl,vs,_,rv,ha⟩
   ·have z':=(if_neg hb).symm.trans z
    cases z'
  ·by_cases hb:b=a
   ·exact hb
   ·exact absurd (if_neg hb) z
abbrev KOf {K:Fg} {h:Heap} (_:K.In h):Fg:=K
theorem Qjn {l:PySem.W.OpenLaw} {n k:Nat} {q:Program} {loose:List Str} {XP:(Str->Option Value)->Heap->Prop} {YP:World->Heap->Prop} {d:DefRec} {K:Params->Fg} {CX:World->CXT} {sp:World->Sp} {x:Str}
  (hn:l.most=some n) (hn2:n<=sizeLine) (hdf:d.params.defaults=[]) (hr:Room k callerA)
  (hY:∀ (w:World) (h:Heap),YP w h->(K w.params).In h)
  (F:∀ (w:World) (mg:Str->Option Value) (fa:Addr) (h:Heap),(K w.params).In h->h.Ns mainGlobals mg->mg d.name=some (.ref fa) ->
   ∃ fd:FuncData,(∀ (s:Shared) (u:Value),BindsTo s fd ⟨[u],[]⟩ [(x,u)]) /\
    ∀ base:Heap,(K w.params).In base->base.Ns mainGlobals mg->FnOk l.prog w (K w.params) mg base (CX w) k fa fd [x] (sp w))
  (hsp:∀ (w:World) (H:Hp) (a:Addr) (ns:List Int),ns.length<=n->Only H->SqL (K w.params) H a (ns.map V.int)->sp w [.ref a] H (fun v _=>v=.bl true) fun _ _ _=>False)
  (hCX:∀ (w:World) (H:Hp) (s:Shared) (e:Value) (s':Shared),CX w [] H s (fun _ _ _=>False) e s'->False) :
  PySem.W.WalkO q loose XP YP l.row.toRowW d [] (fun f vs=>PySem.call f vs):=by
 refine Att.attach_call hn hdf fun w s₀ s₁ mg mb fa o pm cd doc a vs ns G Y ho hd hcd hmg hobj hints hlen hg=>?_
 have KX:=hY w _ Y
 obtain ⟨fd,hb,hF⟩:=F w mg fa _ KX G.T.g hmg
 exact Qmk KX G.T.g G.T.b G.T.builtins G.T.nolimit hg hobj hints (jQd hlen hn2) hr hF hb (fun H hO hS=>hsp w H a ns hlen hO hS) fun H e s'=>hCX w H s₁ e s'
end L2
namespace L2
open PySem PySem.Spec PyProof.Rows
def inClass (s:Stmt) (j:Nat):Stmt:=match s with
 | .ClassDef _ _ _ body _ _ _ _ _ _ _=>body.getD j (.Pass ⟨0,0,0,0⟩)
 | _=>.Pass ⟨0,0,0,0⟩
def Qx (s:Stmt):Arguments:=match s with
 | .FunctionDef _ a _ _ _ _ _ _ _ _=>a
 | _=>{ posonlyargs:=[],args:=[],vararg:=none,kwonlyargs:=[],kw_defaults:=[],kwarg:=none,defaults:=[] }
def Qv (s:Stmt):List Stmt:=match s with
 | .FunctionDef _ _ b _ _ _ _ _ _ _=>b
 | _=>[]
def Qg (s:Stmt):Scope:=match s with
 | .FunctionDef _ _ _ _ _ _ sc _ _ _=>sc
 | _=>{ kind:=.function,names:=[],isGenerator:=false,isCoroutine:=false }
abbrev CX0:CXT:=fun _ _ _ _ _ _=>False
abbrev E0:XK:=fun _ _ _=>False
theorem Zd {X:Cx}:Wk CX0 X E0:=fun _ _ _ _ _ _ _ h=>h.elim
structure Fun (K:Fg) (x qual:Str) (st:Stmt) (f:Addr) (fd:FuncData):Prop where
 ex:∃ (oc:Value) (od:Option Addr) (kV doc pm:Value) (an:Option Addr) (cdv ct:Value) (osl:Array (Option Value)),
  fd=PySem.W.fnOf x qual (Qx st) (Qv st) (Qg st) .none kV doc pm an cdv ct/\K.lookup f=some ⟨oc,od,.func fd,osl⟩/\PySem.W.codeIn K cdv qual=true
 kp:PySem.W.keepIn K (.ref f)=true
section
variable {P:Program} {w:World} {K:Fg} {mg:Str->Option Value} {base:Heap}
theorem Fun.ok {x qual:Str} {st:Stmt} {f:Addr} {fd:FuncData} {N ps:List Str} {k:Nat} {sp:Sp} (F:Fun K x qual st f fd) (S:FnScope N ps (Qg st)) (len:∀ vs H Q E,sp vs H Q E->vs.length=ps.length)
  (hbody:∀ (cdv:Value) (A:Around) (outer:List Env) (s:Shared) (H:Hp) (vs:List V) (Q:VK) (E:XK),Room k (A.deeper (envOfC qual (Qg st) s.heap.objs.size f cdv))->sp vs H Q E ->
   ∃ t,PSs (cxOf CX0 P w K mg base N qual (Qg st) f cdv A outer s H E).nox (Qv st) t/\t { nx:=fun _ H'=>Q .non H',rt:=Q } (start N vs) H):FnOk P w K mg base CX0 (k + 1) f fd ps sp:=by
 obtain ⟨oc,od,kV,doc,pm,an,cdv,ct,osl,rfl,lk,hcd⟩:=F.ex
 refine fn_of lk hcd S len fun A outer s H vs Q E hr hsp=>?_
 obtain ⟨t,h,q⟩:=hbody cdv A outer s H vs Q E hr hsp
 exact ⟨t,h.nox,q⟩
theorem Fun.binds {x qual:Str} {st:Stmt} {f:Addr} {fd:FuncData} {ps:List Str} (F:Fun K x qual st f fd)
  (h:∀ (kV doc pm:Value) (an:Option Addr) (cdv ct:Value) (us:List Value),us.length=ps.length->bindArgs (PySem.W.fnOf x qual (Qx st) (Qv st) (Qg st) .none kV doc pm an cdv ct) ⟨us,[]⟩=pure (ps.zip us)):Binds K fd ps []:=by
 obtain ⟨oc,od,kV,doc,pm,an,cdv,ct,osl,rfl,lk,hcd⟩:=F.ex
 exact .all (h kV doc pm an cdv ct)
theorem Jp {x qual:Str} {st:Stmt} {f:Addr} {oc:Value} {od an:Option Addr} {osl:Array (Option Value)} {kV doc pm cdv ct:Value} (l:K.lookup f=some ⟨oc,od,.func (PySem.W.fnOf x qual (Qx st) (Qv st) (Qg st) .none kV doc pm an cdv ct),osl⟩)
  (c:PySem.W.codeIn K cdv qual=true) (k:PySem.W.keepIn K (.ref f)=true):Fun K x qual st f (PySem.W.fnOf x qual (Qx st) (Qv st) (Qg st) .none kV doc pm an cdv ct):=⟨⟨oc,od,kV,doc,pm,an,cdv,ct,osl,rfl,l,c⟩,k⟩
end
theorem Qid {A:Around} {k:Nat} (hr:Room k A):A.units + 1 < cLine:=zV (wQ (by decide:1<=64) _) hr.units
section
variable {X:Cx}
theorem pv (i:Nat) {x:Str} {pos:Pos} (hN:autoParam (X.N[i]?=some x) L2.aRfl._auto_1) (hv:Vis X.env.scope x:=by first | exact Or.inl rfl | exact Or.inr (Or.inl rfl) | exact Or.inr (Or.inr rfl)) (hd:autoParam ((x == ("__debug__":Str))=false) L2.aDec._auto_1)
  (hcd:autoParam ((x == ("__classdict__":Str))=false) L2.aDec._auto_1):PE X (.Name x pos) (tVar i):=pe_var hN hv hd hcd
end
theorem iteF {A B:Prop} (h:B):if false=true then A else B:=by
 rw [if_neg yW]
 exact h
theorem iteT {A B:Prop} (h:A):if true=true then A else B:=by
 rw [if_pos rfl]
 exact h
theorem ite2 {c A B:Prop} [Decidable c] (h1:c->A) (h2:¬ c->B):if c then A else B:=by
 by_cases h:c
 ·rw [if_pos h]
  exact h1 h
 ·rw [if_neg h]
  exact h2 h
def Same (H H':Hp):Prop:=∀ b o,H b=some o->H' b=some o
theorem Same.refl (H:Hp):Same H H:=fun _ _ h=>h
theorem Same.trans {H H1 H2:Hp} (a:Same H H1) (b:Same H1 H2):Same H H2:=fun c o h=>b c o (a c o h)
theorem Same.free {H H':Hp} (e:Same H H') {l:Addr} (h:H' l=Option.none):H l=none:=by
 cases q:H l with
 | none=>rfl
 | some o =>
  rw [e l o q] at h
  cases h
theorem Same.seq {K:Fg} {H H':Hp} {a:Addr} {xs:List V} (e:Same H H') (h:SqL K H a xs):SqL K H' a xs:=by
 rcases h with (h | ⟨o,h⟩) | h
 ·exact .inl (.inl (e _ _ h))
 ·exact .inl (.inr ⟨o,e _ _ h⟩)
 ·exact .inr h
theorem Qdd {prog:Program} {w:World} {A:Around} {R:Result->Shared->Prop} {s:Shared} {elt target iter:Expr} {ifs:List Expr} {scope:Scope} {pos:Pos} {it acc:Value} {env:Env} (I:Nat->Shared->Prop)
  (turn:∀ n s,I n s->wpAny (model prog w) A (pyNext it) (fun r s1=>match r with
   | none=>R (.ok .next) s1
   | some v=>wpAny (model prog w) A (letOwnedTupleGo target it v) (fun _ s1'=>wpAny (model prog w) A (assign target env v) (fun _ s2 =>
     wpAny (model prog w) A (forIn ifs true fun c r=>if r=true then do let ok ← isTrue c env (eval c env);pure (ForInStep.yield ok) else pure (ForInStep.yield r)) (fun ok s3 =>
      if ok=true then wpAny (model prog w) A (eval elt env) (fun x s4 =>
       wpAny (model prog w) A (call (.builtin "list.append") [acc,x]) (fun _ s5=>∃ m,m < n/\I m s5) (fun _ _=>False) s4) (fun _ _=>False) s3
      else ∃ m,m < n/\I m s3) (fun _ _=>False) s2) (fun _ _=>False) s1') (fun _ _=>False) s1) (fun _ _=>False) s)
  (n:Nat) (h:I n s) :
  codeAny (model prog w) A (.compLoop (.ListComp elt [⟨target,iter,ifs,0⟩] scope pos) 0 it acc env) R s:=by
 refine codeAny_loop rfl I (fun n s hI=>?_) n h
 show wpAny _ A ((compTurn (.ListComp elt [⟨target,iter,ifs,0⟩] scope pos) 0 it acc env).onRaise (fun x=>do noteFrame x env;theTreesLotGoes x)) _ _ s
 refine wpAny_noted ?_
 rw [compTurn_list]
 refine jQ (wpAny_standAt (jQ (wpAny_mono (turn n s hI) (fun r s1 h1=>?_) fun _ _ h'=>h'.elim)))
 cases r with
 | none=>exact jV h1
 | some v =>
  refine jQ (wpAny_mono h1 (fun _ s1' h1'=>?_) fun _ _ h'=>h'.elim)
  refine jQ (wpAny_mono h1' (fun _ s2 h2=>jQ (wpAny_mono h2 (fun ok s3 h3=>?_) fun _ _ h'=>h'.elim)) fun _ _ h'=>h'.elim)
  cases ok with
  | false=>exact jV ⟨rfl,h3⟩
  | true =>
   exact jQ (jQ (wpAny_mono h3 (fun x s4 h4=>jQ (wpAny_mono h4 (fun _ s5 h5=>jV (jV ⟨rfl,h5⟩)) fun _ _ h'=>h'.elim)) fun _ _ h'=>h'.elim))
def freeOk (sc:Scope):List (Str × NameKind)->Bool
 | []=>true
 | (n,k) :: r=>(k != .free || sc.names.lookup n == some .cell || sc.names.lookup n == some .free) && freeOk sc r
def Zf (env:Env):List (Str × NameKind)->List (Str × Addr)->List (Str × Addr)
 | [],cs=>cs
 | (n,k) :: r,cs=>Zf env r (if k=.free then (n,(env.cells.lookup n).getD 0) :: cs else cs)
theorem Kg {env:Env}:∀ (l:List (Str × NameKind)) (cs:List (Str × Addr)),(∀ n,(n,NameKind.free) ∈ l->∃ c,env.cells.lookup n=some c)->(∀ x c,cs.lookup x=some c->env.cells.lookup x=some c) ->
  ∀ x c,(Zf env l cs).lookup x=some c->env.cells.lookup x=some c
 | [],cs,_,h=>h
 | (n,k) :: r,cs,hl,h=>by
  refine Kg r _ (fun m hm=>hl m (yZ _ hm)) fun x c e=>?_
  by_cases hk:k=.free
  ·rw [if_pos hk] at e
   subst hk
   obtain ⟨c',hc⟩:=hl n kZ
   rw [jZc] at e
   cases hx:x == n with
   | true =>
    rw [hx] at e
    have:x=n:=by simpa using hx
    subst this
    rw [hc] at e
    simp at e
    rw [hc,e]
   | false=>rw [hx] at e;exact h x c e
  ·rw [if_neg hk] at e
   exact h x c e
theorem Kh {env:Env}:∀ (l:List (Str × NameKind)) (cs:List (Str × Addr)) (x:Str),((cs.lookup x).isSome=true\/(x,NameKind.free) ∈ l)->((Zf env l cs).lookup x).isSome=true
 | [],cs,x,h=>by
  rcases h with h | h
  ·exact h
  ·exact nomatch h
 | (n,k) :: r,cs,x,h=>by
  refine Kh r _ x ?_
  rcases h with h | h
  ·left
   split
   ·rw [jZc]
    split
    ·rfl
    ·exact h
   ·exact h
  ·rcases yX.mp h with e | e
   ·cases e
    left
    rw [if_pos rfl,jZc]
    simp
   ·exact .inr e
theorem Jl {scope:Scope} {env:Env} (h:∀ n,(n,NameKind.free) ∈ scope.names->∃ c,env.cells.lookup n=some c):closureFor scope env=pure (Zf env scope.names []):=by
 unfold closureFor
 suffices ∀ (l:List (Str × NameKind)) (cs:List (Str × Addr)),(∀ n,(n,NameKind.free) ∈ l->∃ c,env.cells.lookup n=some c)->(forIn l cs fun x r =>
   if (x.2 == NameKind.free)=true then do let a ← cellOf env x.1;pure (ForInStep.yield ((x.1,a) :: r)) else pure (ForInStep.yield r):Sem _)=pure (Zf env l cs) by
  have:=this scope.names [] h
  simp only at this ⊢
  rw [this]
  rfl
 intro l
 induction l with
 | nil=>intro cs _;rfl
 | cons p r ih =>
  intro cs hl
  obtain ⟨n,k⟩:=p
  rw [List.forIn_cons]
  by_cases hk:k=.free
  ·subst hk
   obtain ⟨c,hc⟩:=hl n kZ
   have e:cellOf env n=pure c:=by unfold cellOf;rw [hc]
   have hb:(NameKind.free == NameKind.free)=true:=rfl
   simp only [hb,if_true,e,Zf,hc,Option.getD_some]
   exact ih _ fun m hm=>hl m (yZ _ hm)
  ·have hb:(k == NameKind.free)=false:=by simpa using hk
   simp only [hb,kQb,if_false,Zf,if_neg hk]
   exact ih _ fun m hm=>hl m (yZ _ hm)
theorem Zq {sc:Scope}:∀ {l:List (Str × NameKind)},freeOk sc l=true->∀ n,(n,NameKind.free) ∈ l->sc.names.lookup n=some .cell\/sc.names.lookup n=some .free
 | [],_,n,h=>nomatch h
 | (m,k) :: r,h,n,hm=>by
  simp only [freeOk,wV] at h
  rcases yX.mp hm with e | e
  ·cases e
   have h1:=h.1
   have hb:(NameKind.free != NameKind.free)=false:=rfl
   rw [hb] at h1
   simp only [Bool.false_or,Bool.or_eq_true,beq_iff_eq] at h1
   exact h1
  ·exact Zq h.2 n e
theorem Yt {env:Env}:∀ {names:List (Str × NameKind)} {x:Str} {k:NameKind},(names.map fun (n,k)=>if (k == NameKind.free && env.scope.kind == .function && env.kindOf n == some .cell) then (n,NameKind.cell) else (n,k)).lookup x=some k ->
  ∃ k0,names.lookup x=some k0/\(k=k0\/(k=.cell/\k0=.free))
 | [],_,_,h=>by simp at h
 | (n,k0) :: r,x,k,h=>by
  rw [yQ] at h
  by_cases hc:(k0 == NameKind.free && env.scope.kind == .function && env.kindOf n == some .cell)=true
  ·simp only [hc,if_true,jZc] at h
   rw [jZc]
   cases hx:x == n with
   | true =>
    rw [hx] at h
    refine ⟨k0,rfl,.inr ⟨(Option.some.inj h).symm,?_⟩⟩
    simp only [wV,beq_iff_eq] at hc
    exact hc.1.1
   | false=>rw [hx] at h;exact Yt h
  ·simp only [hc,kQb,if_false,jZc] at h
   rw [jZc]
   cases hx:x == n with
   | true=>rw [hx] at h;exact ⟨k0,rfl,.inl (Option.some.inj h).symm⟩
   | false=>rw [hx] at h;exact Yt h
theorem lookup_mem {α:Type}:∀ {l:List (Str × α)} {x:Str} {k:α},l.lookup x=some k->(x,k) ∈ l
 | [],_,_,h=>by simp at h
 | (n,k0) :: r,x,k,h=>by
  rw [jZc] at h
  cases hx:x == n with
  | true =>
   rw [hx] at h
   have e1:x=n:=by simpa using hx
   have e2:k0=k:=Option.some.inj h
   subst e1 e2
   exact kZ
  | false=>rw [hx] at h;exact yZ _ (lookup_mem h)
def Wq (cp:List (Option Nat)) (σ:St):St:=cp.map fun (o:Option Nat)=>match o with
 | none=>none
 | some j=>match σ[(j:Nat)]? with
  | some v=>v
  | none=>none
def Kn (X:Cx) (scope:Scope):List Str->List (Option Nat)->Bool
 | [],[]=>true
 | x :: N,o :: cp=>(match o with | none=>true | some j=>X.N[j]? == some x && scope.names.lookup x == some .free) && Kn X scope N cp
 | _,_=>false
theorem Qde {X:Cx} {scope:Scope}:∀ {N:List Str} {cp:List (Option Nat)},Kn X scope N cp=true->cp.length=N.length
 | [],[],_=>rfl
 | _ :: N,_ :: cp,h=>by
  simp only [Kn,wV] at h
  simp [Qde h.2]
 | [],_ :: _,h=>by simp [Kn] at h
 | _ :: _,[],h=>by simp [Kn] at h
theorem Qdf {X:Cx} {scope:Scope}:∀ {N:List Str} {cp:List (Option Nat)} {i:Nat} {x:Str} {v:V} {σ:St},Kn X scope N cp=true->N[i]?=some x->(Wq cp σ)[i]?=some (some v) ->
  ∃ j:Nat,X.N[j]?=some x/\σ[j]?=some (some v)/\scope.names.lookup x=some .free
 | [],[],i,x,v,σ,_,h,_=>by simp at h
 | y :: N,o :: cp,0,x,v,σ,h,e,e2=>by
  simp only [Kn,wV] at h
  have e':y=x:=by simpa using e
  subst e'
  cases o with
  | none=>simp [Wq] at e2
  | some j =>
   have h1:=h.1
   simp only [wV,beq_iff_eq] at h1
   refine ⟨j,h1.1,?_,h1.2⟩
   simp only [Wq,yQ,List.getElem?_cons_zero,Option.some.injEq] at e2
   cases q:σ[j]? with
   | none=>rw [q] at e2;cases e2
   | some z=>rw [q] at e2;exact congrArg some e2
 | y :: N,o :: cp,i + 1,x,v,σ,h,e,e2=>by
  simp only [Kn,wV] at h
  exact Qdf (i:=i) h.2 (by simpa using e) (by simpa [Wq] using e2)
 | [],_ :: _,_,_,_,_,h,_,_=>by simp [Kn] at h
 | _ :: _,[],_,_,_,_,h,_,_=>by simp [Kn] at h
def Yf (X:Cx) (N:List Str) (scope:Scope) (fp:List Addr) (H:Hp) (s:Shared):Cx :=
 { X with N:=N,s₀:=s,H₀:=H,env:=compEnvC scope (Zf X.env scope.names []) s.heap.objs.size X.env,outer:=X.stack,stack:=X.stack,ex:=fp,fn:=fun _=>false,pn:=[],xe:=fun _ _=>False }
section
variable {X:Cx}
theorem Qau {l:List (Str × NameKind)} (h:(l.all fun p=>p.2 != .cell)=true):∀ y ∈ l,y.2 ≠ .cell:=fun y hy=>by
 have:=jXa.mp h y hy
 simpa using this
theorem Qie {pins:List (Addr × Obj)} {σ:St} {H:Hp} {s:Shared} {N:List Str} {scope:Scope} {fp:List Addr} (I:Inv X pins σ H s) (hf:∀ b ∈ fp,FpOk X pins H b) (hlt:∀ b ∈ fp,b < s.heap.objs.size) (hk:scope.kind=.function)
  (hcell:(scope.names.all fun p=>p.2 != .cell)=true) (hfree:freeOk X.env.scope scope.names=true):(Yf X N scope fp H s).Ok:=by
 have has:∀ n,(n,NameKind.free) ∈ scope.names->∃ c,X.env.cells.lookup n=some c:=fun n hn=>I.ok.has n (Zq hfree n hn)
 have sub:∀ x c,(Zf X.env scope.names []).lookup x=some c->X.env.cells.lookup x=some c:=Kg _ _ has fun x c e=>by simp at e
 have fs:∀ b ∈ fp,b ∉ frs X.stack:=fun b hb z=>by
  obtain ⟨_,f1,f2,_⟩:=hf b hb
  rcases yX.mp (I.stkSub b z) with e | e
  ·exact f1 e
  ·exact f2 e
 refine ⟨I.ok.mod,hk,I.ok.glob,I.ok.blt,jK _,fun x y c h1 h2=>I.ok.inj x y c (sub x c h1) (sub y c h2),fun x hx=>?_,(fun x c h=>nomatch h),I.ok.hd,I.ok.frames,.inl rfl,fun b hb=>⟨xY (hlt b hb),fun x c e=>(hf b hb).2.2.2.2.1 x c (sub x c e)⟩,
  I.bs,jQd I.ok.bsz I.sz,fun b o e hb=>?_,fs,I.stack,I.stkFree⟩
 ·have hx':(scope.names.map fun (n,k)=>if (k == NameKind.free && X.env.scope.kind == .function && X.env.kindOf n == some .cell) then (n,NameKind.cell) else (n,k)).lookup x=some .cell \/
    (scope.names.map fun (n,k)=>if (k == NameKind.free && X.env.scope.kind == .function && X.env.kindOf n == some .cell) then (n,NameKind.cell) else (n,k)).lookup x=some .free:=hx
  have fr:(x,NameKind.free) ∈ scope.names:=by
   rcases hx' with e | e
   ·obtain ⟨k0,e0,z | z⟩:=Yt e
    ·subst z
     exact absurd rfl (Qau hcell _ (lookup_mem e0))
    ·obtain ⟨_,z⟩:=z
     subst z
     exact lookup_mem e0
   ·obtain ⟨k0,e0,z | z⟩:=Yt e
    ·subst z
     exact lookup_mem e0
    ·exact nomatch z.1
  exact kQa.mp (Kh _ _ x (.inr fr))
 ·obtain ⟨_,_,_,f3,_⟩:=hf b hb
  rcases f3 with z | z
  ·exact I.ok.noex b o e z
  ·exact absurd (xK (zX (I.ok.bs b o e).1) z) (jKf _)
theorem Qjo {pins:List (Addr × Obj)} {σ:St} {H:Hp} {s:Shared} {N:List Str} {scope:Scope} {fp:List Addr} {cp:List (Option Nat)} {h':Heap} {m:Str->Option Value} {t':Nat} (I:Inv X pins σ H s) (hf:∀ b ∈ fp,FpOk X pins H b) (hlt:∀ b ∈ fp,b < s.heap.objs.size) (hk:scope.kind=.function)
  (hcell:(scope.names.all fun p=>p.2 != .cell)=true) (hfree:freeOk X.env.scope scope.names=true) (hcap:Kn X scope N cp=true)
  (hns:h'.Ns s.heap.objs.size m) (hx:∀ b o,s.heap.get? b=some o->h'.get? b=some o):Inv (Yf X N scope fp H s) [] (Wq cp σ) H { s with heap:=h',toks:=t' }:=by
 have has:∀ n,(n,NameKind.free) ∈ scope.names->∃ c,X.env.cells.lookup n=some c:=fun n hn=>I.ok.has n (Zq hfree n hn)
 have sub:∀ x c,(Zf X.env scope.names []).lookup x=some c->X.env.cells.lookup x=some c:=Kg _ _ has fun x c e=>by simp at e
 refine ⟨Qie I hf hlt hk hcell hfree,rfl,I.bare,⟨fun b o e n _ _=>hx b o e,fun b o e n _ _=>⟨o.slots,hx b o e⟩,fun b o e n _=>n,fun b o e _=>⟨o,hx b o e⟩,fun b xs e=>e,fun b o xs e=>e,fun b ps e=>⟨#[],by rw [Array.append_empty];exact e⟩⟩,⟨m,hns,fun i x v e1 e2 e3=>?_⟩,fun x c e=>?_,I.hok.fresh (jK _),fun x c e=>I.freeC x c (sub x c e),(fun p hp=>nomatch hp),I.hok.kept hx,?_⟩
 ·obtain ⟨j,h1,h2,h3⟩:=Qdf hcap e1 e2
  obtain ⟨m',_,hl⟩:=I.loc
  have hkx:=Zq hfree x (lookup_mem h3)
  obtain ⟨u,r,l⟩:=hl j x v h1 h2 (.inr hkx)
  rcases l with ⟨l,_⟩ | ⟨_,c,hc,hcell'⟩
  ·rcases hkx with z | z
   ·exact nomatch (Option.some.inj (l.symm.trans z))
   ·exact nomatch (Option.some.inj (l.symm.trans z))
  ·obtain ⟨c',hc'⟩:=kQa.mp (Kh (env:=X.env) scope.names [] x (.inr (lookup_mem h3)))
   have ec:=sub x c' hc'
   rw [hc] at ec
   cases ec
   refine ⟨u,r,.inr ⟨?_,c,hc',?_⟩⟩
   ·rcases e3 with z | z | z
    ·obtain ⟨k0,e0,y | y⟩:=Yt (show (scope.names.map fun (n,k)=>if (k == NameKind.free && X.env.scope.kind == .function && X.env.kindOf n == some .cell) then (n,NameKind.cell) else (n,k)).lookup x=some .local from z)
     ·rw [h3] at e0;cases e0;cases y
     ·exact nomatch y.1
    ·exact .inl z
    ·exact .inr z
   ·obtain ⟨o,ho,hd⟩:=hcell'
    exact ⟨o,hx c o ho,hd⟩
 ·obtain ⟨v,o,ho,hd⟩:=I.cell x c (sub x c e)
  exact ⟨v,o,hx c o ho,hd⟩
 ·show (Wq cp σ).length=N.length
  unfold Wq
  rw [jX]
  exact Qde hcap
theorem Qev {pins:List (Addr × Obj)} {σ σ':St} {H H':Hp} {s s':Shared} {N:List Str} {scope:Scope} {fp:List Addr} {pins':List (Addr × Obj)} (I:Inv X pins σ H s) (hf:∀ b ∈ fp,FpOk X pins H b)
  (J:Inv (Yf X N scope fp H s) pins' σ' H' s'):Inv X pins σ H' s' :=
 I.call' (ch:=fp) J.os J.base J.hok J.bare fun b hb=>⟨(hf b hb).2.2.2.1,(hf b hb).2.1,(hf b hb).2.2.2.2.1,(hf b hb).2.2.2.2.2⟩
def PF (X:Cx) (ifs:List Expr) (t:TT):Prop :=
 ∀ (pins:List (Addr × Obj)) (s:Shared) (σ:St) (H:Hp) (Q:Bool->Hp->Prop),Inv X pins σ H s->t σ H Q ->
  wpAny (model X.prog X.w) X.A (forIn ifs true fun c r=>if r=true then do let ok ← isTrue c X.env (eval c X.env);pure (ForInStep.yield ok) else pure (ForInStep.yield r)) (TP X pins σ Q) X.xe s
def tYes:TT:=fun _ H Q=>Q true H
theorem Yl:PF X [] tYes:=fun _ _ _ H _ I h=>wpAny_tests_nil ⟨H,I,h⟩
theorem Zu {c:Expr} {t:TT} (hc:PT X c t):PF X [c] t:=fun pins s σ H Q I h=>wpAny_tests_one (hc pins s σ H Q I h)
def LcW (J:It) (D:Addr) (τ0:St) (H:Hp) (g:TG) (tt:TT) (te:TE) (Q:Addr->Hp->Prop):Prop:=∃ W:Nat->Nat->St->List V->Hp->Prop,(∃ m,W 0 m τ0 [] (upd H D (.lst [])))/\∀ i m τ ys H,W i m τ ys H ->
 H D=some (.lst ys)/\((J.stop i H/\Q D H)\/(J.go i H/\ys.length < sizeLine/\∃ (N1:St->V->Hp->Prop) (N2:St->Hp->Prop),(∀ τ v H,N1 τ v H->∃ m',m' < m/\W (i + 1) m' τ (ys ++ [v]) (upd H D (.lst (ys ++ [v]))))/\(∀ τ H,N2 τ H->∃ m',m' < m/\W (i + 1) m' τ ys H) /\
  ∀ x H',J.yld i H x H'->g x τ H' fun σ2 H2=>tt σ2 H2 fun ok H3=>if ok=true then te σ2 H3 fun v H4=>H4 D=some (.lst ys)/\N1 σ2 v H4 else N2 σ2 H3))
def tLC (cp:List (Option Nat)) (wi:TI) (g:TG) (tt:TT) (te:TE) (σ:St) (H:Hp) (Q:Addr->Hp->Prop):Prop:=wi σ H fun J H1=>∀ D,H1 D=none->LcW J D (Wq cp σ) H1 g tt te Q
theorem Qge {elt iter target:Expr} {ifs:List Expr} {scope:Scope} {pos:Pos} {N:List Str} {cp:List (Option Nat)} {g:TG} {tt:TT} {te:TE} {pins:List (Addr × Obj)} {σ:St} {H:Hp} {s:Shared} {E:Value->Shared->Prop} {Q:Addr->Hp->Prop}
  {it:Addr} {fp:List Addr} {tn:Nat->Heap->Prop} {J:It} {RR:Value->Addr->Result->Shared->Prop} (hc:X.calm=true) (hk:scope.kind=.function) (hcell:(scope.names.all fun p=>p.2 != .cell)=true) (hfree:freeOk X.env.scope scope.names=true) (hcap:Kn X scope N cp=true)
  (hg:∀ fp H s,PG (Yf X N scope fp H s) target g) (ht:∀ fp H s,PF (Yf X N scope fp H s) ifs tt) (he:∀ fp H s,PE (Yf X N scope fp H s) elt te)
  (I:Inv X pins σ H s) (T:Turn X.prog X.w X.K target J fp it tn) (st:tn 0 s.heap) (hf:∀ b ∈ fp,FpOk X pins H b)
  (h:∀ D,H D=none->LcW J D (Wq cp σ) H g tt te Q)
  (hRR:∀ D C s' H' m,Inv X pins σ H' s'->FpOk X pins H' C->s'.heap.Ns C m->Q D H'->RR (.ref D) C (.ok .next) s') :
  wpAny (model X.prog X.w) X.A (newList []) (fun acc s3=>wpAny (model X.prog X.w) X.A (newFunctionEnv scope X.env.globals (Zf X.env scope.names []) [] X.env.qual none .none (some X.env)) (fun cenv s4 =>
   codeAny (model X.prog X.w) X.A (.compStart (.ListComp elt [⟨target,iter,ifs,0⟩] scope pos) 0 (.ref it) acc { cenv with scope:=relabel scope X.env }) (RR acc cenv.locals) s4) E s3) E s:=by
 have hlt:∀ b ∈ fp,b < s.heap.objs.size:=fun b hb=>by
  obtain ⟨o,e,_⟩:=T.obj _ _ st b hb
  exact zX e
 refine wpAny_newObj_type (wpAny_newFunctionEnv (Qau hcell) (by intro y hy;simp at hy) (fun h1 hns1 hsb1=>?_) hk)
 dsimp only at hns1 hsb1 ⊢
 have hD:H s.heap.objs.size=none:=I.hok.fresh (jK _)
 have I3:Inv X pins σ (upd H s.heap.objs.size (.lst [])) { s with heap:=s.heap.push { cls:=.type "list",dict:=none,data:=.seq ([]:List Value).toArray } } :=
  I.laid (t':=s.toks) (fun b u e=>jW _ e) (jK _) ⟨jXe _,[],0,.nil,yK _ rfl⟩
 have hf3:∀ b ∈ fp,FpOk X pins (upd H s.heap.objs.size (.lst [])) b:=fun b hb=>⟨by rw [Qi (xY (hlt b hb))];exact (hf b hb).1,(hf b hb).2⟩
 have hlt3:∀ b ∈ fp,b < (s.heap.push { cls:=.type "list",dict:=none,data:=.seq ([]:List Value).toArray }).objs.size:=fun b hb=>by rw [jZd];exact Nat.lt_succ_of_lt (hlt b hb)
 generalize hH2:s.heap.push { cls:=.type "list",dict:=none,data:=.seq ([]:List Value).toArray }=H2 at hns1 hsb1 I3 hlt3 ⊢
 generalize hs3:({ s with heap:=H2 }:Shared)=s3 at I3
 have hs3h:s3.heap=H2:=by rw [← hs3]
 have ext1:∀ b o,s3.heap.get? b=some o->h1.get? b=some o:=fun b o e=>by
  rw [hs3h] at e
  exact hsb1.extBut b o (xY (zX e)) (jW _ e)
 have J0:Inv (Yf X N scope fp (upd H s.heap.objs.size (.lst [])) s3) [] (Wq cp σ) (upd H s.heap.objs.size (.lst [])) { s3 with heap:=h1,toks:=s.toks + ([]:List (Str × Value)).length } :=
  Qjo I3 hf3 (by rw [hs3h];exact hlt3) hk hcell hfree hcap (by rw [hs3h];exact hns1) ext1
 have st1:tn 0 h1:=T.keep _ _ _ st fun b hb o e=>ext1 b o (by rw [hs3h,← hH2];exact jW _ e)
 obtain ⟨W,⟨m0,w0⟩,turn⟩:=h s.heap.objs.size hD
 have stat:∀ {H':Hp},(∀ b ∈ fp,H' b=none)->∀ b ∈ fp,FpOk (Yf X N scope fp (upd H s.heap.objs.size (.lst [])) s3) [] H' b:=fun {H'} hn b hb =>
  ⟨hn b hb,(J0.ok.exf b hb).1,J0.ok.exfs b hb,.inl hb,(J0.ok.exf b hb).2,fun p hp=>nomatch hp⟩
 have loop:codeAny (model X.prog X.w) X.A (.compLoop (.ListComp elt [⟨target,iter,ifs,0⟩] scope pos) 0 (.ref it) (.ref s.heap.objs.size) (compEnvC scope (Zf X.env scope.names []) H2.objs.size X.env))
   (RR (.ref s.heap.objs.size) H2.objs.size) { s3 with heap:=h1,toks:=s.toks + ([]:List (Str × Value)).length }:=by
  have eEnv:compEnvC scope (Zf X.env scope.names []) H2.objs.size X.env=(Yf X N scope fp (upd H s.heap.objs.size (.lst [])) s3).env:=by
   rw [← hs3h];rfl
  rw [eEnv]
  refine Qdd (fun n s'=>∃ i τ ys H',Inv (Yf X N scope fp (upd H s.heap.objs.size (.lst [])) s3) [] τ H' s'/\tn i s'.heap/\(∀ b ∈ fp,H' b=none)/\W i n τ ys H') ?_ m0 ⟨0,Wq cp σ,[],_,J0,st1,fun b hb=>(hf3 b hb).1,w0⟩
  rintro n s4 ⟨i,τ,ys,H4,I4,st4,fr4,w4⟩
  obtain ⟨hD4,hh⟩:=turn i n τ ys H4 w4
  rcases hh with ⟨stop,qn⟩ | ⟨go,hlen,N1,N2,hN1,hN2,step⟩
  ·refine thn (T.done (Yf X N scope fp (upd H s.heap.objs.size (.lst [])) s3) rfl rfl rfl hc i [] s4 τ H4 _ I4 (stat fr4) st4 stop) fun r s5 hqP=>?_
   obtain ⟨hr,I5⟩:=hqP
   subst hr
   obtain ⟨m,hm,_⟩:=I5.loc
   have e5:H2.objs.size=(Yf X N scope fp (upd H s.heap.objs.size (.lst [])) s3).env.locals:=by rw [← eEnv];rfl
   refine hRR _ _ s5 H4 m (Qev I3 hf3 I5) ?_ (by rw [e5];exact hm) qn
   exact I3.fpOk (by rw [hs3h];exact jK _) (by rw [e5];exact I5.free)
  ·refine thn (T.item (Yf X N scope fp (upd H s.heap.objs.size (.lst [])) s3) rfl rfl rfl hc i [] s4 τ H4 _ I4 (stat fr4) st4 go) fun r s5 hqP=>?_
   obtain ⟨u,hr,h5⟩:=hqP
   subst hr
   refine thn h5 fun _ s6 hqP=>?_
   obtain ⟨x,H6,I6,r6,y6,st6,fr6⟩:=hqP
   have I6':=I6.pinned (stat fr6) (T.obj _ _ st6)
   refine thn (hg fp _ _ _ s6 τ H6 x u _ I6' r6 (step x H6 y6)) fun _ s7 hqP=>?_
   obtain ⟨σ7,H7,I7,q7⟩:=hqP
   refine thn (ht fp _ _ _ s7 σ7 H7 _ I7 q7) fun ok s8 hqP=>?_
   obtain ⟨H8,I8,q8⟩:=hqP
   have back:∀ {σ':St} {H':Hp} {s':Shared},Inv (Yf X N scope fp (upd H s.heap.objs.size (.lst [])) s3) ([] ++ Qcs fp s6.heap) σ' H' s'->Inv (Yf X N scope fp (upd H s.heap.objs.size (.lst [])) s3) [] σ' H' s'/\tn (i + 1) s'.heap/\∀ b ∈ fp,H' b=none:=fun {σ' H' s'} I'=>by
    refine ⟨I'.unpinned,T.keep _ _ _ st6 fun b hb o e=>(I'.pin (b,o) (xZ _ (xZ _ (Jv hb e)))).1,fun b hb=>?_⟩
    obtain ⟨o,e,d⟩:=T.obj _ _ st6 b hb
    exact (I'.pin (b,o) (xZ _ (xZ _ (Jv hb e)))).2.1
   cases ok with
   | false =>
    rw [if_neg yW] at q8 ⊢
    obtain ⟨m',hm,w8⟩:=hN2 _ _ q8
    obtain ⟨b1,b2,b3⟩:=back I8
    exact ⟨m',hm,i + 1,σ7,ys,H8,b1,b2,b3,w8⟩
   | true =>
    rw [if_pos rfl] at q8 ⊢
    refine thn (he fp _ _ _ s8 σ7 H8 _ I8 q8) fun y s9 hqP=>?_
    obtain ⟨v,H9,I9,r9,hD9,n9⟩:=hqP
    obtain ⟨m',hm,w9⟩:=hN1 _ _ _ n9
    refine thn (Xb _ s9 σ7 H9 (.ref s.heap.objs.size) [v] (.ref s.heap.objs.size) [y] (fun _ H'=>H'=upd H9 s.heap.objs.size (.lst (ys ++ [v]))) I9 rfl (.cons r9 .nil) ⟨_,ys,v,rfl,rfl,hD9,hlen,rfl⟩) fun _ s10 hqP=>?_
    obtain ⟨_,H10,I10,_,e10⟩:=hqP
    subst e10
    obtain ⟨b1,b2,b3⟩:=back I10
    exact ⟨m',hm,i + 1,σ7,_,_,b1,b2,b3,w9⟩
 have e3:({ s with heap:=h1,toks:=s.toks + ([]:List (Str × Value)).length }:Shared)={ s3 with heap:=h1,toks:=s.toks + ([]:List (Str × Value)).length }:=by rw [← hs3]
 rw [e3]
 exact codeAny_compStart_list loop (T.self _ 0 _ _ _ st1 loop)
theorem Yr {elt iter target:Expr} {ifs:List Expr} {scope:Scope} {pos:Pos} (N:List Str) (cp:List (Option Nat)) {wi:TI} {g:TG} {tt:TT} {te:TE} (hc:X.calm=true) (hi:PI X target iter wi)
  (hg:∀ fp H s,PG (Yf X N scope fp H s) target g) (ht:∀ fp H s,PF (Yf X N scope fp H s) ifs tt) (he:∀ fp H s,PE (Yf X N scope fp H s) elt te)
  (hk:autoParam (scope.kind=.function) L2.aRfl._auto_1) (hcell:autoParam ((scope.names.all fun p=>p.2 != .cell)=true) L2.aRfl._auto_1) (hfree:autoParam (freeOk X.env.scope scope.names=true) L2.aRfl._auto_1) (hcap:autoParam (Kn X scope N cp=true) L2.aRfl._auto_1)
  (hnames:autoParam ((scope.names.all fun p=>p.2 != .local || scope.names.lookup p.1 == some .local)=true) L2.aRfl._auto_1) (hs:autoParam (∀ x,foldedSetIterable iter X.env x=pure x) L2.aIrf._auto_1) :
  PE X (.ListComp elt [⟨target,iter,ifs,0⟩] scope pos) (fun σ H Q=>tLC cp wi g tt te σ H fun D H'=>Q (.ref D) H'):=by
 intro pins s σ H Q I h
 rw [eval_ListComp]
 have has:∀ n,(n,NameKind.free) ∈ scope.names->∃ c,X.env.cells.lookup n=some c:=fun n hn=>I.ok.has n (Zq hfree n hn)
 refine wpAny_comprehension_free (use:=none) rfl hs (Jl has) hk (fun x hx hl=>?_) (thn (hi pins s σ H _ I h) fun xv s1 h1=>thn h1 fun itv s2 h2=>?_)
 ·have:=jXa.mp hnames x hx
  simp only [Bool.or_eq_true,bne_iff_ne,beq_iff_eq] at this
  exact this.resolve_left fun z=>z hl
 ·obtain ⟨it,fp,tn,J,H2,e,I2,T,st2,f2,hW⟩:=h2
  subst e
  refine Qge (N:=N) (cp:=cp) hc hk hcell hfree hcap hg ht he I2 T st2 f2 hW fun D C s' H' m I' fC hm q=>⟨m,hm,fun h' hsb=>?_⟩
  exact ⟨.ref D,H',I'.turned (t':=s'.toks) (fun b o hb e=>hsb.extBut b o hb e) fC.1 fC.2.1 fC.2.2.2.1 fC.2.2.2.2.1 fC.2.2.2.2.2,rfl,q⟩
theorem Vd {i:Nat} {x:Str} {px:Pos} {elt iter target:Expr} {ifs:List Expr} {scope:Scope} {pos spos:Pos} (N:List Str) (cp:List (Option Nat)) {wi:TI} {g:TG} {tt:TT} {te:TE} (hc:X.calm=true) (hN:X.N.Nodup) (hi':X.N[i]?=some x) (hx:Loc X.env.scope x) (hi:PI X target iter wi)
  (hg:∀ fp H s,PG (Yf X N scope fp H s) target g) (ht:∀ fp H s,PF (Yf X N scope fp H s) ifs tt) (he:∀ fp H s,PE (Yf X N scope fp H s) elt te)
  (hsw:autoParam (swapsWith (.ListComp elt [⟨target,iter,ifs,0⟩] scope pos) (some (.Name x px)) spos.line X.env=pure true) L2.aRfl._auto_1)
  (hk:autoParam (scope.kind=.function) L2.aRfl._auto_1) (hcell:autoParam ((scope.names.all fun p=>p.2 != .cell)=true) L2.aRfl._auto_1) (hfree:autoParam (freeOk X.env.scope scope.names=true) L2.aRfl._auto_1) (hcap:autoParam (Kn X scope N cp=true) L2.aRfl._auto_1)
  (hnames:autoParam ((scope.names.all fun p=>p.2 != .local || scope.names.lookup p.1 == some .local)=true) L2.aRfl._auto_1) (hs:autoParam (∀ x,foldedSetIterable iter X.env x=pure x) L2.aIrf._auto_1)
  (hf:autoParam (X.fn x=true\/X.env.scope.names.lookup x=some .local) L2.aFst._auto_1) :
  PS X (.Assign [.Name x px] (.ListComp elt [⟨target,iter,ifs,0⟩] scope pos) spos) (fun D σ H=>tLC cp wi g tt te σ H fun a H'=>D.nx (σ.set i (some (.ref a))) H'):=by
 intro pins s σ H D I h
 have has:∀ n,(n,NameKind.free) ∈ scope.names->∃ c,X.env.cells.lookup n=some c:=fun n hn=>I.ok.has n (Zq hfree n hn)
 rw [exec_Assign_Name_used _ _ _ _ hsw]
 refine jQ (wpAny_standAt (jQ ?_))
 show wpAny _ _ (do let _ ← comprehension (.ListComp elt [⟨target,iter,ifs,0⟩] scope pos) scope X.env _ (newList []) false (eval iter X.env) (some (assign (.Name x px) X.env))) _ _ s
 refine jQ (wpAny_mono (wpAny_comprehension_free (use:=some (assign (.Name x px) X.env)) (Q:=fun _ s'=>SP X pins D .next s') rfl hs (Jl has) hk (fun x hx hl=>?_)
  (thn (hi pins s σ H _ I h) fun xv s1 h1=>thn h1 fun itv s2 h2=>?_)) (fun _ s' hq=>jV (jV hq)) fun _ _ e=>e)
 ·have:=jXa.mp hnames x hx
  simp only [Bool.or_eq_true,bne_iff_ne,beq_iff_eq] at this
  exact this.resolve_left fun z=>z hl
 ·obtain ⟨it,fp,tn,J,H2,e,I2,T,st2,f2,hW⟩:=h2
  subst e
  refine Qge (N:=N) (cp:=cp) hc hk hcell hfree hcap hg ht he I2 T st2 f2 hW fun D' C s' H' m I' fC hm q=>?_
  show wpAny _ _ (assign (.Name x px) X.env (.ref D')) _ _ _
  refine wpAny_assign_Name (Qcr I' hN hi' hx (v:=.ref D') rfl (fun s'' I'' hsb=>?_) hf)
  obtain ⟨a,hsb,ha⟩:=hsb
  have hCa:C ≠ a:=by
   rcases ha with e | e
   ·rw [e];exact fC.2.1
   ·exact fun z=>fC.2.2.2.2.1 x a e z.symm
  refine ⟨m,hm.sameBut hsb hCa,fun h' hsb'=>?_⟩
  exact ⟨_,H',I''.turned (t':=s''.toks) (fun b o hb e=>hsb'.extBut b o hb e) fC.1 fC.2.1 fC.2.2.2.1 fC.2.2.2.2.1 fC.2.2.2.2.2,q⟩
end
structure Drw (P:Program) (w:World) (it l:Addr) (st:Nat->Heap->Prop) (src:List Value->Heap->Prop):Prop where
 obj:∀ i h,st i h->∃ o,h.get? it=some o/\∀ v,o.data ≠ .cell v
 keep:∀ i h h',st i h->(∀ o,h.get? it=some o->h'.get? it=some o)->st i h'
 srck:∀ xs h h',src xs h->(∀ o,h.get? l=some o->h'.get? l=some o)->src xs h'
 item:∀ (A:Around) (E:Value->Shared->Prop) (s:Shared) (i:Nat) (xs:List Value) (x:Value) (Q:Value->Shared->Prop),st i s.heap->src xs s.heap->xs[i]?=some x ->
  (∀ h',st (i + 1) h'->Heap.SameBut it s.heap h'->Q x { s with heap:=h' })->wpAny (model P w) A (Builtin.SmallTypes.nextOf (.ref it)) Q E s
 done:∀ (A:Around) (E:Value->Shared->Prop) (s:Shared) (i:Nat) (xs:List Value) (Q:Value->Shared->Prop),A.handled=none->st i s.heap->src xs s.heap->xs[i]?=none ->
  (∀ h' e,Heap.ExtBut it s.heap h'->(∃ o,h'.get? e=some o/\o.cls=.type "StopIteration")->E (.ref e) { s with heap:=h' })->wpAny (model P w) A (Builtin.SmallTypes.nextOf (.ref it)) Q E s
theorem Qml {P:Program} {w:World} (it l:Addr):Drw P w it l (fun i h=>h.IsListIter it l i) (fun xs h=>h.IsList l xs.toArray) where
 obj:=fun i h st=>by
  obtain ⟨o,e,c,d⟩:=st
  exact ⟨o,e,fun v z=>by rw [d] at z;cases z⟩
 keep:=fun i h h' st k=>st.at k
 srck:=fun xs h h' sr k=>sr.at k
 item:=fun A E s i xs x Q st sr hx hQ=>wpAny_nextOf_list_item st sr (by simpa using hx) hQ
 done:=fun A E s i xs Q hh st sr hx hE=>wpAny_nextOf_list_end hh st sr (by simpa using hx) hE
section
variable {P:Program} {w:World} {A:Around} {E:Value->Shared->Prop} {s:Shared}
theorem Wr {it t:Addr} {i:Nat} {xs:Array Value} {x:Value} {Q:Value->Shared->Prop} (hI:s.heap.IsTupleIter it t i) (hT:s.heap.IsTuple t xs) (hx:xs[i]?=some x)
  (hQ:∀ h',h'.IsTupleIter it t (i + 1)->Heap.SameBut it s.heap h'->Q x { s with heap:=h' }):wpAny (model P w) A (Builtin.SmallTypes.nextOf (.ref it)) Q E s:=by
 obtain ⟨oI,gI,cI,dI⟩:=id hI
 obtain ⟨oT,gT,_,nT,dT⟩:=hT
 unfold Builtin.SmallTypes.nextOf
 refine jQ (wpAny_callSpecial?_slot (name:=Str.ofString "__next__") hI.typeIs F.slot_tuple_iterator_next (wpAny_call_entry F.slot_tuple_iterator_next hI.typeIs F.entry_tuple_iterator_next ?_ (F.args_tuple_iterator_next_1 _)))
 show wpAny _ _ (field (.ref it) 0 >>= _) _ _ s
 refine jQ (wpAny_field gI dI (x:=.ref t) rfl ?_)
 show wpAny _ _ (if (Value.ref t == Value.none)=true then _ else _) _ _ s
 rw [if_neg (show ¬ ((Value.ref t == Value.none)=true) from yW)]
 show wpAny _ _ (field (.ref it) 1 >>= _) _ _ s
 refine jQ (wpAny_field gI dI (x:=.int i 0) rfl ?_)
 show wpAny _ _ (seqItems? (.ref t) >>= _) _ _ s
 refine jQ (wpAny_seqItems gT dT ?_)
 simp only [jXf,hx]
 refine jQ (wpAny_setField gI dI (by simp) (jV ⟨x,rfl,jV (hQ _ ?_ (Heap.SameBut.update ..))⟩))
 refine ⟨_,Heap.get?_update_self _ gI (Obj.isFreed_of_fields (Obj.data_mapFields dI _)),(Obj.cls_mapFields ..).trans cI,?_⟩
 rw [Obj.data_mapFields dI];simp [rawInt]
theorem Qam {it t:Addr} {i:Nat} {xs:Array Value} {Q:Value->Shared->Prop} (hh:A.handled=none) (hI:s.heap.IsTupleIter it t i) (hT:s.heap.IsTuple t xs) (hx:xs[i]?=none)
  (hE:∀ h' e,Heap.ExtBut it s.heap h'->(∃ o,h'.get? e=some o/\o.cls=.type "StopIteration")->E (.ref e) { s with heap:=h' }):wpAny (model P w) A (Builtin.SmallTypes.nextOf (.ref it)) Q E s:=by
 obtain ⟨oI,gI,cI,dI⟩:=id hI
 obtain ⟨oT,gT,_,nT,dT⟩:=hT
 unfold Builtin.SmallTypes.nextOf
 refine jQ (wpAny_callSpecial?_slot (name:=Str.ofString "__next__") hI.typeIs F.slot_tuple_iterator_next (wpAny_call_entry F.slot_tuple_iterator_next hI.typeIs F.entry_tuple_iterator_next ?_ (F.args_tuple_iterator_next_1 _)))
 show wpAny _ _ (field (.ref it) 0 >>= _) _ _ s
 refine jQ (wpAny_field gI dI (x:=.ref t) rfl ?_)
 show wpAny _ _ (if (Value.ref t == Value.none)=true then _ else _) _ _ s
 rw [if_neg (show ¬ ((Value.ref t == Value.none)=true) from yW)]
 show wpAny _ _ (field (.ref it) 1 >>= _) _ _ s
 refine jQ (wpAny_field gI dI (x:=.int i 0) rfl ?_)
 show wpAny _ _ (seqItems? (.ref t) >>= _) _ _ s
 refine jQ (wpAny_seqItems gT dT ?_)
 simp only [jXf,hx]
 refine jQ (wpAny_rule (jQ (wpAny_setField gI dI (by simp) ?_)))
 show wpAny _ _ (newExc (.type "StopIteration") [] >>= _) _ _ _
 refine jQ ?_
 simp only [newExc,newTuple]
 refine jQ (wpAny_newObj_type ?_ (by size_fits))
 refine jQ (m:=firstArgMember _ _) (wpAny_of_eq (a:=Value.none) (by first | rfl | (simp only [firstArgMember];rfl)) ?_)
 refine wpAny_newObj_type ?_ (by size_fits)
 simp only [raiseNew]
 refine jQ (wpAny_handled ?_)
 first | rw [show A.in1.handled=none from hh] | rw [hh]
 exact jQ (jV (wpAny_throw (hE _ _ (((Heap.SameBut.update ..).extBut.push _).push _) ⟨_,yK _ rfl,rfl⟩)))
end
theorem Qqa {P:Program} {w:World} (it l:Addr):Drw P w it l (fun i h=>h.IsTupleIter it l i) (fun xs h=>h.IsTuple l xs.toArray) where
 obj:=fun i h st=>by
  obtain ⟨o,e,c,d⟩:=st
  exact ⟨o,e,fun v z=>by rw [d] at z;cases z⟩
 keep:=fun i h h' st k=>st.at k
 srck:=fun xs h h' sr k=>sr.at k
 item:=fun A E s i xs x Q st sr hx hQ=>Wr st sr (by simpa using hx) hQ
 done:=fun A E s i xs Q hh st sr hx hE=>Qam hh st sr (by simpa using hx) hE
section
variable {P:Program} {w:World} {A:Around} {E:Value->Shared->Prop} {s:Shared} {z u o i1 i2 l1 l2:Addr} {st1 st2:Nat->Heap->Prop} {src1 src2:List Value->Heap->Prop} {k1 k2:Nat} {xs ys:List Value} {a b:Value}
theorem Qdg {x y:Value} {Q:Option Value->Shared->Prop} (d1:Drw P w i1 l1 st1 src1) (d2:Drw P w i2 l2 st2 src2) (D:ZipApart z u o i1 i2 l1 l2) (hZ:IsZip s.heap z u o .none) (hU:IsPair s.heap u (.ref i1) (.ref i2)) (hO:IsPair s.heap o a b)
  (h1:st1 k1 s.heap) (h2:st2 k2 s.heap) (hl1:src1 xs s.heap) (hl2:src2 ys s.heap) (hx:xs[k1]?=some x) (hy:ys[k2]?=some y)
  (hQ:∀ h',IsZip h' z u o (rawInt s.heap.objs.size)->IsPair h' o x y->st1 (k1 + 1) h'->st2 (k2 + 1) h'->IsPair h' s.heap.objs.size x y->h'.objs.size=s.heap.objs.size + 1 ->
   (∀ c q,c ≠ z->c ≠ o->c ≠ i1->c ≠ i2->s.heap.get? c=some q->h'.get? c=some q)->Q (some (.ref s.heap.objs.size)) { s with heap:=h' }):wpAny (model P w) A (pyNext (.ref z)) Q E s:=by
 have hTy:s.TypeIs (.ref z) "zip":=⟨_,hZ,rfl⟩
 unfold pyNext
 refine jQ (wpAny_attempt (wpAny_callSpecial?_slot (name:=Str.ofString "__next__") hTy F.slot_zip_next (wpAny_call_entry F.slot_zip_next hTy F.entry_zip_next ?_ (F.args_zip_next_1 _))))
 show wpAny _ _ (field (.ref z) 2 >>= _) _ _ _
 refine jQ (wpAny_field hZ rfl (x:=.bool false) rfl ?_)
 show wpAny _ _ (field (.ref z) 3 >>= _) _ _ _
 refine jQ (wpAny_field hZ rfl (x:=.ref u) rfl (jQ (wpAny_seqItems hU rfl ?_)))
 show wpAny _ _ (Builtin.SmallTypes.ownedTupleIsFree (.ref z) >>= _) _ _ _
 refine jQ ?_
 unfold Builtin.SmallTypes.ownedTupleIsFree
 refine jQ (wpAny_field hZ rfl (x:=.none) rfl (jV ?_))
 simp only [if_true]
 refine jQ (wpAny_rule (jQ (wpAny_field hZ rfl (x:=.ref o) rfl (jQ (wpAny_setField_rec hZ (by simp) fun g1 hZ1 e1=>?_)))))
 replace hZ1:IsZip g1 z u o .ellipsis:=hZ1
 refine jQ ?_
 simp only [List.zipIdx_cons,List.zipIdx_nil,List.forIn_cons,List.forIn_nil]
 refine jQ (jQ (wpAny_onRaise ?_))
 show wpAny _ _ (Builtin.SmallTypes.nextOf (.ref i1) >>= _) _ _ _
 refine jQ (d1.item _ _ { s with heap:=g1 } k1 xs x _ (d1.keep _ _ _ h1 fun q e=>e1.extBut _ _ D.i1z e) (d1.srck _ _ _ hl1 fun q e=>e1.extBut _ _ D.l1z e) hx fun g2 h1' e2=>jV ?_)
 have hO2:IsPair g2 o a b:=e2.extBut _ _ D.TOi1 (e1.extBut _ _ D.TOz hO)
 refine jQ (wpAny_seqItems hO2 rfl (jQ (wpAny_updateSeq_pair hO2 fun g3 hO3 e3=>?_)))
 replace hO3:IsPair g3 o x b:=hO3
 refine jQ (wpAny_letGo (jV ?_))
 refine jQ (jQ (wpAny_onRaise ?_))
 show wpAny _ _ (Builtin.SmallTypes.nextOf (.ref i2) >>= _) _ _ _
 refine jQ (d2.item _ _ { s with heap:=g3 } k2 ys y _ (d2.keep _ _ _ h2 fun q e=>e3.extBut _ _ D.TOi2.symm (e2.extBut _ _ D.i12.symm (e1.extBut _ _ D.i2z e)))
  (d2.srck _ _ _ hl2 fun q e=>e3.extBut _ _ D.l2TO (e2.extBut _ _ D.l2i1 (e1.extBut _ _ D.l2z e))) hy fun g4 h2' e4=>jV ?_)
 have hO4:IsPair g4 o x b:=e4.extBut _ _ D.TOi2 hO3
 refine jQ (wpAny_seqItems hO4 rfl (jQ (wpAny_updateSeq_pair hO4 fun g5 hO5 e5=>?_)))
 replace hO5:IsPair g5 o x y:=hO5
 refine jQ (wpAny_letGo (jV (jV ?_)))
 refine jQ (wpAny_seqItems hO5 rfl (jQ (wpAny_newTuple ?_)))
 have hsz:g5.objs.size=s.heap.objs.size:=by rw [e5.1,e4.1,e3.1,e2.1,e1.1]
 have hZ5:IsZip g5 z u o .ellipsis:=e5.extBut _ _ D.TOz.symm (e4.extBut _ _ D.i2z.symm (e3.extBut _ _ D.TOz.symm (e2.extBut _ _ D.i1z.symm hZ1)))
 have hk5:∀ c q,c ≠ z->c ≠ o->c ≠ i1->c ≠ i2->s.heap.get? c=some q->g5.get? c=some q:=fun c q c1 c2 c3 c4 e =>
  e5.extBut _ _ c2 (e4.extBut _ _ c4 (e3.extBut _ _ c2 (e2.extBut _ _ c3 (e1.extBut _ _ c1 e))))
 have s15:st1 (k1 + 1) g5:=d1.keep _ _ _ h1' fun q e=>e5.extBut _ _ D.TOi1.symm (e4.extBut _ _ D.i12 (e3.extBut _ _ D.TOi1.symm e))
 have s25:st2 (k2 + 1) g5:=d2.keep _ _ _ h2' fun q e=>e5.extBut _ _ D.TOi2.symm e
 have zlt:z < g5.objs.size:=zX hZ5
 show wpAny _ _ (Builtin.SmallTypes.ownedTupleHandOut (.ref z) (.ref g5.objs.size) >>= _) _ _ _
 refine jQ ?_
 unfold Builtin.SmallTypes.ownedTupleHandOut
 have hZ6:IsZip (g5.push { cls:=.type "tuple",data:=.seq #[x,y] }) z u o .ellipsis:=jW _ hZ5
 refine jQ (wpAny_setField_rec hZ6 (by simp) fun g7 hZ7 e7=>?_)
 replace hZ7:IsZip g7 z u o (rawInt g5.objs.size):=hZ7
 refine wpAny_setField_rec hZ7 (by simp) fun g8 hZ8 e8=>?_
 replace hZ8:IsZip g8 z u o (rawInt g5.objs.size):=hZ8
 have up:∀ c q,c ≠ z->g5.get? c=some q->g8.get? c=some q:=fun c q c1 e=>e8.extBut _ _ c1 (e7.extBut _ _ c1 (jW _ e))
 have hT8:IsPair g8 g5.objs.size x y:=e8.extBut _ _ (Nat.ne_of_gt zlt) (e7.extBut _ _ (Nat.ne_of_gt zlt) (yK _ rfl))
 have hs8:g8.objs.size=g5.objs.size + 1:=by rw [e8.1,e7.1,jZd]
 rw [hsz] at hZ8 hT8 hs8
 refine jV ⟨_,rfl,jV ?_⟩
 show Q (some (.ref g5.objs.size)) _
 rw [hsz]
 exact hQ g8 hZ8 (up _ _ D.TOz hO5) (d1.keep _ _ _ s15 fun q e=>up _ q D.i1z e) (d2.keep _ _ _ s25 fun q e=>up _ q D.i2z e) hT8 hs8 fun c q c1 c2 c3 c4 e=>up c q c1 (hk5 c q c1 c2 c3 c4 e)
theorem Qew {Q:Option Value->Shared->Prop} (hh:A.handled=none) (d1:Drw P w i1 l1 st1 src1) (d2:Drw P w i2 l2 st2 src2) (D:ZipApart z u o i1 i2 l1 l2) (hZ:IsZip s.heap z u o .none) (hU:IsPair s.heap u (.ref i1) (.ref i2)) (hO:IsPair s.heap o a b)
  (h1:st1 k1 s.heap) (h2:st2 k2 s.heap) (hl1:src1 xs s.heap) (hl2:src2 ys s.heap) (hend:xs[k1]?=none\/ys[k2]?=none)
  (hQ:∀ h',(∀ c q,c ≠ z->c ≠ o->c ≠ i1->c ≠ i2->s.heap.get? c=some q->h'.get? c=some q)->Q none { s with heap:=h' }):wpAny (model P w) A (pyNext (.ref z)) Q E s:=by
 have hTy:s.TypeIs (.ref z) "zip":=⟨_,hZ,rfl⟩
 unfold pyNext
 have fin:∀ (h':Heap) (e:Addr),(∀ c q,c ≠ z->c ≠ o->c ≠ i1->c ≠ i2->s.heap.get? c=some q->h'.get? c=some q)->(∃ o,h'.get? e=some o/\o.cls=.type "StopIteration") ->
   wpAny (model P w) A (isInstance (.ref e) (.type "StopIteration") >>= fun b=>if b=true then pure none else throw (Value.ref e)) Q E { s with heap:=h' }:=fun h' e hk he=>by
  obtain ⟨q,hq,hc⟩:=he
  exact jQ (wpAny_isInstance (T:="StopIteration") (b:=true) ⟨q,hq,hc⟩ isSubtype_stop (jV (hQ _ hk)))
 refine jQ (wpAny_attempt (wpAny_callSpecial?_slot (name:=Str.ofString "__next__") hTy F.slot_zip_next (wpAny_call_entry F.slot_zip_next hTy F.entry_zip_next ?_ (F.args_zip_next_1 _))))
 show wpAny _ _ (field (.ref z) 2 >>= _) _ _ _
 refine jQ (wpAny_field hZ rfl (x:=.bool false) rfl ?_)
 show wpAny _ _ (field (.ref z) 3 >>= _) _ _ _
 refine jQ (wpAny_field hZ rfl (x:=.ref u) rfl (jQ (wpAny_seqItems hU rfl ?_)))
 show wpAny _ _ (Builtin.SmallTypes.ownedTupleIsFree (.ref z) >>= _) _ _ _
 refine jQ ?_
 unfold Builtin.SmallTypes.ownedTupleIsFree
 refine jQ (wpAny_field hZ rfl (x:=.none) rfl (jV ?_))
 simp only [if_true]
 refine jQ (wpAny_rule (jQ (wpAny_field hZ rfl (x:=.ref o) rfl (jQ (wpAny_setField_rec hZ (by simp) fun g1 hZ1 e1=>?_)))))
 replace hZ1:IsZip g1 z u o .ellipsis:=hZ1
 refine jQ ?_
 simp only [List.zipIdx_cons,List.zipIdx_nil,List.forIn_cons,List.forIn_nil]
 refine jQ (jQ (wpAny_onRaise ?_))
 show wpAny _ _ (Builtin.SmallTypes.nextOf (.ref i1) >>= _) _ _ _
 cases hx:xs[k1]? with
 | none =>
  refine jQ (d1.done _ _ { s with heap:=g1 } k1 xs _ hh (d1.keep _ _ _ h1 fun q e=>e1.extBut _ _ D.i1z e) (d1.srck _ _ _ hl1 fun q e=>e1.extBut _ _ D.l1z e) hx fun g2 e e2 he=>?_)
  obtain ⟨qe,ge,ce⟩:=he
  have hZ2:IsZip g2 z u o .ellipsis:=e2 _ _ D.i1z.symm hZ1
  have hez:e ≠ z:=fun x=>by subst x;rw [hZ2] at ge;cases ge;simp at ce
  refine wpAny_setField_rec hZ2 (by simp) fun g3 _ e3=>?_
  exact fin g3 e (fun c q c1 _ c3 _ x=>e3.extBut _ _ c1 (e2 _ _ c3 (e1.extBut _ _ c1 x))) ⟨qe,e3.extBut _ _ hez ge,ce⟩
 | some x =>
  have hy:ys[k2]?=none:=hend.resolve_left fun h=>by rw [hx] at h;cases h
  refine jQ (d1.item _ _ { s with heap:=g1 } k1 xs x _ (d1.keep _ _ _ h1 fun q e=>e1.extBut _ _ D.i1z e) (d1.srck _ _ _ hl1 fun q e=>e1.extBut _ _ D.l1z e) hx fun g2 h1' e2=>jV ?_)
  have hO2:IsPair g2 o a b:=e2.extBut _ _ D.TOi1 (e1.extBut _ _ D.TOz hO)
  refine jQ (wpAny_seqItems hO2 rfl (jQ (wpAny_updateSeq_pair hO2 fun g3 hO3 e3=>?_)))
  refine jQ (wpAny_letGo (jV ?_))
  refine jQ (jQ (wpAny_onRaise ?_))
  show wpAny _ _ (Builtin.SmallTypes.nextOf (.ref i2) >>= _) _ _ _
  refine jQ (d2.done _ _ { s with heap:=g3 } k2 ys _ hh (d2.keep _ _ _ h2 fun q e=>e3.extBut _ _ D.TOi2.symm (e2.extBut _ _ D.i12.symm (e1.extBut _ _ D.i2z e)))
   (d2.srck _ _ _ hl2 fun q e=>e3.extBut _ _ D.l2TO (e2.extBut _ _ D.l2i1 (e1.extBut _ _ D.l2z e))) hy fun g4 e e4 he=>?_)
  obtain ⟨qe,ge,ce⟩:=he
  have hZ4:IsZip g4 z u o .ellipsis:=e4 _ _ D.i2z.symm (e3.extBut _ _ D.TOz.symm (e2.extBut _ _ D.i1z.symm hZ1))
  have hez:e ≠ z:=fun x=>by subst x;rw [hZ4] at ge;cases ge;simp at ce
  refine wpAny_setField_rec hZ4 (by simp) fun g5 _ e5=>?_
  exact fin g5 e (fun c q c1 c2 c3 c4 x=>e5.extBut _ _ c1 (e4 _ _ c4 (e3.extBut _ _ c2 (e2.extBut _ _ c3 (e1.extBut _ _ c1 x))))) ⟨qe,e5.extBut _ _ hez ge,ce⟩
end
def Kb (n:String) (l:Addr):Obj:={ cls:=.type n,data:=.fields #[.ref l,.int 0 0] }
structure Itr0 (n:String) (l:Addr) (pr:Heap->Prop):Prop where
 go:∀ (P:Program) (w:World) (A:Around) (E:Value->Shared->Prop) (s:Shared) (Q:Value->Shared->Prop),pr s.heap->Q (.ref s.heap.objs.size) { s with heap:=s.heap.push (Kb n l) }->wpAny (model P w) A (pyIter (.ref l)) Q E s
 push:∀ h o,pr h->pr (h.push o)
theorem Qjp (l:Addr) (xs:Array Value):Itr0 "list_iterator" l (fun h=>h.IsList l xs):=⟨fun _ _ _ _ _ _ hl h=>wpAny_pyIter_list hl h,fun _ _ hl=>hl.push _⟩
theorem Qmm (l:Addr) (xs:Array Value):Itr0 "tuple_iterator" l (fun h=>h.IsTuple l xs):=⟨fun _ _ _ _ _ _ hl h=>wpAny_pyIter_tuple hl h,fun _ _ hl=>hl.push _⟩
def zH1 (h:Heap) (n1:String) (l1:Addr):Heap:=h.push (Kb n1 l1)
def zH2 (h:Heap) (n1 n2:String) (l1 l2:Addr):Heap:=(zH1 h n1 l1).push (Kb n2 l2)
def zH3 (h:Heap) (n1 n2:String) (l1 l2:Addr):Heap:=(zH2 h n1 n2 l1 l2).push { cls:=.type "tuple",data:=.seq #[.ref h.objs.size,.ref (zH1 h n1 l1).objs.size] }
def zH4 (h:Heap) (n1 n2:String) (l1 l2:Addr):Heap:=(zH3 h n1 n2 l1 l2).push { cls:=.type "tuple",data:=.seq #[.none,.none] }
def zH5 (h:Heap) (n1 n2:String) (l1 l2:Addr):Heap:=(zH4 h n1 n2 l1 l2).push { cls:=.type "zip",data:=.fields #[.none,.bool false,.bool false,.ref (zH2 h n1 n2 l1 l2).objs.size,.ref (zH3 h n1 n2 l1 l2).objs.size] }
theorem Qjq {n1 n2:String} {l1 l2:Addr} {p1 p2:Heap->Prop} (I1:Itr0 n1 l1 p1) (I2:Itr0 n2 l2 p2) :
  Meets (Builtin.«zip.__new__» ⟨[.type "zip",.ref l1,.ref l2],[]⟩) (fun _ R s=>p1 s.heap/\p2 s.heap/\R (.ok (.ret (.ref (zH4 s.heap n1 n2 l1 l2).objs.size))) { s with heap:=zH5 s.heap n1 n2 l1 l2 }) :=
 .of_wp fun prog w A R s h=>by
  obtain ⟨hp,g,d,tk,os⟩:=s
  obtain ⟨q1,q2,h⟩:=h
  have hsub:=sub_zip
  have f1:=fun (A:Around) (E:Value->Shared->Prop) (Q:Value->Shared->Prop)=>I1.go prog w A E ⟨hp,g,d,tk,os⟩ Q q1
  have f2:=fun (A:Around) (E:Value->Shared->Prop) (Q:Value->Shared->Prop)=>I2.go prog w A E ⟨hp.push (Kb n1 l1),g,d,tk,os⟩ Q (I2.push _ _ q2)
  wp_walk using f1 _ _ _,f2 _ _ _
  exact ⟨_,rfl,h⟩
def Sq (K:Fg) (m:Bool) (H:Hp) (a:Addr) (xs:List V):Prop:=if m=true then SqL K H a xs else SqT K H a xs
def itN (m:Bool):String:=if m=true then "list_iterator" else "tuple_iterator"
def itSt (m:Bool) (it l:Addr) (i:Nat) (h:Heap):Prop:=if m=true then h.IsListIter it l i else h.IsTupleIter it l i
def Qif (m:Bool) (l:Addr) (xs:List Value) (h:Heap):Prop:=if m=true then h.IsList l xs.toArray else h.IsTuple l xs.toArray
theorem Yu {P:Program} {w:World} (m:Bool) (it l:Addr):Drw P w it l (itSt m it l) (Qif m l):=by
 cases m
 ·exact Qqa it l
 ·exact Qml it l
theorem Qex (m:Bool) (l:Addr) (xs:List Value):Itr0 (itN m) l (Qif m l xs):=by
 cases m
 ·exact Qmm l xs.toArray
 ·exact Qjp l xs.toArray
theorem Qbl (m:Bool) {h:Heap} {it l:Addr} (e:h.get? it=some (Kb (itN m) l)):itSt m it l 0 h:=by
 cases m
 ·exact ⟨_,e,rfl,rfl⟩
 ·exact ⟨_,e,rfl,rfl⟩
section
variable {X:Cx} {pins:List (Addr × Obj)} {σ:St} {H:Hp} {s:Shared}
theorem Inv.sq {m:Bool} {a:Addr} {xs:List V} (I:Inv X pins σ H s) (h:Sq X.K m H a xs):∃ its:List Value,Vals xs its/\Qif m a its s.heap/\xs.length<=sizeLine:=by
 cases m
 ·obtain ⟨its,rv,p,hz⟩:=I.tuple h
  exact ⟨its,rv,p,by first | exact hz | omega⟩
 ·obtain ⟨its,rv,p,hz⟩:=I.list h
  exact ⟨its,rv,p.isList,by first | exact hz | omega⟩
theorem Inv.sq_inj {m:Bool} {a:Addr} {xs ys:List V} (I:Inv X pins σ H s) (h:Sq X.K m H a xs) (h':Sq X.K m H a ys):xs=ys:=by
 cases m
 ·exact I.tuple_inj h h'
 ·exact I.list_inj h h'
theorem Inv.tupNew {xs:List V} {its:List Value} {h':Heap} {ch:List Addr} {T:Addr} (I:Inv X pins σ H s) (hT:s.heap.objs.size<=T) (r:Vals xs its) (hz:xs.length<=sizeLine) (e:h'.get? T=some { cls:=.type "tuple",data:=.seq its.toArray })
  (hf:∀ b ∈ ch,FpOk X pins H b) (k:∀ b o,b ∉ ch->s.heap.get? b=some o->h'.get? b=some o) (th:∀ b ∈ ch,∃ o,h'.get? b=some o):Inv X pins σ (upd H T (.tup xs)) { s with heap:=h' }:=by
 have hn:H T=none:=I.hok.fresh hT
 have tr:∀ b o,H b=some o->b ∉ ch:=fun b o e z=>by rw [(hf b z).1] at e;cases e
 refine I.step (g':=s.gens) (t':=s.toks) (d':=s.drawn) (ch:=ch) (fun b hb=>⟨(hf b hb).2.2.2.1,(hf b hb).2.1,(hf b hb).2.2.2.2.1,(hf b hb).2.2.2.2.2⟩) (fun b o _ _ hc q _=>k b o hc q) (fun b o _ _ hc q _=>⟨o.slots,k b o hc q⟩) (fun b o _ q n=>?_) (fun b o hc q=>⟨o,k b o hc q⟩)
  (fun b xs q=>?_) (fun b o u q=>?_) (fun b ps q=>⟨#[],?_⟩) (fun m hm=>?_) (fun b ob q=>?_) I.bare
 ·rw [Qi (xY (xK (zX q) hT))];exact n
 ·rw [Qi (Qk q hn)];exact q
 ·rw [Qi (Qk q hn)];exact q
 ·rw [Qi (Qk q hn),Array.append_empty];exact q
 ·obtain ⟨o,es,ep,q,d,r⟩:=hm
  exact ⟨o,es,ep,k _ o (fun z=>(hf _ z).2.1 rfl) q,d,r⟩
 ·by_cases hb:b=T
  ·subst hb
   rw [upd_same] at q;cases q
   exact ⟨hz,its,r,_,e,rfl,_,rfl⟩
  ·rw [Qi hb] at q
   refine (I.hok b ob q).stay (fun c v hc r=>k c v ?_ r) (fun c r=>by rw [Qi (Qk r hn)];exact r) fun c xs r=>by rw [Qi (Qk r hn)];exact r
   rcases hc with rfl | hc
   ·exact tr _ _ q
   ·exact tr _ _ hc
end
def Itz (K:Fg) (m1 m2:Bool) (a b:Addr):It :=
  ⟨fun i H=>∃ xs ys x y,Sq K m1 H a xs/\Sq K m2 H b ys/\xs[i]?=some x/\ys[i]?=some y,
   fun i H v H'=>∃ T x y,v=.ref T/\H T=none/\H'=upd H T (.tup [x,y])/\(∀ xs,Sq K m1 H a xs->xs[i]?=some x)/\∀ ys,Sq K m2 H b ys->ys[i]?=some y,
   fun i H=>∃ xs ys,Sq K m1 H a xs/\Sq K m2 H b ys/\(xs.length<=i\/ys.length<=i)⟩
def zTn (m1 m2:Bool) (z u o i1 i2 a b:Addr) (i:Nat) (h:Heap):Prop:=IsZip h z u o .none/\IsPair h u (.ref i1) (.ref i2)/\(∃ p q,IsPair h o p q)/\itSt m1 i1 a i h/\itSt m2 i2 b i h
theorem Qmn {P:Program} {w:World} {K:Fg} {es:List Expr} {kk:Nat} {tp:Pos} {m1 m2:Bool} {z u o i1 i2 a b:Addr} (D:ZipApart z u o i1 i2 a b) :
  Turn P w K (.Tuple es kk tp) (Itz K m1 m2 a b) [z,u,o,i1,i2] z (zTn m1 m2 z u o i1 i2 a b) where
 mem:=by simp
 obj:=fun i h st c hc=>by
  obtain ⟨h1,h2,⟨p,q,h3⟩,h4,h5⟩:=st
  simp only [yX,wZ,or_false] at hc
  rcases hc with rfl | rfl | rfl | rfl | rfl
  ·exact ⟨_,h1,fun v z=>by cases z⟩
  ·exact ⟨_,h2,fun v z=>by cases z⟩
  ·exact ⟨_,h3,fun v z=>by cases z⟩
  ·exact (Yu (P:=P) (w:=w) m1 c a).obj i h h4
  ·exact (Yu (P:=P) (w:=w) m2 c b).obj i h h5
 keep:=fun i h h' st k=>by
  obtain ⟨h1,h2,⟨p,q,h3⟩,h4,h5⟩:=st
  exact ⟨k z (by simp) _ h1,k u (by simp) _ h2,⟨p,q,k o (by simp) _ h3⟩,(Yu (P:=P) (w:=w) m1 i1 a).keep i h h' h4 (k i1 (by simp)),(Yu (P:=P) (w:=w) m2 i2 b).keep i h h' h5 (k i2 (by simp))⟩
 item:=by
  intro X hP hw hK hc i pins s σ H E I hf st hg
  subst hP hw hK
  obtain ⟨xs,ys,x,y,q1,q2,hx,hy⟩:=hg
  obtain ⟨is1,r1,p1,z1⟩:=I.sq q1
  obtain ⟨is2,r2,p2,z2⟩:=I.sq q2
  obtain ⟨v1,e1,rv1⟩:=r1.get hx
  obtain ⟨v2,e2,rv2⟩:=r2.get hy
  obtain ⟨hZ,hU,⟨p,q,hO⟩,s1,s2⟩:=st
  refine Qdg (Yu m1 i1 a) (Yu m2 i2 b) D hZ hU hO s1 s2 p1 p2 e1 e2 fun h' a1 a2 a3 a4 a5 a6 a7=>⟨_,rfl,?_⟩
  have hf':∀ c ∈ [z,o,i1,i2],FpOk X pins H c:=fun c hc=>hf c (by simp only [yX,wZ,or_false] at hc ⊢;rcases hc with rfl | rfl | rfl | rfl <;> simp)
  have I1:Inv X pins σ (upd H s.heap.objs.size (.tup [x,y])) { s with heap:=h' }:=I.tupNew (ch:=[z,o,i1,i2]) (jK _) (.cons rv1 (.cons rv2 .nil)) (by show 2<=sizeLine;decide) a5 hf'
   (fun c q hc e=>by simp only [yX,wZ,or_false,not_or] at hc;exact a7 c q hc.1 hc.2.1 hc.2.2.1 hc.2.2.2 e)
   (fun c hc=>by
    simp only [yX,wZ,or_false] at hc
    rcases hc with rfl | rfl | rfl | rfl
    ·exact ⟨_,a1⟩
    ·exact ⟨_,a2⟩
    ·obtain ⟨q,e,_⟩:=(Yu (P:=X.prog) (w:=X.w) m1 c a).obj _ _ a3;exact ⟨q,e⟩
    ·obtain ⟨q,e,_⟩:=(Yu (P:=X.prog) (w:=X.w) m2 c b).obj _ _ a4;exact ⟨q,e⟩)
  refine wpAny_letOwnedTupleGo_zip (s:={ s with heap:=h' }) a1 fun h2 g1 g2=>?_
  obtain ⟨f0,f1,f2,f3,f4,f5⟩:=hf z (by simp)
  have ltz:z < s.heap.objs.size:=zX hZ
  have I2:Inv X pins σ (upd H s.heap.objs.size (.tup [x,y])) { s with heap:=h2 }:=I1.turned (h':=h2) (t':=s.toks) (fun c q hc e=>g2.extBut c q hc e) (by rw [Qi (xY ltz)];exact f0) f1 f3 f4 f5
  have hU':IsPair h' u (.ref i1) (.ref i2):=a7 u _ D.TIz D.TITO D.TIi1 D.TIi2 hU
  refine ⟨.ref s.heap.objs.size,_,I2,rfl,⟨_,x,y,rfl,I.hok.fresh (jK _),rfl,fun xs' hq=>by rw [I.sq_inj hq q1];exact hx,fun ys' hq=>by rw [I.sq_inj hq q2];exact hy⟩,?_,fun c hc=>?_⟩
  ·exact ⟨g1,g2.extBut _ _ D.TIz hU',⟨_,_,g2.extBut _ _ D.TOz a2⟩,(Yu (P:=X.prog) (w:=X.w) m1 i1 a).keep _ _ _ a3 fun q e=>g2.extBut _ _ D.i1z e,(Yu (P:=X.prog) (w:=X.w) m2 i2 b).keep _ _ _ a4 fun q e=>g2.extBut _ _ D.i2z e⟩
  ·have hlt:c ≠ s.heap.objs.size:=by
    have st':zTn m1 m2 z u o i1 i2 a b i s.heap:=⟨hZ,hU,⟨p,q,hO⟩,s1,s2⟩
    simp only [yX,wZ,or_false] at hc
    rcases hc with rfl | rfl | rfl | rfl | rfl
    ·exact xY ltz
    ·exact xY (zX hU)
    ·exact xY (zX hO)
    ·obtain ⟨q,e,_⟩:=(Yu (P:=X.prog) (w:=X.w) m1 c a).obj _ _ s1;exact xY (zX e)
    ·obtain ⟨q,e,_⟩:=(Yu (P:=X.prog) (w:=X.w) m2 c b).obj _ _ s2;exact xY (zX e)
   rw [Qi hlt]
   exact (hf c hc).1
 done:=by
  intro X hP hw hK hc i pins s σ H E I hf st hg
  subst hP hw hK
  obtain ⟨xs,ys,q1,q2,hx⟩:=hg
  obtain ⟨is1,r1,p1,z1⟩:=I.sq q1
  obtain ⟨is2,r2,p2,z2⟩:=I.sq q2
  obtain ⟨hZ,hU,⟨p,q,hO⟩,s1,s2⟩:=st
  have l1:=r1.length
  have l2:=r2.length
  refine Qew (I.ok.hd hc) (Yu m1 i1 a) (Yu m2 i2 b) D hZ hU hO s1 s2 p1 p2 (by
   rcases hx with h | h
   ·exact .inl (jKd.mpr (by omega))
   ·exact .inr (jKd.mpr (by omega))) fun h' k=>⟨rfl,?_⟩
  have hf':∀ c ∈ [z,o,i1,i2],FpOk X pins H c:=fun c hc=>hf c (by simp only [yX,wZ,or_false] at hc ⊢;rcases hc with rfl | rfl | rfl | rfl <;> simp)
  have tr:∀ c q,H c=some q->c ∉ [z,o,i1,i2]:=fun c q e y=>by rw [(hf' c y).1] at e;cases e
  have kk:∀ c q,c ∉ [z,o,i1,i2]->s.heap.get? c=some q->h'.get? c=some q:=fun c q hc e=>by
   simp only [yX,wZ,or_false,not_or] at hc
   exact k c q hc.1 hc.2.1 hc.2.2.1 hc.2.2.2 e
  refine I.step (g':=s.gens) (t':=s.toks) (d':=s.drawn) (ch:=[z,o,i1,i2]) (fun b hb=>⟨(hf' b hb).2.2.2.1,(hf' b hb).2.1,(hf' b hb).2.2.2.2.1,(hf' b hb).2.2.2.2.2⟩) (fun b o _ _ hc q _=>kk b o hc q) (fun b o _ _ hc q _=>⟨o.slots,kk b o hc q⟩) (fun b o _ q n=>n) (fun b o hc q=>⟨o,kk b o hc q⟩)
   (fun b xs q=>q) (fun b o u q=>q) (fun b ps q=>⟨#[],by rw [Array.append_empty];exact q⟩) (fun m hm=>?_) (fun b ob q=>?_) I.bare
  ·obtain ⟨o,es,ep,q,d,r⟩:=hm
   exact ⟨o,es,ep,kk _ o (fun z=>(hf' _ z).2.1 rfl) q,d,r⟩
  ·refine (I.hok b ob q).stay (fun c v hc r=>kk c v ?_ r) (fun c r=>r) fun c xs r=>r
   rcases hc with rfl | hc
   ·exact tr _ _ q
   ·exact tr _ _ hc
 self:=fun _ _ _ _ _ st h=>wpAny_pyIter_zip st.1 h
section
variable {X:Cx}
def iZip (K:Fg) (m1 m2:Bool) (ta:TA):TI:=fun σ H R=>ta σ H fun vs H1=>∃ a b,vs=[.ref a,.ref b]/\(∃ xs,Sq K m1 H1 a xs)/\(∃ ys,Sq K m2 H1 b ys)/\R (Itz K m1 m2 a b) H1
theorem Qjr {P:Program} {w:World} {A:Around} {E:Value->Shared->Prop} {s:Shared} {m1 m2:Bool} {a b:Addr} {xs ys:List Value} {Q:Value->Shared->Prop} (h1:Qif m1 a xs s.heap) (h2:Qif m2 b ys s.heap)
  (h:∀ h',IsZip h' (s.heap.objs.size + 4) (s.heap.objs.size + 2) (s.heap.objs.size + 3) .none->IsPair h' (s.heap.objs.size + 2) (.ref s.heap.objs.size) (.ref (s.heap.objs.size + 1))->IsPair h' (s.heap.objs.size + 3) .none .none ->
   itSt m1 s.heap.objs.size a 0 h'->itSt m2 (s.heap.objs.size + 1) b 0 h'->(∀ c o,s.heap.get? c=some o->h'.get? c=some o)->Q (.ref (s.heap.objs.size + 4)) { s with heap:=h' }) :
  wpAny (model P w) A (call (.type "zip") [.ref a,.ref b]) Q E s:=by
 refine callType_new F.called_zip (by decide) (F.typeCall_zip_2 _ _) (F.newCall_zip_2 _ _) (fun obj=>F.args_object_init_3 obj _ _) F.entry_zip_new (Qjq (Qex m1 a xs) (Qex m2 b ys)) ⟨h1,h2,?_⟩
 have z1:(zH1 s.heap (itN m1) a).objs.size=s.heap.objs.size + 1:=jZd ..
 have z2:(zH2 s.heap (itN m1) (itN m2) a b).objs.size=s.heap.objs.size + 2:=by unfold zH2;rw [jZd,z1]
 have z3:(zH3 s.heap (itN m1) (itN m2) a b).objs.size=s.heap.objs.size + 3:=by unfold zH3;rw [jZd,z2]
 have z4:(zH4 s.heap (itN m1) (itN m2) a b).objs.size=s.heap.objs.size + 4:=by unfold zH4;rw [jZd,z3]
 have g5:(zH5 s.heap (itN m1) (itN m2) a b).get? (zH4 s.heap (itN m1) (itN m2) a b).objs.size=some { cls:=.type "zip",data:=.fields #[.none,.bool false,.bool false,.ref (zH2 s.heap (itN m1) (itN m2) a b).objs.size,.ref (zH3 s.heap (itN m1) (itN m2) a b).objs.size] }:=yK _ rfl
 have up4:∀ c o,(zH4 s.heap (itN m1) (itN m2) a b).get? c=some o->(zH5 s.heap (itN m1) (itN m2) a b).get? c=some o:=fun c o e=>jW _ e
 have up3:∀ c o,(zH3 s.heap (itN m1) (itN m2) a b).get? c=some o->(zH5 s.heap (itN m1) (itN m2) a b).get? c=some o:=fun c o e=>up4 c o (jW _ e)
 have up2:∀ c o,(zH2 s.heap (itN m1) (itN m2) a b).get? c=some o->(zH5 s.heap (itN m1) (itN m2) a b).get? c=some o:=fun c o e=>up3 c o (jW _ e)
 have up1:∀ c o,(zH1 s.heap (itN m1) a).get? c=some o->(zH5 s.heap (itN m1) (itN m2) a b).get? c=some o:=fun c o e=>up2 c o (jW _ e)
 have g4:(zH5 s.heap (itN m1) (itN m2) a b).get? (zH3 s.heap (itN m1) (itN m2) a b).objs.size=some { cls:=.type "tuple",data:=.seq #[.none,.none] }:=up4 _ _ (yK _ rfl)
 have g3:(zH5 s.heap (itN m1) (itN m2) a b).get? (zH2 s.heap (itN m1) (itN m2) a b).objs.size=some { cls:=.type "tuple",data:=.seq #[.ref s.heap.objs.size,.ref (zH1 s.heap (itN m1) a).objs.size] }:=up3 _ _ (yK _ rfl)
 have g2:(zH5 s.heap (itN m1) (itN m2) a b).get? (zH1 s.heap (itN m1) a).objs.size=some (Kb (itN m2) b):=up2 _ _ (yK _ rfl)
 have g1:(zH5 s.heap (itN m1) (itN m2) a b).get? s.heap.objs.size=some (Kb (itN m1) a):=up1 _ _ (yK _ rfl)
 show _/\_
 rw [z2,z3,z4] at g5
 rw [z1,z2] at g3
 rw [z3] at g4
 rw [z1] at g2
 rw [z4]
 exact ⟨⟨_,g5,rfl⟩,h _ g5 g3 g4 (Qbl m1 g1) (Qbl m2 g2) fun c o x=>up1 c o (jW _ x)⟩
theorem Qjs {n l1 l2:Addr} (h1:l1 < n) (h2:l2 < n):ZipApart (n + 4) (n + 2) (n + 3) n (n + 1) l1 l2:=by
 have h1':@LT.lt Nat _ l1 n:=h1
 have h2':@LT.lt Nat _ l2 n:=h2
 constructor <;> (show @Ne Nat _ _) <;> omega
theorem Qbm {m:Bool} {a:Addr} {xs:List Value} {h:Heap} (e:Qif m a xs h):a < h.objs.size:=by
 cases m
 ·obtain ⟨o,e,_⟩:=e;exact zX e
 ·obtain ⟨o,e,_⟩:=e;exact zX e
theorem Qjt {a b:Expr} {ta:TA} {p pos tp:Pos} {es:List Expr} {kk:Nat} (m1 m2:Bool) (hg:Gl X "zip") (hm:X.mg "zip"=none) (ha:PA X [a,b] ta) (hs:autoParam (starEach [a,b] X.env=[(false,eval a X.env),(false,eval b X.env)]) L2.aRfl._auto_1) (hs2:autoParam (starEach [b] X.env=[(false,eval b X.env)]) L2.aRfl._auto_1) :
  PI X (.Tuple es kk tp) (.Call (.Name "zip" p) [a,b] [] pos) (iZip X.K m1 m2 ta):=by
 intro pins s σ H R I h
 refine Call_ (Wd I hg hm (u:=.type "zip") (by rfl) (PyProof.Rows.callWith_type1 (thn (ha pos pins s σ H _ I h) fun us s1 hqP=>?_) (by rw [hs,hs2]) (by rw [hs2];rfl)))
 obtain ⟨vs,H1,I1,r1,q1⟩:=hqP
 obtain ⟨l1,l2,e,⟨xs,q1⟩,⟨ys,q2⟩,q⟩:=q1
 subst e
 obtain ⟨u1,u2,rfl,e1,e2⟩:=r1.two
 cases e1
 cases e2
 obtain ⟨is1,r1,p1,z1⟩:=I1.sq q1
 obtain ⟨is2,r2,p2,z2⟩:=I1.sq q2
 refine Qjr p1 p2 fun h' a1 a2 a3 a4 a5 a6=>?_
 have I2:Inv X pins σ H1 { s1 with heap:=h' }:=I1.kept (t':=s1.toks) a6
 refine wpAny_pyIter_zip (s:={ s1 with heap:=h' }) a1 ⟨_,[s1.heap.objs.size + 4,s1.heap.objs.size + 2,s1.heap.objs.size + 3,s1.heap.objs.size,s1.heap.objs.size + 1],_,_,H1,rfl,I2,Qmn (Qjs (Qbm p1) (Qbm p2)),⟨a1,a2,⟨_,_,a3⟩,a4,a5⟩,fun c hc=>?_,q⟩
 have hle:s1.heap.objs.size<=c:=by
  simp only [yX,wZ,or_false] at hc
  rcases hc with rfl | rfl | rfl | rfl | rfl
  ·exact kXb _ _
  ·exact kXb _ _
  ·exact kXb _ _
  ·exact jK _
  ·exact kXb _ _
 exact I1.fpOk hle (I1.hok.fresh hle)
end
section
variable {X:Cx}
theorem Ko (hc:X.calm=true):Jg X (.builtin "sum") (fun xs H Q=>∃ (a:Addr) (ns:List Int),xs=[.ref a]/\SqL X.K H a (ns.map V.int)/\Q (.int ns.sum) H):=by
 intro pins s σ H xs us Q I rv h
 obtain ⟨a,ns,rfl,hq,q⟩:=h
 obtain ⟨u,rfl,ru⟩:=rv.one
 cases ru
 obtain ⟨its,r,p,hz⟩:=I.list hq
 have hi:IntsAre its.toArray.toList ns:=intsAre_of r
 have hall:AllInts its.toArray:=hi.allInts
 obtain ⟨xs,hx⟩:=hall.items
 have hl':s.heap.IsList a (intItems xs):=hx ▸ p.isList
 refine sum_intListG (I.ok.hd hc) hl' fun h' tk t' hk=>?_
 have e1:ns=xs.toList.map (·.1):=by
  rw [← nums_intItems,← hx]
  exact (show numsOf its.toArray.toList=ns from hi.numsOf).symm
 have e2:preSum (numAt xs) xs.size=ns.sum:=by
  rw [preSum_eq,jXb (by simp),e1]
 rw [e2]
 exact ⟨.int ns.sum,H,I.kept hk,⟨_,rfl⟩,q⟩
theorem Qju {bs:List Bool} {its:List Value} (r:Vals (bs.map V.bl) its) {i:Nat} {v:Value} (h:its[i]?=some v):∃ b,bs[i]?=some b/\v=.bool b:=by
 have hl:=r.length
 obtain ⟨hi,_⟩:=kK.mp h
 rw [jX] at hl
 have hb:bs[i]?=some bs[i]:=gE (by omega)
 obtain ⟨u,h1,h2⟩:=r.get (i:=i) (x:=.bl bs[i]) (by rw [yY,hb];rfl)
 rw [h] at h1;cases h1
 exact ⟨_,hb,h2⟩
theorem Qmo (bs:List Bool):((List.range bs.length).all fun i=>(bs[i]?).getD true)=bs.all id:=by
 rw [jZa]
 simp only [jXa,jYb,id]
 constructor
 ·intro h b hb
  obtain ⟨i,hi,e⟩:=kJb hb
  have:=h i hi
  rw [gE hi] at this
  simpa [e] using this
 ·intro h i hi
  rw [gE hi]
  exact h _ (kZa hi)
theorem Qmp (bs:List Bool):((List.range bs.length).any fun i=>(bs[i]?).getD false)=bs.any id:=by
 rw [jZa]
 simp only [jXc,jYb,id]
 constructor
 ·rintro ⟨i,hi,h⟩
  rw [gE hi] at h
  exact ⟨_,kZa hi,h⟩
 ·rintro ⟨b,hb,h⟩
  obtain ⟨i,hi,e⟩:=kJb hb
  exact ⟨i,hi,by rw [gE hi];simpa [e] using h⟩
theorem Qjv {h h':Heap} {o:Obj} (hk:∀ b x,b ∉ [h.objs.size]->(h.push o).get? b=some x->h'.get? b=some x):∀ b x,h.get? b=some x->h'.get? b=some x:=fun b x e =>
 hk b x (fun hm=>by rw [jZ.mp hm] at e;exact jKf _ (zX e)) (jW _ e)
theorem Qjw (hc:X.calm=true):Jg X (.builtin "all") (fun xs H Q=>∃ (a:Addr) (bs:List Bool),xs=[.ref a]/\SqL X.K H a (bs.map V.bl)/\Q (.bl (bs.all id)) H):=by
 intro pins s σ H xs us Q I rv h
 obtain ⟨a,bs,rfl,hq,q⟩:=h
 obtain ⟨u,rfl,ru⟩:=rv.one
 cases ru
 obtain ⟨its,r,p,hz⟩:=I.list hq
 have hlt:a < s.heap.objs.size:=by obtain ⟨_,e,_⟩:=p.isList;exact zX e
 have hl:=r.length
 rw [jX] at hl
 refine call_all_walk (wpAny_pyIter_list p.isList ?_)
 refine ⟨s.heap.objs.size,[s.heap.objs.size,a],[s.heap.objs.size],its.toArray.size,_,_,fun i=>(bs[i]?).getD true,rfl,Walks.list (A:=X.A.in1) (I.ok.hd hc) _ a (xY hlt) its.toArray,⟨⟨_,yK _ rfl,rfl,rfl⟩,p.isList.push _⟩,fun i v s' Q' E' hP hQ=>?_,fun h' tk hk=>?_⟩
 ·obtain ⟨b,e,rfl⟩:=Qju r (by simpa using hP)
  simp only [e,Option.getD_some] at hQ
  exact wpAny_truthy_bool hQ
 ·rw [kY,← hl,Qmo]
  exact ⟨.bl (bs.all id),H,I.kept (Qjv hk),rfl,q⟩
theorem Qjx (hc:X.calm=true):Jg X (.builtin "any") (fun xs H Q=>∃ (a:Addr) (bs:List Bool),xs=[.ref a]/\SqL X.K H a (bs.map V.bl)/\Q (.bl (bs.any id)) H):=by
 intro pins s σ H xs us Q I rv h
 obtain ⟨a,bs,rfl,hq,q⟩:=h
 obtain ⟨u,rfl,ru⟩:=rv.one
 cases ru
 obtain ⟨its,r,p,hz⟩:=I.list hq
 have hlt:a < s.heap.objs.size:=by obtain ⟨_,e,_⟩:=p.isList;exact zX e
 have hl:=r.length
 rw [jX] at hl
 refine call_any_walk (wpAny_pyIter_list p.isList ?_)
 refine ⟨s.heap.objs.size,[s.heap.objs.size,a],[s.heap.objs.size],its.toArray.size,_,_,fun i=>(bs[i]?).getD false,rfl,Walks.list (A:=X.A.in1) (I.ok.hd hc) _ a (xY hlt) its.toArray,⟨⟨_,yK _ rfl,rfl,rfl⟩,p.isList.push _⟩,fun i v s' Q' E' hP hQ=>?_,fun h' tk hk=>?_⟩
 ·obtain ⟨b,e,rfl⟩:=Qju r (by simpa using hP)
  simp only [e,Option.getD_some] at hQ
  exact wpAny_truthy_bool hQ
 ·rw [kY,← hl,Qmp]
  exact ⟨.bl (bs.any id),H,I.kept (Qjv hk),rfl,q⟩
end
section
theorem Qey {α:Type} {xs ys:List α} (hl:xs.length=ys.length) (h:∀ (i:Nat) x y,xs[i]?=some x->ys[i]?=some y->x=y):xs=ys:=by
 refine List.ext_getElem? fun i=>?_
 by_cases hi:i < xs.length
 ·rw [gE hi,gE (by omega:i < ys.length)]
  exact congrArg some (h i _ _ (gE hi) (gE (by omega)))
 ·rw [List.getElem?_eq_none (by omega),List.getElem?_eq_none (by omega)]
theorem Kp {n:Nat} {e:Nat->Bool}:(List.range n).all e=true ↔ ∀ i,i < n->e i=true:=by simp [jXa]
open PySem.SeqAt Classical in
end
def Fn (K:Fg) (mg:Str->Option Value) (x:Str) (st:Stmt):Prop:=∃ f fd,Fun K x x st f fd/\mg x=some (.ref f)
theorem Yh {K:Fg} {h:Heap} {mg:Str->Option Value} {x:Str} {st:Stmt} {f:Addr} {oc:Value} {od an:Option Addr} {osl:Array (Option Value)} {kV doc pm cdv ct:Value} (X:K.In h) (G:h.Ns mainGlobals mg)
  (a:PySem.W.nsIn K mainGlobals x=some (some (.ref f))) (l:K.lookup f=some ⟨oc,od,.func (PySem.W.fnOf x x (Qx st) (Qv st) (Qg st) .none kV doc pm an cdv ct),osl⟩) (c:PySem.W.codeIn K cdv x=true) (k:PySem.W.keepIn K (.ref f)=true):Fn K mg x st :=
 ⟨f,_,Jp l c k,PySem.W.mg_of X G a⟩
structure Cal (P:Program) (w:World) (K:Fg) (mg:Str->Option Value) (base:Heap) (k:Nat) (x:Str) (ps:List Str) (sp:Sp):Prop where
 ex:∃ f fd,FnOk P w K mg base CX0 k f fd ps sp/\mg x=some (.ref f)/\PySem.W.keepIn K (.ref f)=true/\Binds K fd ps []
theorem Xi {P:Program} {w:World} {K:Fg} {mg:Str->Option Value} {base:Heap} {k:Nat} {x:Str} {st:Stmt} {N ps:List Str} {sp:Sp} (F:Fn K mg x st) (S:FnScope N ps (Qg st))
  (hb:∀ (kV doc pm:Value) (an:Option Addr) (cdv ct:Value) (us:List Value),us.length=ps.length->bindArgs (PySem.W.fnOf x x (Qx st) (Qv st) (Qg st) .none kV doc pm an cdv ct) ⟨us,[]⟩=pure (ps.zip us)) (len:∀ vs H Q E,sp vs H Q E->vs.length=ps.length)
  (hbody:∀ (f:Addr) (cdv:Value) (A:Around) (outer:List Env) (s:Shared) (H:Hp) (vs:List V) (Q:VK) (E:XK),Room k (A.deeper (envOfC x (Qg st) s.heap.objs.size f cdv))->sp vs H Q E ->
   ∃ t,PSs (cxOf CX0 P w K mg base N x (Qg st) f cdv A outer s H E).nox (Qv st) t/\t { nx:=fun _ H'=>Q .non H',rt:=Q } (start N vs) H):Cal P w K mg base (k + 1) x ps sp:=by
 obtain ⟨f,fd,F,m⟩:=F
 exact ⟨f,fd,F.ok S len (hbody f),m,F.kp,F.binds hb⟩
section
variable {X:Cx}
theorem Xj {k:Nat} {x:Str} {ps:List Str} {sp:Sp} {e:Expr} {es:List Expr} {t:TA} {p pos:Pos} (C:Cal X.prog X.w X.K X.mg X.base k x ps sp) (hr:Room k X.A) (ha:PA X (e :: es) t) (hg:autoParam (Gl X x) L2.aRfl._auto_1)
  (hdb:autoParam ((x == ("__debug__":Str))=false) L2.aDec._auto_1) (he:autoParam (starEach (e :: es) X.env=(false,eval e X.env) :: starEach es X.env) L2.aRfl._auto_1) (hpl:autoParam ((backTo pos (starEach es X.env)).any (·.1)=false) L2.aRfl._auto_1) :
  PE X (.Call (.Name x p) (e :: es) [] pos) (tCall sp [] E0 t):=by
 obtain ⟨f,fd,F,m,kp,b⟩:=C.ex
 exact Qpv F hr hg m kp b .nil Zd ha hdb he hpl
theorem Qjy {x:Str} {T:String} {pos:Pos} (hm:X.mg x=none) (hv:bootBuiltins x=some (.type T)) (hg:autoParam (Gl X x) L2.aRfl._auto_1) (hn:autoParam (x ≠ "__name__") L2.aDec._auto_1) (hd:autoParam ((x == ("__debug__":Str))=false) L2.aDec._auto_1):PE X (.Name x pos) (tC (.ty T)) :=
 Qps hg hm hv (v:=.ty T) rfl hn hd
end
def gPair (K:Fg) (i j:Nat):TG:=gTup K 2 (Qhs (Vu i) (Qhs (Vu j) gNil))
theorem Jh {X:Cx} {K:Fg} {i j:Nat} {x y:Str} {px py pos:Pos} {k:Nat} (hK:X.K=K) (hc:X.calm=true) (hN:X.N.Nodup) (hi:X.N[i]?=some x) (hj:X.N[j]?=some y) (hx:X.env.scope.names.lookup x=some .local) (hy:X.env.scope.names.lookup y=some .local) :
  PG X (.Tuple [.Name x px,.Name y py] k pos) (gPair K i j):=by
 subst hK
 exact Wg hc (Xt (Ql hN hi (.inl hx) (.inr hx)) (Xt (Ql hN hj (.inl hy) (.inr hy)) Ke))
theorem Jq:bootBuiltins "len"=some (.builtin "len"):=by decide +kernel
theorem Qgf:bootBuiltins "sum"=some (.builtin "sum"):=by decide +kernel
theorem bt_all:bootBuiltins "all"=some (.builtin "all"):=by decide +kernel
theorem bt_any:bootBuiltins "any"=some (.builtin "any"):=by decide +kernel
theorem Zb:bootBuiltins "isinstance"=some (.builtin "isinstance"):=by decide +kernel
theorem Qdh:bootBuiltins "min"=some (.builtin "min"):=by decide +kernel
theorem Qpa:bootBuiltins "max"=some (.builtin "max"):=by decide +kernel
theorem Ws:bootBuiltins "sorted"=some (.builtin "sorted"):=by decide +kernel
theorem bt_int:bootBuiltins "int"=some (.type "int"):=by decide +kernel
theorem Qqb:bootBuiltins "bool"=some (.type "bool"):=by decide +kernel
theorem Yq:bootBuiltins "tuple"=some (.type "tuple"):=by decide +kernel
theorem Qbn:bootBuiltins "list"=some (.type "list"):=by decide +kernel
theorem Wt:bootBuiltins "dict"=some (.type "dict"):=by decide +kernel
theorem Qdi:bootBuiltins "enumerate"=some (.type "enumerate"):=by decide +kernel
theorem Qc {H:Hp} {p:Addr} (h:H p=none) (o:HO):Same H (upd H p o):=fun b u q=>by rw [Qi (Qk q h)];exact q
theorem Same.tup {K:Fg} {H H':Hp} {a:Addr} {xs:List V} (e:Same H H') (h:SqT K H a xs):SqT K H' a xs:=by
 rcases h with (h | ⟨o,h⟩) | h
 ·exact .inl (.inl (e _ _ h))
 ·exact .inl (.inr ⟨o,e _ _ h⟩)
 ·exact .inr h
theorem Qu {K:Fg} {H:Hp} {a:Addr} {xs:List V} (h:H a=some (.tup xs)):SqT K H a xs:=.inl (.inl h)
theorem Qb {K:Fg} {H:Hp} {a:Addr} {xs:List V} (h:H a=some (.lst xs)):SqL K H a xs:=.inl (.inl h)
theorem Ym {J:It} {n:Nat} {τ0:St} {g:TG} {tt:TT} {te:TE} {H:Hp} {Q:Addr->Hp->Prop} {D:Addr} (Pv:Nat->St->List V->Hp->Prop)
  (h0:Pv 0 τ0 [] (upd H D (.lst []))) (hD:∀ i τ ys H,i<=n->Pv i τ ys H->H D=some (.lst ys)/\ys.length < sizeLine) (go:∀ i τ ys H,i < n->Pv i τ ys H->J.go i H) (stop:∀ τ ys H,Pv n τ ys H->J.stop n H)
  (hs:∀ i τ ys H x H',i < n->Pv i τ ys H->J.yld i H x H'->g x τ H' fun σ2 H2=>tt σ2 H2 fun ok H3=>if ok=true then te σ2 H3 fun v H4=>H4 D=some (.lst ys)/\Pv (i + 1) σ2 (ys ++ [v]) (upd H4 D (.lst (ys ++ [v]))) else Pv (i + 1) σ2 ys H3)
  (hd:∀ τ ys H,Pv n τ ys H->Q D H) :
  LcW J D τ0 H g tt te Q:=by
 refine ⟨fun i m τ ys H=>m=n - i/\i<=n/\Pv i τ ys H,⟨n,by simp,jXe _,h0⟩,?_⟩
 rintro i m τ ys H ⟨rfl,hi,p⟩
 obtain ⟨z1,z2⟩:=hD i τ ys H hi p
 refine ⟨z1,?_⟩
 by_cases hlt:i < n
 ·refine .inr ⟨go i τ ys H hlt p,z2,fun τ v H=>Pv (i + 1) τ (ys ++ [v]) (upd H D (.lst (ys ++ [v]))),fun τ H=>Pv (i + 1) τ ys H,fun τ v H q=>⟨n - (i + 1),by omega,rfl,hlt,q⟩,fun τ H q=>⟨n - (i + 1),by omega,rfl,hlt,q⟩,fun x H' y=>hs i τ ys H x H' hlt p y⟩
 ·have e:i=n:=by omega
  subst e
  exact .inl ⟨stop τ ys H p,hd τ ys H p⟩
section
variable {X:Cx}
theorem Yc {K:Fg} (hK:X.K=K):IxR X (rIxL K):=by subst hK;exact Qm
theorem Ji {K:Fg} (hK:X.K=K):IxR X (rIxT K):=by subst hK;exact Xn
theorem Qbo {K:Fg} (hK:X.K=K):Jg X (.builtin "len") (fun xs H Q=>∃ p ys,xs=[.ref p]/\(SqL K H p ys\/SqT K H p ys)/\Q (.int ys.length) H):=by subst hK;exact Xo
theorem Qbp {K:Fg} (hK:X.K=K):Jg X (.type "list") (fun xs H Q=>∃ p ys,xs=[.ref p]/\(SqL K H p ys\/SqT K H p ys)/\∀ l,H l=none->Q (.ref l) (upd H l (.lst ys))):=by subst hK;exact Jo
theorem Zj {K:Fg} (hK:X.K=K):Jg X (.type "tuple") (fun xs H Q=>∃ p ys,xs=[.ref p]/\((SqL K H p ys/\∀ l,H l=none->Q (.ref l) (upd H l (.tup ys)))\/(SqT K H p ys/\Q (.ref p) H))):=by subst hK;exact Xu
theorem Qbq {K:Fg} (hK:X.K=K):OpR X (compareOp .NotIn) (rIn K true):=by subst hK;exact Qdb
end
end L2
namespace Nb
open PySem L2
structure Mg (mg:Str->Option Value):Prop where
 len:mg "len"=none
 min:mg "min"=none
 max:mg "max"=none
 sum:mg "sum"=none
 all:mg "all"=none
 any:mg "any"=none
 abs:mg "abs"=none
 isinstance:mg "isinstance"=none
 sorted:mg "sorted"=none
 range_:mg "range"=none
 zip_:mg "zip"=none
 tuple_:mg "tuple"=none
 list_:mg "list"=none
 int_:mg "int"=none
 bool_:mg "bool"=none
 dict_:mg "dict"=none
 enumerate_:mg "enumerate"=none
 reversed_:mg "reversed"=none
 ValueError_:mg "ValueError"=none
 set_:mg "set"=none
 str_:mg "str"=none
theorem atNs {ns:List Int} {k:Int} (h0:0<=k) (h:k < (((ns.map V.int).length:Nat):Int)):∃ v:Int,atI (ns.map V.int) k=some (.int v):=by
 have hk:k.toNat < ns.length:=by rw [jX] at h;omega
 have ek:k=((k.toNat:Nat):Int):=by omega
 have q:atI (ns.map V.int) ((k.toNat:Nat):Int)=some (.int ns[k.toNat]):=Vc (by rw [yY,gE hk] <;> rfl)
 rw [← ek] at q
 exact ⟨_,q⟩
theorem mulC (c y:Int) (h1:-(2 ^ 64) < c) (h2:c < 2 ^ 64):CMul c y:=.inl ⟨h1,h2⟩
theorem Xc {K:Fg} {H:Hp} {D a:Addr} {ys zs xs:List V} (hD:H D=some (.lst ys)) (h:SqT K H a xs):SqT K (upd H D (.lst zs)) a xs:=by
 rcases h with (h | ⟨o,h⟩) | h
 ·exact .inl (.inl (by rw [Qi (Yp h hD (by intro z;cases z))];exact h))
 ·exact .inl (.inr ⟨o,by rw [Qi (Yp h hD (by intro z;cases z))];exact h⟩)
 ·exact .inr h
def RowAt (K:Fg) (H:Hp) (t:Addr) (r:List Int × Int):Prop:=∃ p,SqT K H t [.ref p,.int r.2]/\SqT K H p (r.1.map V.int)
theorem RowAt.same {K:Fg} {H H':Hp} {t:Addr} {r:List Int × Int} (e:Same H H') (h:RowAt K H t r):RowAt K H' t r:=by obtain ⟨p,h1,h2⟩:=h;exact ⟨p,e.tup h1,e.tup h2⟩
def RowsAre (K:Fg) (H:Hp):List V->List (List Int × Int)->Prop:=Paired fun v r=>∃ t,v=.ref t/\RowAt K H t r
theorem RowsAre.get {K:Fg} {H:Hp} {vs:List V} {rs:List (List Int × Int)} (h:RowsAre K H vs rs):∀ {i:Nat} {v:V},vs[i]?=some v->∃ t r,v=.ref t/\rs[i]?=some r/\RowAt K H t r:=by
 induction h with
 | nil=>intro i v e;simp at e
 | cons q t ih =>
  intro i v e
  cases i with
  | zero=>obtain ⟨a,e1,z⟩:=q;simp at e;subst e;exact ⟨a,_,e1,rfl,z⟩
  | succ i=>obtain ⟨a,r,e1,e2,z⟩:=ih (i:=i) (v:=v) (by simpa using e);exact ⟨a,r,e1,by simpa using e2,z⟩
theorem RowsAre.length {K:Fg} {H:Hp} {vs:List V} {rs:List (List Int × Int)} (h:RowsAre K H vs rs):vs.length=rs.length:=Paired.length h
def Qjz (K:Fg) (H:Hp) (t:Addr) (rs:List (List Int × Int)) (cs:List Int):Prop:=∃ l c vs,SqT K H t [.ref l,.ref c]/\SqL K H l vs/\RowsAre K H vs rs/\SqT K H c (cs.map V.int)
theorem at0 {x y:V}:atI [x,y] 0=some x:=by rfl
theorem at1 {x y:V}:atI [x,y] 1=some y:=by rfl
def dot (ns ms:List Int):Int:=(List.zipWith (· * ·) ns ms).sum
def Qbr (ms:List Int) (r:List Int × Int):Bool:=decide (r.2<=dot r.1 ms)
theorem Ze {α:Type} {l:List α} {i:Nat} {x:α} (h:l[i]?=some x):l.take (i + 1)=l.take i ++ [x]:=by rw [List.take_succ,h];rfl
theorem Wu {ns:List Int} {i:Nat} {v:V} (h:(ns.map V.int)[i]?=some v):∃ n,ns[i]?=some n/\v=.int n:=by
 rw [yY] at h
 cases e:ns[i]? with
 | none=>rw [e] at h;cases h
 | some n=>rw [e] at h;exact ⟨n,rfl,(Option.some.inj h).symm⟩
theorem getZip {ns ms:List Int} {i:Nat} {n m:Int} (h1:ns[i]?=some n) (h2:ms[i]?=some m):(List.zipWith (· * ·) ns ms)[i]?=some (n * m):=by
 rw [List.getElem?_zipWith,h1,h2]
theorem memI {ms:List Int} {i:Nat} {m:Int} (h:ms[i]?=some m):m ∈ ms:=kX h
theorem Qmq {α:Type} (f:α->Bool) {l:List α} {i:Nat} {x:α} (h:l[i]?=some x):(l.take (i + 1)).all f=((l.take i).all f && f x):=by rw [Ze h,List.all_append];simp
theorem Qka {α:Type} {xs:List α} {k:Nat} {x:α} (h:xs[k]?=some x):atI xs (k:Int)=some x:=Vc h
def Qmr (K:Fg):Sp:=fun vs H Q _=>∃ (a:Addr) (ns:List Int),vs=[.ref a]/\SqL K H a (ns.map V.int)/\ns.length<=63/\∀ H',Q (.bl true) H'
end Nb
namespace L2
open PySem PySem.Spec PyProof.Rows
section
variable {κ:Type} [DecidableEq κ]
def valV (kvs:List (κ × V)) (k:κ):Option V:=(kvs.find? fun kv=>decide (kv.1=k)).map (·.2)
def putK (kvs:List (κ × V)) (k:κ) (v:V):List (κ × V) :=
 if (kvs.any fun kv=>decide (kv.1=k))=true then kvs.map (fun kv=>if kv.1=k then (kv.1,v) else kv) else kvs ++ [(k,v)]
theorem Yv {p:κ × V} {r:List (κ × V)} {k:κ} (e:p.1=k):valV (p :: r) k=some p.2:=by simp [valV,jJf,e]
theorem Yw {p:κ × V} {r:List (κ × V)} {k:κ} (e:¬ p.1=k):valV (p :: r) k=valV r k:=by simp [valV,jJf,e]
theorem Vw (k:κ):∀ kvs:List (κ × V),(kvs.any fun kv=>decide (kv.1=k))=(valV kvs k).isSome
 | []=>rfl
 | p :: r=>by
  rw [kXc]
  by_cases e:p.1=k
  ·simp only [Yv e,kQ e,Bool.true_or,Option.isSome_some]
  ·rw [Yw e,xJ e,Bool.false_or];exact Vw k r
theorem Qgg (k j:κ) (y:V):∀ kvs:List (κ × V),valV (kvs.map fun kv=>if kv.1=k then (kv.1,y) else kv) j=(valV kvs j).map fun x=>if j=k then y else x
 | []=>rfl
 | p :: r=>by
  have ih:=Qgg k j y r
  rw [yQ]
  by_cases h:p.1=k
  ·rw [if_pos h]
   by_cases e:p.1=j
   ·rw [Yv (p:=(p.1,y)) e,Yv e,kZc,if_pos (e.symm.trans h)]
   ·rw [Yw (p:=(p.1,y)) e,Yw e,ih]
  ·rw [if_neg h]
   by_cases e:p.1=j
   ·rw [Yv (p:=p) e,Yv e,kZc,if_neg (fun z=>h (e.trans z))]
   ·rw [Yw (p:=p) e,Yw e,ih]
theorem Qdj (k j:κ) (y:V):∀ kvs:List (κ × V),valV kvs k=none->valV (kvs ++ [(k,y)]) j=if j=k then some y else valV kvs j
 | [],_=>by
  by_cases e:k=j
  ·rw [if_pos e.symm];exact Yv (p:=(k,y)) e
  ·rw [if_neg (fun z=>e z.symm)];exact Yw (p:=(k,y)) e
 | p :: r,hn=>by
  rw [List.cons_append]
  have hk:¬ p.1=k:=fun z=>by rw [Yv z] at hn;cases hn
  rw [Yw hk] at hn
  have ih:=Qdj k j y r hn
  by_cases e:p.1=j
  ·rw [Yv e,Yv e,if_neg (fun z=>hk (e.trans z))]
  ·rw [Yw e,Yw e,ih]
theorem Vx (kvs:List (κ × V)) (k j:κ) (y:V):valV (putK kvs k y) j=if j=k then some y else valV kvs j:=by
 unfold putK
 by_cases a:(kvs.any fun kv=>decide (kv.1=k))=true
 ·rw [if_pos a,Qgg]
  rw [Vw] at a
  by_cases e:j=k
  ·obtain ⟨x,hx⟩:=kQa.mp a
   rw [if_pos e,e,hx,kZc,if_pos rfl]
  ·rw [if_neg e]
   cases valV kvs j with
   | none=>rfl
   | some x=>rw [kZc,if_neg e]
 ·rw [if_neg a]
  refine Qdj k j y kvs ?_
  rw [Vw] at a
  cases q:valV kvs k with
  | none=>rfl
  | some x=>rw [q] at a;exact (a rfl).elim
theorem Zg (kvs:List (κ × V)) (k:κ) (v:V):(putK kvs k v).length<=kvs.length + 1:=by
 unfold putK
 split
 ·rw [jX];omega
 ·rw [jY,xW,kZd];omega
theorem RelO.isSome_eq {o:Option V} {u:Option Value} (r:RelO o u):o.isSome=u.isSome:=by
 cases o with
 | none=>cases u with
  | none=>rfl
  | some _=>exact (show False from r).elim
 | some _=>cases u with
  | none=>exact (show False from r).elim
  | some _=>rfl
theorem RelO.getD {o:Option V} {u:Option Value} {d:V} {d':Value} (r:RelO o u) (rd:RelV d d'):RelV (o.getD d) (u.getD d'):=by
 cases o with
 | none=>cases u with
  | none=>exact rd
  | some _=>exact (show False from r).elim
 | some _=>cases u with
  | none=>exact (show False from r).elim
  | some _=>exact r
theorem KV.val {kvs:List (κ × V)} {vs:List (κ × Value)} (r:KV kvs vs) (k:κ):RelO (valV kvs k) (valueAt vs k):=by
 unfold KV at r
 induction r with
 | nil=>exact True.intro
 | @cons p q ps qs h t ih =>
  obtain ⟨h1,h2⟩:=h
  by_cases e:p.1=k
  ·have e':q.1=k:=h1.symm.trans e
   have b:valueAt (q :: qs) k=some q.2:=by simp [valueAt,jJf,e']
   rw [Yv e,b];exact h2
  ·have e':¬ q.1=k:=fun z=>e (h1.trans z)
   have b:valueAt (q :: qs) k=valueAt qs k:=by simp [valueAt,jJf,e']
   rw [Yw e,b];exact ih
theorem KV.any {kvs:List (κ × V)} {vs:List (κ × Value)} (r:KV kvs vs) (k:κ):(kvs.any fun kv=>decide (kv.1=k))=vs.any fun kv=>decide (kv.1=k):=by
 unfold KV at r
 induction r with
 | nil=>rfl
 | cons h t ih=>rw [kXc,kXc,ih,h.1]
theorem KV.repl {kvs:List (κ × V)} {vs:List (κ × Value)} (r:KV kvs vs) (k:κ) {y:V} {u:Value} (ry:RelV y u) :
  KV (kvs.map fun kv=>if kv.1=k then (kv.1,y) else kv) (vs.map fun kv=>if kv.1=k then (kv.1,u) else kv):=by
 unfold KV at r ⊢
 induction r with
 | nil=>exact .nil
 | @cons p q ps qs h t ih =>
  rw [yQ,yQ]
  refine .cons ?_ ih
  obtain ⟨h1,h2⟩:=h
  by_cases e:p.1=k
  ·rw [if_pos e,if_pos (h1.symm.trans e)];exact ⟨h1,ry⟩
  ·rw [if_neg e,if_neg (fun z=>e (h1.trans z))];exact ⟨h1,h2⟩
theorem KV.put {kvs:List (κ × V)} {vs:List (κ × Value)} (r:KV kvs vs) (k:κ) {y:V} {u:Value} (ry:RelV y u):KV (putK kvs k y) (stored vs k u):=by
 unfold putK stored
 rw [r.any k]
 by_cases e:(vs.any fun kv=>decide (kv.1=k))=true
 ·rw [if_pos e,if_pos e];exact r.repl k ry
 ·rw [if_neg e,if_neg e];exact Paired.snoc r ⟨rfl,ry⟩
theorem KV.length {kvs:List (κ × V)} {vs:List (κ × Value)} (r:KV kvs vs):kvs.length=vs.length:=Paired.length r
end
theorem Qez {P:Program} {w:World} {k:Key} {u:Value} (r:RelV (kV k) u):(Xl P w).is k u=true:=by
 cases k with
 | inl i=>obtain ⟨t,e⟩:=(show ∃ t,u=Value.int i t from r);subst e;exact Qeo P w i t
 | inr x=>obtain ⟨t,e⟩:=(show ∃ t,u=Value.str x t from r);subst e;exact Qep P w x t
theorem Qdk {P:Program} {w:World}:∀ {ks:List Key} {us:List Value},Vals (ks.map kV) us->ItemsAre (Xl P w) ks us
 | [],_,r=>by rw [jJb] at r;cases r;exact .nil
 | k :: ks,_,r=>by
  rw [yQ] at r
  cases r with
  | cons h t=>exact .cons (Qez h) (Qdk t)
abbrev KT (H:Hp):List (List Key × V)->List (List Key × Addr × Value)->Prop:=Paired fun p q=>p.1=q.1/\H q.2.1=some (.tup (p.1.map kV))/\RelV p.2 q.2.2
theorem KT.val {H:Hp} {kvs:List (List Key × V)} {xs:List (List Key × Addr × Value)} (r:KT H kvs xs) (k:List Key):RelO (valV kvs k) ((atKey xs k).map (·.2)):=by
 induction r with
 | nil=>exact True.intro
 | @cons p q ps qs h t ih =>
  obtain ⟨h1,_,h2⟩:=h
  by_cases e:p.1=k
  ·have e':q.1=k:=h1.symm.trans e
   have b:atKey (q :: qs) k=some q.2:=by simp [atKey,jJf,e']
   rw [Yv e,b];exact h2
  ·have e':¬ q.1=k:=fun z=>e (h1.trans z)
   have b:atKey (q :: qs) k=atKey qs k:=by simp [atKey,jJf,e']
   rw [Yw e,b];exact ih
theorem KT.repl {H:Hp} {kvs:List (List Key × V)} {xs:List (List Key × Addr × Value)} (r:KT H kvs xs) (k:List Key) {y:V} {u:Value} (ry:RelV y u) :
  KT H (kvs.map fun kv=>if kv.1=k then (kv.1,y) else kv) (xs.map (putAt k u)):=by
 induction r with
 | nil=>exact .nil
 | @cons p q ps qs h t ih =>
  rw [yQ,yQ]
  refine .cons ?_ ih
  obtain ⟨h1,h2,h3⟩:=h
  unfold putAt
  by_cases e:p.1=k
  ·rw [if_pos e,if_pos (h1.symm.trans e)];exact ⟨h1,h2,ry⟩
  ·rw [if_neg e,if_neg (fun z=>e (h1.trans z))];exact ⟨h1,h2,h3⟩
theorem KT.put {H:Hp} {kvs:List (List Key × V)} {xs:List (List Key × Addr × Value)} (r:KT H kvs xs) (k:List Key) {b:Addr} {y:V} {u:Value} (hb:H b=some (.tup (k.map kV))) (ry:RelV y u) :
  KT H (putK kvs k y) (storedH xs k b u):=by
 have e:(kvs.any fun kv=>decide (kv.1=k))=(atKey xs k).isSome:=by
  rw [Vw,(r.val k).isSome_eq,Option.isSome_map]
 unfold putK storedH
 rw [e]
 by_cases q:(atKey xs k).isSome=true
 ·rw [if_pos q,if_pos q];exact r.repl k ry
 ·rw [if_neg q,if_neg q];exact Paired.snoc r ⟨rfl,hb,ry⟩
theorem KT.keeps {H H':Hp} {kvs:List (List Key × V)} {xs:List (List Key × Addr × Value)} (r:KT H kvs xs) (ht:∀ b ys,H b=some (.tup ys)->H' b=some (.tup ys)):KT H' kvs xs :=
 Paired.mapP r fun _ _ z=>⟨z.1,ht _ _ z.2.1,z.2.2⟩
section
variable {P:Program} {w:World} {H:Hp} {h:Heap} {a:Addr}
theorem rd_of {u:HO} (ok:HOk P w H h) (e:Rd H a u):ObjOk P w H h a u:=e.ok ok
theorem Qfa {kvs:List (Key × V)} (ok:HOk P w H h) (e:Rd H a (.dK kvs)):kvs.length<=sizeLine/\(a == sysModules)=false/\∃ vs,KV kvs vs/\h.DictOf (Xl P w) a vs :=
 show ObjOk P w H h a (.dK kvs) from rd_of ok e
theorem Qan {kvs:List (Key × V)} (ok:HOk P w H h) (e:H a=some (.dK kvs)):kvs.length<=sizeLine/\(a == sysModules)=false/\∃ vs,KV kvs vs/\h.DictOf (Xl P w) a vs:=Qfa ok (.inl e)
theorem Wv {ks:List Key} (ok:HOk P w H h) (e:H a=some (.tup (ks.map kV))):(tupleKind (Xl P w)).is h ks a:=by
 obtain ⟨_,its,r,o,h1,h2,n,h3⟩:=(show ObjOk P w H h a (.tup (ks.map kV)) from ok a _ e)
 exact ⟨o,its.toArray,n,h1,h2,h3,by simpa using Qdk r⟩
theorem Qfb {kvs:List (List Key × V)} (ok:HOk P w H h) (e:Rd H a (.dT kvs)):kvs.length<=sizeLine/\(a == sysModules)=false /\
  ∃ xs,KT H kvs xs/\h.DictOfH (tupleKind (Xl P w)) a xs:=by
 obtain ⟨z,y,xs,r,o,es,ep,h1,h2,h3,h4,h5⟩:=(show ObjOk P w H h a (.dT kvs) from rd_of ok e)
 refine ⟨z,y,xs,r,o,es,ep,h1,h2,h3,h4,fun x hx=>?_,h5⟩
 have all:∀ {l:List (List Key × V)} {m:List (List Key × Addr × Value)},KT H l m->∀ x ∈ m,(tupleKind (Xl P w)).is h x.1 x.2.1:=by
  intro l m q
  induction q with
  | nil=>intro x hx;exact nomatch hx
  | @cons p q ps qs hq t ih =>
   intro x hx
   rcases yX.mp hx with e | hx
   ·subst e
    exact Wv ok (by rw [← hq.1];exact hq.2.1)
   ·exact ih x hx
 exact all r x hx
theorem Qqc {kvs:List (List Key × V)} (ok:HOk P w H h) (e:H a=some (.dT kvs)):kvs.length<=sizeLine/\(a == sysModules)=false /\
  ∃ xs,KT H kvs xs/\h.DictOfH (tupleKind (Xl P w)) a xs:=Qfb ok (.inl e)
end
def DGet (H:Hp) (a:Addr) (y:V) (r:Option V):Prop :=
 (∃ kvs k,Rd H a (.dK kvs)/\y=kV k/\r=valV kvs k)\/∃ kvs k b,Rd H a (.dT kvs)/\y=.ref b/\H b=some (.tup (k.map kV))/\r=valV kvs k
def DPut (H:Hp) (a:Addr) (y v:V) (H':Hp):Prop :=
 (∃ kvs k,H a=some (.dK kvs)/\y=kV k/\kvs.length < sizeLine/\H'=upd H a (.dK (putK kvs k v))) \/
 ∃ kvs k b,H a=some (.dT kvs)/\y=.ref b/\H b=some (.tup (k.map kV))/\kvs.length < sizeLine/\H'=upd H a (.dT (putK kvs k v))
theorem DGet.k {H:Hp} {a:Addr} {kvs:List (Key × V)} {k:Key} (e:H a=some (.dK kvs)):DGet H a (kV k) (valV kvs k):=.inl ⟨kvs,k,.inl e,rfl,rfl⟩
theorem DGet.t {H:Hp} {a b:Addr} {kvs:List (List Key × V)} {k:List Key} (e:H a=some (.dT kvs)) (eb:H b=some (.tup (k.map kV))):DGet H a (.ref b) (valV kvs k):=.inr ⟨kvs,k,b,.inl e,rfl,eb,rfl⟩
theorem DPut.k {H:Hp} {a:Addr} {kvs:List (Key × V)} {k:Key} {v:V} (e:H a=some (.dK kvs)) (hl:kvs.length < sizeLine):DPut H a (kV k) v (upd H a (.dK (putK kvs k v))):=.inl ⟨kvs,k,e,rfl,hl,rfl⟩
section
variable {X:Cx} {pins:List (Addr × Obj)} {σ:St} {H:Hp} {s:Shared} {a:Addr} {y v:V} {u r:Value} {o:Option V} {A:Around} {E:Value->Shared->Prop}
theorem Inv.big (I:Inv X pins σ H s):sysModules < s.heap.objs.size:=by
 have h:mainGlobals < s.heap.objs.size:=(I.mod.glob.keeps I.bk).lt
 exact Nat.lt_trans (by decide) h
theorem Qkb {Q:Value->Shared->Prop} (hu:A.units + 1 < cLine) (I:Inv X pins σ H s) (g:DGet H a y (some v)) (ry:RelV y u) (h:∀ w' s',Inv X pins σ H s'->RelV v w'->Q w' s') :
  wpAny (model X.prog X.w) A (getItem (.ref a) u) Q E s:=by
 rcases g with ⟨kvs,k,e,ey,l⟩ | ⟨kvs,k,b,e,ey,eb,l⟩
 ·subst ey
  obtain ⟨z,hd,vs,rel,dd⟩:=Qfa I.hok e
  obtain ⟨w',hw,rw'⟩:=RelO.some_of (v:=v) (o:=valueAt vs k) (by rw [l];exact rel.val k)
  exact wpAny_getItem_of (Qez ry) dd.mapOf hw (h w' _ (I.tok _) rw')
 ·subst ey
  cases (show u=Value.ref b from ry)
  obtain ⟨z,hd,xs,rel,dd⟩:=Qfb I.hok e
  obtain ⟨w',hw,rw'⟩:=RelO.some_of (v:=v) (o:=(atKey xs k).map (·.2)) (by rw [l];exact rel.val k)
  obtain ⟨p,hp,hp2⟩:=kXa.mp hw
  refine wpAny_getItem_heap (tupleKind_room_in1 hu) (Wv I.hok eb) dd hp ?_
  rw [hp2]
  exact h w' _ (I.tok _) rw'
theorem d_in {Q:Value->Shared->Prop} (hu:A.units + 1 < cLine) (I:Inv X pins σ H s) (g:DGet H a y o) (ry:RelV y u) (h:∀ s',Inv X pins σ H s'->Q (.bool o.isSome) s') :
  wpAny (model X.prog X.w) A (compareOp .In u (.ref a)) Q E s:=by
 rcases g with ⟨kvs,k,e,ey,l⟩ | ⟨kvs,k,b,e,ey,eb,l⟩
 ·subst ey
  obtain ⟨z,hd,vs,rel,dd⟩:=Qfa I.hok e
  refine wpAny_in_of (Qez ry) hd dd.mapOf ?_
  rw [← (rel.val k).isSome_eq,← l]
  exact h _ (I.tok _)
 ·subst ey
  cases (show u=Value.ref b from ry)
  obtain ⟨z,hd,xs,rel,dd⟩:=Qfb I.hok e
  refine wpAny_in_heap (tupleKind_room_in1 hu) (Wv I.hok eb) hd dd ?_
  have q:=(rel.val k).isSome_eq
  rw [Option.isSome_map] at q
  rw [← q,← l]
  exact h _ (I.tok _)
theorem Ki {h':Heap} {t':Nat} {ob:HO} (I:Inv X pins σ H s) (mu:Mut (H a)) (hs:Heap.SameBut a s.heap h') (he:∃ q,h'.get? a=some q) (new:ObjOk X.prog X.w (upd H a ob) h' a ob) :
  Inv X pins σ (upd H a ob) { s with heap:=h',toks:=t' } :=
 I.write (x:=a) (e:=a) mu (.inl rfl) (fun b q hb z=>(hs.2 b hb).trans z) he new
theorem Qkc {P:Program} {w:World} {H':Hp} {h':Heap} {kvs:List (Key × V)} {vs:List (Key × Value)} (z:kvs.length<=sizeLine) (hd:(a == sysModules)=false) (rel:KV kvs vs) (dd:h'.DictOf (Xl P w) a vs) :
  ObjOk P w H' h' a (.dK kvs):=⟨z,hd,vs,rel,dd⟩
theorem Qkd {H':Hp} {Q:Unit->Shared->Prop} (hu:A.units + 1 < cLine) (I:Inv X pins σ H s) (g:DPut H a y v H') (ry:RelV y u) (rv:RelV v r) (h:∀ s',Inv X pins σ H' s'->Q () s') :
  wpAny (model X.prog X.w) A (setItem (.ref a) u r) Q E s:=by
 rcases g with ⟨kvs,k,e,ey,l,eH⟩ | ⟨kvs,k,b,e,ey,eb,l,eH⟩
 ·subst ey eH
  obtain ⟨z,hd,vs,rel,dd⟩:=Qan I.hok e
  have hz:vs.length<=sizeLine:=by rw [← rel.length];exact z
  have hl:(putK kvs k v).length<=sizeLine:=by have:=Zg kvs k v;omega
  refine wpAny_setItem_pairs (hsz:=hz) (Qez ry) dd fun h' dd' hs=>h _ ?_
  have he:∃ q,h'.get? a=some q:=let ⟨q,_,_,hq,_⟩:=dd';⟨q,hq⟩
  exact Ki I (by rw [e];exact True.intro) hs he (Qkc hl hd (rel.put k rv) dd')
 ·subst ey eH
  cases (show u=Value.ref b from ry)
  obtain ⟨z,hd,xs,rel,dd⟩:=Qqc I.hok e
  have hz:xs.length<=sizeLine:=by rw [← Paired.length rel];exact z
  have hl:(putK kvs k v).length<=sizeLine:=by have:=Zg kvs k v;omega
  refine wpAny_setItem_heap (hsz:=hz) (tupleKind_room_in1 hu) (Wv I.hok eb) dd fun h' dd' hs=>h _ ?_
  obtain ⟨q,es,ep,hq,h2,h3,h4,_,h5⟩:=dd'
  refine Ki I (by rw [e];exact True.intro) hs ⟨q,hq⟩ ⟨hl,hd,_,(rel.put k eb rv).keeps fun c ys ec=>?_,q,es,ep,hq,h2,h3,h4,h5⟩
  rw [Qi (Yp ec e (fun z=>nomatch z))]
  exact ec
end
def NoSl (i:Expr):Prop:=∀ ov iv,subscripted i false ov iv=operate [ov,iv] (getItem ov iv)
theorem Qqd {prog:Program} {w:World} {A:Around} {E:Value->Shared->Prop} {s:Shared} {env:Env} {value slice:Expr} {pos:Pos} {T id:String} {Q:Value->Shared->Prop}
  (hl:typeLookup (.type T) "__getitem__"=pure (some (.builtin id))) (hs:NoSl slice)
  (h:wpAny (model prog w) A (eval value env) (fun o s₁=>wpAny (model prog w) A (eval slice env) (fun i s₂=>s₂.TypeIs o T/\wpAny (model prog w) A (getItem o i) Q E s₂) E s₁) E s) :
  wpAny (model prog w) A (eval (.Subscript value slice pos) env) Q E s:=by
 refine Subscript_ (wpAny_mono h (fun o s₁ h₁=>wpAny_mono h₁ (fun i s₂ h₂=>?_) fun _ _ x=>x) fun _ _ x=>x)
 obtain ⟨hT,h₂⟩:=h₂
 unfold subscriptTail
 refine jQ ?_
 rw [getitemInPython_of_ne hT.not_modules]
 refine jQ (wpAny_specialOf hT hl ?_)
 have fin:wpAny (model prog w) A (subscripted slice false o i) (fun r s₃=>wpAny (model prog w) A (letTemporaryGo value o r >>= fun _=>pure r) Q E s₃) E s₂:=by
  rw [hs o i]
  exact wpAny_operating (wpAny_mono h₂ (fun r s₃ h₃=>jQ (wpAny_letTemporaryGo (jV h₃))) fun _ _ x=>x)
 first
  | exact jV (jQ fin)
  | exact jQ (jV (jQ fin))
  | exact jQ fin
theorem Qfc {X:Cx} {pins:List (Addr × Obj)} {σ:St} {H:Hp} {s:Shared} {a:Addr} {y:V} {o:Option V} (I:Inv X pins σ H s) (g:DGet H a y o):s.TypeIs (.ref a) "dict":=by
 rcases g with ⟨kvs,k,e,_,_⟩ | ⟨kvs,k,b,e,_,_,_⟩
 ·obtain ⟨_,_,vs,_,dd⟩:=Qfa I.hok e
  exact dd.typeIs
 ·obtain ⟨_,_,xs,_,dd⟩:=Qfb I.hok e
  exact dd.typeIs
def tDGet (td ty:TE):TE:=fun σ H Q=>td σ H fun x H1=>ty σ H1 fun y H2=>∃ a v,x=.ref a/\DGet H2 a y (some v)/\Q v H2
def tDIn (ty td:TE):TE:=fun σ H Q=>ty σ H fun y H1=>td σ H1 fun x H2=>∃ a o,x=.ref a/\DGet H2 a y o/\Q (.bl o.isSome) H2
def sDPut (td ty tv:TE):TS:=fun D σ H=>tv σ H fun v H1=>td σ H1 fun x H2=>ty σ H2 fun y H3=>∃ a H4,x=.ref a/\DPut H3 a y v H4/\D.nx σ H4
section
variable {X:Cx} {o i value:Expr} {pos pos':Pos} {td ty tv:TE}
theorem Zh (hu:X.A.units + 1 < cLine) (ho:PE X o td) (hi:PE X i ty) (hs:NoSl i):PE X (.Subscript o i pos) (tDGet td ty):=by
 intro pins s σ H Q I h
 refine Qqd PySem.F.slot_dict_getitem.lookup hs (thn (ho pins s σ H _ I h) fun u s1 ⟨x,H1,I1,rx,q1⟩=>thn (hi pins s1 σ H1 _ I1 q1) fun iv s2 hqP=>?_)
 obtain ⟨y,H2,I2,ry,a,v,ex,g,q2⟩:=hqP
 subst ex
 obtain rfl:u=Value.ref a:=rx
 exact ⟨Qfc I2 g,Qkb hu I2 g ry fun w' s3 I3 rw'=>⟨v,H2,I3,rw',q2⟩⟩
theorem pc_din (hu:X.A.units + 1 < cLine) (hi:PE X i ty) (ho:PE X o td):PC X .In i o (tDIn ty td):=by
 intro pins s σ H Q I h
 refine thn (hi pins s σ H _ I h) fun iv s1 ⟨y,H1,I1,ry,q1⟩=>thn (ho pins s1 σ H1 _ I1 q1) fun u s2 hqP=>?_
 obtain ⟨x,H2,I2,rx,a,ov,ex,g,q2⟩:=hqP
 subst ex
 obtain rfl:u=Value.ref a:=rx
 exact d_in hu I2 g ry fun s3 I3=>⟨.bl ov.isSome,H2,I3,rfl,q2⟩
theorem Qqe (hu:X.A.units + 1 < cLine) (ho:PE X o td) (hi:PE X i ty) (hv:PE X value tv) (hs:swapsWith value (some (.Subscript o i pos')) pos.line X.env=pure false) :
  PS X (.Assign [.Subscript o i pos'] value pos) (sDPut td ty tv):=by
 intro pins s σ H D I h
 refine wpAny_Assign_Subscript (thn (hv pins s σ H _ I h) fun r s1 ⟨v,H1,I1,rv,q1⟩=>thn (ho pins s1 σ H1 _ I1 q1) fun u s2 ⟨x,H2,I2,rx,q2⟩=>thn (hi pins s2 σ H2 _ I2 q2) fun iv s3 hqP=>?_) hs
 obtain ⟨y,H3,I3,ry,a,H4,ex,g,q3⟩:=hqP
 subst ex
 obtain rfl:u=Value.ref a:=rx
 exact Qkd hu I3 g ry rv fun s4 I4=>⟨σ,H4,I4,q3⟩
end
theorem Qbs {P:Program} {w:World} {H:Hp} (h:Heap) (hb:sysModules < h.objs.size):ObjOk P w H (h.push { cls:=.type "dict",data:=.dict #[] }) h.objs.size (.dK []) :=
 ⟨jXe _,beq_eq_false_iff_ne.mpr (Ne.symm (xY hb)),[],.nil,Heap.DictOf.new h⟩
theorem Qms {P:Program} {w:World} {H:Hp} (h:Heap) (hb:sysModules < h.objs.size):ObjOk P w H (h.push { cls:=.type "dict",data:=.dict #[] }) h.objs.size (.dT []) :=
 ⟨jXe _,beq_eq_false_iff_ne.mpr (Ne.symm (xY hb)),[],.nil,_,#[],0,yK _ rfl,⟨rfl,rfl,rfl⟩,rfl,rfl,List.nodup_nil⟩
def tDNewK:TE:=fun _ H Q=>∀ p,H p=none->Q (.ref p) (upd H p (.dK []))
section
variable {X:Cx} {pos:Pos}
theorem Qmt:PE X (.Dict [] [] pos) tDNewK:=fun pins s σ H Q I h =>
 wpAny_Dict_empty ⟨.ref s.heap.objs.size,_,I.laid (a:=s.heap.objs.size) (o:=.dK []) (t':=s.toks) (fun _ _ q=>jW _ q) (jK _) (Qbs s.heap I.big),rfl,h _ (I.hok.fresh (jK _))⟩
end
structure M1 (X:Cx) (o:Expr) (m:Str) (apos:Pos) (e:Expr) (cpos:Pos):Prop where
 base:attributeBase o m X.env (eval o X.env)=eval o X.env
 few:((backTo cpos (starEach [e] X.env)).all (fun x=>!x.1) && (backToKw cpos (keywordEach [] X.env)).all (fun x=>x.1.isSome)
  && decide (([e]:List Expr).length + ([]:List Keyword).length + (if ([]:List Keyword).isEmpty then 0 else 1) < 30))=true
 line:(apos.endLine == cpos.line)=true
 trees:backTo cpos (starEach [e] X.env)=[(false,eval e X.env)]
structure M2 (X:Cx) (o:Expr) (m:Str) (apos:Pos) (e f:Expr) (cpos:Pos):Prop where
 base:attributeBase o m X.env (eval o X.env)=eval o X.env
 few:((backTo cpos (starEach [e,f] X.env)).all (fun x=>!x.1) && (backToKw cpos (keywordEach [] X.env)).all (fun x=>x.1.isSome)
  && decide (([e,f]:List Expr).length + ([]:List Keyword).length + (if ([]:List Keyword).isEmpty then 0 else 1) < 30))=true
 line:(apos.endLine == cpos.line)=true
 trees:backTo cpos (starEach [e,f] X.env)=[(false,eval e X.env),(false,eval f X.env)]
def IsD (H:Hp) (a:Addr):Prop:=(∃ kvs,Rd H a (.dK kvs))\/∃ kvs,Rd H a (.dT kvs)
theorem Qpb {X:Cx} {pins:List (Addr × Obj)} {σ:St} {H:Hp} {s:Shared} {a:Addr} (I:Inv X pins σ H s) (d:IsD H a) :
  s.TypeIs (.ref a) "dict"/\(∀ b,Value.ref a=.ref b->∃ ob,s.heap.get? b=some ob/\ob.dict=none)/\(a == sysModules)=false:=by
 rcases d with ⟨kvs,e⟩ | ⟨kvs,e⟩
 ·obtain ⟨_,hd,vs,_,dd⟩:=Qfa I.hok e
  refine ⟨dd.typeIs,fun b q=>?_,hd⟩
  cases q
  obtain ⟨ob,_,_,h1,h2,_⟩:=dd
  exact ⟨ob,h1,h2.2.1⟩
 ·obtain ⟨_,hd,xs,_,dd⟩:=Qfb I.hok e
  refine ⟨dd.typeIs,fun b q=>?_,hd⟩
  cases q
  obtain ⟨ob,_,_,h1,h2,_⟩:=dd
  exact ⟨ob,h1,h2.2.1⟩
section
variable {X:Cx} {pins:List (Addr × Obj)} {σ:St} {H:Hp} {s:Shared} {a:Addr} {y d:V} {u r:Value} {o:Option V} {A:Around} {E:Value->Shared->Prop}
theorem d_get1 {Q:Value->Shared->Prop} (hu:A.units + 1 < cLine) (I:Inv X pins σ H s) (g:DGet H a y o) (ry:RelV y u) (h:∀ w' s',Inv X pins σ H s'->RelV (o.getD .non) w'->Q w' s') :
  wpAny (model X.prog X.w) A (call (.builtin "dict.get") [.ref a,u]) Q E s:=by
 rcases g with ⟨kvs,k,e,ey,l⟩ | ⟨kvs,k,b,e,ey,eb,l⟩
 ·subst ey
  obtain ⟨z,hd,vs,rel,dd⟩:=Qfa I.hok e
  refine call_meetsIn PySem.F.slot_dict_get dd.typeIs PySem.F.entry_dict_get (PySem.F.args_dict_get_2 _ _) (meets_dict_get (Xl X.prog X.w) a (Qez ry) hd) ⟨_,dd.mapOf,h _ _ (I.tok _) ?_⟩
  rw [l]
  exact (rel.val k).getD rfl
 ·subst ey
  cases (show u=Value.ref b from ry)
  obtain ⟨z,hd,xs,rel,dd⟩:=Qfb I.hok e
  refine call_meetsIn PySem.F.slot_dict_get dd.typeIs PySem.F.entry_dict_get (PySem.F.args_dict_get_2 _ _) (meetsH_dict_get (tupleKind (Xl X.prog X.w)) a b hd) ⟨tupleKind_room_in1 hu,k,xs,Wv I.hok eb,dd,h _ _ (I.tok _) ?_⟩
  rw [l]
  exact (rel.val k).getD rfl
theorem d_get2 {Q:Value->Shared->Prop} (hu:A.units + 1 < cLine) (I:Inv X pins σ H s) (g:DGet H a y o) (ry:RelV y u) (rd:RelV d r) (h:∀ w' s',Inv X pins σ H s'->RelV (o.getD d) w'->Q w' s') :
  wpAny (model X.prog X.w) A (call (.builtin "dict.get") [.ref a,u,r]) Q E s:=by
 rcases g with ⟨kvs,k,e,ey,l⟩ | ⟨kvs,k,b,e,ey,eb,l⟩
 ·subst ey
  obtain ⟨z,hd,vs,rel,dd⟩:=Qfa I.hok e
  refine call_meetsIn PySem.F.slot_dict_get dd.typeIs PySem.F.entry_dict_get (PySem.F.args_dict_get_3 _ _ _) (meets_dict_get_default (Xl X.prog X.w) a (Qez ry) hd r) ⟨_,dd.mapOf,h _ _ (I.tok _) ?_⟩
  rw [l]
  exact (rel.val k).getD rd
 ·subst ey
  cases (show u=Value.ref b from ry)
  obtain ⟨z,hd,xs,rel,dd⟩:=Qfb I.hok e
  refine call_meetsIn PySem.F.slot_dict_get dd.typeIs PySem.F.entry_dict_get (PySem.F.args_dict_get_3 _ _ _) (meetsH_dict_get_default (tupleKind (Xl X.prog X.w)) a b hd r) ⟨tupleKind_room_in1 hu,k,xs,Wv I.hok eb,dd,h _ _ (I.tok _) ?_⟩
  rw [l]
  exact (rel.val k).getD rd
end
def tDGet1 (td ty:TE):TE:=fun σ H Q=>td σ H fun x H1=>∃ a,x=.ref a/\IsD H1 a/\ty σ H1 fun y H2=>∃ o,DGet H2 a y o/\Q (o.getD .non) H2
def tDGet2 (td ty tx:TE):TE:=fun σ H Q=>td σ H fun x H1=>∃ a,x=.ref a/\IsD H1 a/\ty σ H1 fun y H2=>tx σ H2 fun z H3=>∃ o,DGet H3 a y o/\Q (o.getD z) H3
section
variable {X:Cx} {o e f:Expr} {apos cpos:Pos} {td ty tx:TE}
theorem Qmu (hu:X.A.units + 1 < cLine) (ho:PE X o td) (he:PE X e ty) (m:M1 X o "get" apos e cpos):PE X (.Call (.Attribute o "get" apos) [e] [] cpos) (tDGet1 td ty):=by
 intro pins s σ H Q I h
 refine wpAny_Call_method m.base m.few m.line PySem.F.plainAttrs_dict PySem.F.slot_dict_get PySem.F.type_dict_get (thn (ho pins s σ H _ I h) fun u s1 hqP=>?_)
 obtain ⟨x,H1,I1,rx,a,ex,d,q1⟩:=hqP
 subst ex
 obtain rfl:u=Value.ref a:=rx
 obtain ⟨t1,t2,_⟩:=Qpb I1 d
 refine ⟨t1,t2,?_⟩
 rw [m.trees]
 refine Calls.callWith_builtin rfl (Calls.evalArgs_plain (Calls.spliced_cons (thn (he pins s1 σ H1 _ I1 q1) fun iv s2 ⟨y,H2,I2,ry,ov,g,q2⟩=>Calls.spliced_nil ?_)))
 exact d_get1 hu I2 g ry fun w' s3 I3 rw'=>⟨_,H2,I3,rw',q2⟩
theorem Qgh (hu:X.A.units + 1 < cLine) (ho:PE X o td) (he:PE X e ty) (hf:PE X f tx) (m:M2 X o "get" apos e f cpos):PE X (.Call (.Attribute o "get" apos) [e,f] [] cpos) (tDGet2 td ty tx):=by
 intro pins s σ H Q I h
 refine wpAny_Call_method m.base m.few m.line PySem.F.plainAttrs_dict PySem.F.slot_dict_get PySem.F.type_dict_get (thn (ho pins s σ H _ I h) fun u s1 hqP=>?_)
 obtain ⟨x,H1,I1,rx,a,ex,d,q1⟩:=hqP
 subst ex
 obtain rfl:u=Value.ref a:=rx
 obtain ⟨t1,t2,_⟩:=Qpb I1 d
 refine ⟨t1,t2,?_⟩
 rw [m.trees]
 refine Calls.callWith_builtin rfl (Calls.evalArgs_plain (Calls.spliced_cons (thn (he pins s1 σ H1 _ I1 q1) fun iv s2 ⟨y,H2,I2,ry,q2⟩ =>
  Calls.spliced_cons (thn (hf pins s2 σ H2 _ I2 q2) fun fv s3 ⟨z,H3,I3,rz,ov,g,q3⟩=>Calls.spliced_nil ?_))))
 exact d_get2 hu I3 g ry rz fun w' s4 I4 rw'=>⟨_,H3,I4,rw',q3⟩
end
end L2
namespace Att
open PySem PySem.W PySem.Calls PyProof.Rows
end Att
namespace L2
open PySem PySem.Spec PyProof.Rows
theorem Qdl:typeLookup (.type "list") "keys"=pure none:=by rw [typeLookup_type,builtinLookup_eq_fast];kernel_rfl
section
variable {prog:Program} {w:World} {A:Around} {E:Value->Shared->Prop}
theorem Kq {s:Shared} {a:Addr} {xs:Array Value} {k:Nat} {sl:Array (Option Value)} {Q:Option Value->Shared->Prop} (hx:s.heap.get? a=some { cls:=.type "list",dict:=none,data:=.seq xs k,slots:=sl }) (hA:A.handled=none)
  (h:∀ h' tk,(∀ b o,s.heap.get? b=some o->h'.get? b=some o)->Q none { s with heap:=h',toks:=tk }):wpAny (model prog w) A (getAttr? (.ref a) "keys") Q E s:=by
 obtain ⟨hp,g,d,tk,os⟩:=s
 have hT:∀ tk',(⟨hp,g,d,tk',os⟩:Shared).TypeIs (.ref a) "list":=fun _=>⟨_,hx,rfl⟩
 have f1:=sub_AttributeError
 have f3:=F.slot_list_getattribute.lookup
 have f4:=F.slot_list_getattribute.bind (.ref a)
 have f5:=am_list_getattr_none
 have hname:(["__module__","__name__","__qualname__","__doc__","__annotations__"]:List Str).contains "keys"=false:=by decide +kernel
 unfold getAttr? getAttrBy? getAttrBy
 repeat (any_goals (first | assumption | exact hT _ | ((with_reducible show wpAny _ _ (call (Value.builtin "list.__getattribute__") _ _) _ _ _);refine call_meets F.slot_list_getattribute (hT _) am_entry_list_getattribute (F.args_list_getattribute_2 _ _) (meets_getattribute_miss_list a xs k sl "keys" _ Qdl hname (by decide +kernel)) ⟨hx,hA,fun h' tk' e hx'=>?_⟩) | wp_step))
 have hxo:=hx'.of
 obtain ⟨⟨cl,dc,da,sl2⟩,vs,he,hc,_,_⟩:=hxo.there
 simp only at hc
 subst hc
 have hE:∀ tk2,(⟨h',g,d,tk2,os⟩:Shared).TypeIs (.ref e) "AttributeError":=fun _=>⟨_,he,rfl⟩
 show wpAny _ _ (getattributeRaised _ _ _ _ _ _ _) _ _ _
 unfold getattributeRaised
 repeat (any_goals (first | assumption | exact hE _ | wp_step))
 all_goals exact h _ _ hxo.keeps
end
def Kr:entryFor table "dict.update.loop"=some Builtin.«dict.update.loop»:=entryFor_of_tree (by kernel_rfl)
theorem Zl:plainId "dict.update.loop"=true:=by decide +kernel
section
variable {P:Program} {w:World} {A:Around} {E:Value->Shared->Prop} {s:Shared} {e it l:Addr} {st:Nat->Heap->Prop} {src:List Value->Heap->Prop} {i:Nat} {xs:List Value} {old:Value}
theorem Qbt {x:Value} {Q:Option Value->Shared->Prop} (dr:Drw P w it l st src) (hE:IsEnum s.heap e it i old) (hI:st i s.heap) (hl:src xs s.heap) (hx:xs[i]?=some x) (hne:e ≠ it)
  (hQ:∀ h',IsEnumOut h' e it ((i:Int) + 1) x s.heap.objs.size->st (i + 1) h'->h'.get? s.heap.objs.size=some { cls:=.type "tuple",data:=.seq #[.int i s.toks,x] } ->
   (∀ b o,b ≠ e->b ≠ it->s.heap.get? b=some o->h'.get? b=some o)->Q (some (.ref s.heap.objs.size)) { s with heap:=h',toks:=s.toks + 1 }):wpAny (model P w) A (pyNext (.ref e)) Q E s:=by
 have hTy:s.TypeIs (.ref e) "enumerate":=⟨_,hE,rfl⟩
 unfold pyNext
 refine jQ (wpAny_attempt (wpAny_callSpecial?_slot (name:=Str.ofString "__next__") hTy F.slot_enumerate_next (wpAny_call_entry F.slot_enumerate_next hTy F.entry_enumerate_next ?_ (F.args_enumerate_next_1 _))))
 obtain ⟨hp,g,d,tk,os⟩:=s
 show wpAny _ _ (field (.ref e) 2 >>= _) _ _ _
 refine jQ (wpAny_field hE rfl (x:=.ref it) rfl ?_)
 refine jQ (dr.item _ _ ⟨hp,g,d,tk,os⟩ i xs x _ hI hl hx fun g1 hI1 e1=>?_)
 replace e1:Heap.SameBut it hp g1:=e1
 have hE1:IsEnum g1 e it i old:=(e1.2 e hne).trans hE
 show wpAny _ _ (field (.ref e) 3 >>= _) _ _ ⟨g1,g,d,tk,os⟩
 refine jQ (wpAny_field hE1 rfl (x:=rawInt i) rfl ?_)
 show wpAny _ _ (field (.ref e) 4 >>= _) _ _ ⟨g1,g,d,tk,os⟩
 refine jQ (wpAny_field hE1 rfl (x:=.none) rfl ?_)
 show wpAny _ _ (mkInt i >>= _) _ _ ⟨g1,g,d,tk,os⟩
 refine jQ (wpAny_mkInt ?_)
 show wpAny _ _ (setField (.ref e) 3 (rawInt ((i:Int) + 1)) >>= _) _ _ ⟨g1,g,d,tk + 1,os⟩
 refine jQ (wpAny_setField_rec hE1 (by simp) fun g2 hE2 e2=>?_)
 replace e2:Heap.SameBut e g1 g2:=e2
 replace hE2:IsEnum g2 e it ((i:Int) + 1) old:=hE2
 show wpAny _ _ (setField (.ref e) 4 .none >>= _) _ _ ⟨g2,g,d,tk + 1,os⟩
 refine jQ (wpAny_setField_rec hE2 (by simp) fun g3 hE3 e3=>?_)
 replace e3:Heap.SameBut e g2 g3:=e3
 replace hE3:IsEnum g3 e it ((i:Int) + 1) old:=hE3
 show wpAny _ _ (newTuple [.int i tk,x] >>= _) _ _ ⟨g3,g,d,tk + 1,os⟩
 refine jQ (wpAny_newTuple ?_)
 have hE4:IsEnum (g3.push { cls:=.type "tuple",data:=.seq #[.int i tk,x] }) e it ((i:Int) + 1) old:=jW _ hE3
 generalize hg4:g3.push { cls:=.type "tuple",data:=.seq #[.int i tk,x] }=g4 at hE4
 have hsz:g3.objs.size=hp.objs.size:=by rw [e3.1,e2.1,e1.1]
 have hel:e < hp.objs.size:=zX hE
 have hT4:g4.get? hp.objs.size=some { cls:=.type "tuple",data:=.seq #[.int i tk,x] }:=by rw [← hg4,← hsz];exact yK _ rfl
 have hk4:∀ b o,b ≠ e->b ≠ it->hp.get? b=some o->g4.get? b=some o:=fun b o hbe hbi hb=>by
  rw [← hg4];exact jW _ (e3.extBut b o hbe (e2.extBut b o hbe (e1.extBut b o hbi hb)))
 have hI4:st (i + 1) g4:=dr.keep _ _ _ hI1 fun q z=>by rw [← hg4];exact jW _ (e3.extBut _ _ hne.symm (e2.extBut _ _ hne.symm z))
 show wpAny _ _ (Builtin.SmallTypes.ownedTupleIsFree (.ref e) >>= _) _ _ ⟨g4,g,d,tk + 1,os⟩
 rw [hsz]
 clear hg4 hE3 e3 hE2 e2 hE1 e1 hI1 hsz
 refine jQ ?_
 unfold Builtin.SmallTypes.ownedTupleIsFree
 refine jQ (wpAny_field hE4 rfl (x:=.none) rfl (jV ?_))
 simp only [if_true]
 refine jQ (wpAny_rule (jQ (wpAny_field hE4 rfl (x:=old) rfl (jQ (wpAny_setField_rec hE4 (by simp) fun g5 hE5 e5=>?_)))))
 replace e5:Heap.SameBut e g4 g5:=e5
 replace hE5:IsEnum g5 e it ((i:Int) + 1) x:=hE5
 show wpAny _ _ (Builtin.SmallTypes.ownedTupleHandOut (.ref e) (.ref hp.objs.size) >>= _) _ _ ⟨g5,g,d,tk + 1,os⟩
 refine jQ ?_
 unfold Builtin.SmallTypes.ownedTupleHandOut
 refine jQ (wpAny_setField_rec hE5 (by simp) fun g6 hE6 e6=>?_)
 replace e6:Heap.SameBut e g5 g6:=e6
 replace hE6:IsEnumOut g6 e it ((i:Int) + 1) x hp.objs.size:=hE6
 refine wpAny_setField_rec hE6 (by simp) fun g7 hE7 e7=>?_
 replace e7:Heap.SameBut e g6 g7:=e7
 replace hE7:IsEnumOut g7 e it ((i:Int) + 1) x hp.objs.size:=hE7
 have up:∀ b o,b ≠ e->g4.get? b=some o->g7.get? b=some o:=fun b o hb z=>e7.extBut b o hb (e6.extBut b o hb (e5.extBut b o hb z))
 refine jQ (wpAny_letGo (jV ⟨_,rfl,jV (hQ g7 hE7 ?_ ?_ ?_)⟩))
 ·exact dr.keep _ _ _ hI4 fun q z=>up _ _ hne.symm z
 ·exact up _ _ (Nat.ne_of_gt hel) hT4
 ·exact fun b o hbe hbi hb=>up b o hbe (hk4 b o hbe hbi hb)
theorem Qdm {Q:Option Value->Shared->Prop} (hh:A.handled=none) (dr:Drw P w it l st src) (hE:IsEnum s.heap e it i old) (hI:st i s.heap) (hl:src xs s.heap) (hx:xs[i]?=none)
  (hQ:∀ h',Heap.ExtBut it s.heap h'->Q none { s with heap:=h' }):wpAny (model P w) A (pyNext (.ref e)) Q E s:=by
 have hTy:s.TypeIs (.ref e) "enumerate":=⟨_,hE,rfl⟩
 unfold pyNext
 refine jQ (wpAny_attempt (wpAny_callSpecial?_slot (name:=Str.ofString "__next__") hTy F.slot_enumerate_next (wpAny_call_entry F.slot_enumerate_next hTy F.entry_enumerate_next ?_ (F.args_enumerate_next_1 _))))
 show wpAny _ _ (field (.ref e) 2 >>= _) _ _ _
 refine jQ (wpAny_field hE rfl (x:=.ref it) rfl ?_)
 refine jQ (dr.done _ _ s i xs _ hh hI hl hx fun h' x eb hx'=>?_)
 obtain ⟨o,ho,hc⟩:=hx'
 refine jQ (wpAny_isInstance (T:="StopIteration") (b:=true) ⟨o,ho,hc⟩ isSubtype_stop (jV (hQ _ eb)))
end
theorem Qig {n:String} {l:Addr} {p:Heap->Prop} (I:Itr0 n l p) :
  Meets (Builtin.«enumerate.__new__» ⟨[.type "enumerate",.ref l],[]⟩) (fun _ R s=>p s.heap/\R (.ok (.ret (.ref (s.heap.push (Kb n l)).objs.size))) { s with heap:=(s.heap.push (Kb n l)).push { cls:=.type "enumerate",data:=.fields #[.none,.bool false,.ref s.heap.objs.size,rawInt 0,.none,.none] } }) :=
 .of_wp fun prog w A R s h=>by
  obtain ⟨hp,g,d,tk,os⟩:=s
  obtain ⟨q,h⟩:=h
  have hsub:=sub_enumerate
  have f1:=fun (A:Around) (E:Value->Shared->Prop) (Q:Value->Shared->Prop)=>I.go prog w A E ⟨hp,g,d,tk,os⟩ Q q
  wp_walk
  refine wpAny_stack_any fun stk=>jV ?_
  split
  ·rename_i c _ _ _ _ _
   cases (c == Value.type "enumerate")
   ·wp_walk using f1 _ _ _
    exact ⟨_,rfl,h⟩
   ·wp_walk using f1 _ _ _
    exact ⟨_,rfl,h⟩
  ·wp_walk using f1 _ _ _
   exact ⟨_,rfl,h⟩
def Ite (K:Fg) (m:Bool) (a:Addr):It :=
  ⟨fun i H=>∃ xs x,Sq K m H a xs/\xs[i]?=some x,
   fun i H v H'=>∃ T x,v=.ref T/\H T=none/\H'=upd H T (.tup [.int (i:Nat),x])/\(∀ xs,Sq K m H a xs->xs[i]?=some x),
   fun i H=>∃ xs,Sq K m H a xs/\xs.length<=i⟩
def eTn (m:Bool) (e it a:Addr) (i:Nat) (h:Heap):Prop:=(∃ old,IsEnum h e it i old)/\itSt m it a i h
theorem Qke {P:Program} {w:World} {K:Fg} {es:List Expr} {kk:Nat} {tp:Pos} {m:Bool} {e it a:Addr} (hne:e ≠ it) (hea:a ≠ e) (hia:a ≠ it) :
  Turn P w K (.Tuple es kk tp) (Ite K m a) [e,it] e (eTn m e it a) where
 mem:=by simp
 obj:=fun i h st c hc=>by
  obtain ⟨⟨old,h1⟩,h2⟩:=st
  simp only [yX,wZ,or_false] at hc
  rcases hc with rfl | rfl
  ·exact ⟨_,h1,fun v z=>by cases z⟩
  ·exact (Yu (P:=P) (w:=w) m c a).obj i h h2
 keep:=fun i h h' st k=>by
  obtain ⟨⟨old,h1⟩,h2⟩:=st
  exact ⟨⟨old,k e (by simp) _ h1⟩,(Yu (P:=P) (w:=w) m it a).keep i h h' h2 (k it (by simp))⟩
 item:=by
  intro X hP hw hK hc i pins s σ H E I hf st hg
  subst hP hw hK
  obtain ⟨xs,x,q1,hx⟩:=hg
  obtain ⟨is1,r1,p1,z1⟩:=I.sq q1
  obtain ⟨v1,e1,rv1⟩:=r1.get hx
  obtain ⟨⟨old,hE⟩,s1⟩:=st
  refine Qbt (Yu m it a) hE s1 p1 e1 hne fun h' a1 a2 a3 a4=>⟨_,rfl,?_⟩
  have kk:∀ c q,c ∉ [e,it]->s.heap.get? c=some q->h'.get? c=some q:=fun c q hc e=>by
   simp only [yX,wZ,or_false,not_or] at hc
   exact a4 c q hc.1 hc.2 e
  have I1:Inv X pins σ (upd H s.heap.objs.size (.tup [.int (i:Nat),x])) { s with heap:=h' }:=I.tupNew (ch:=[e,it]) (its:=[.int i s.toks,v1]) (jK _) (.cons ⟨_,rfl⟩ (.cons rv1 .nil)) (by show 2<=sizeLine;decide) a3 hf kk (fun c hc=>by
   simp only [yX,wZ,or_false] at hc
   rcases hc with rfl | rfl
   ·exact ⟨_,a1⟩
   ·obtain ⟨q,z,_⟩:=(Yu (P:=X.prog) (w:=X.w) m c a).obj _ _ a2;exact ⟨q,z⟩)
  refine wpAny_letOwnedTupleGo_enum (s:={ s with heap:=h',toks:=s.toks + 1 }) a1 fun h2 g1 g2=>?_
  obtain ⟨f0,f1,f2,f3,f4,f5⟩:=hf e (by simp)
  have lte:e < s.heap.objs.size:=zX hE
  have I2:Inv X pins σ (upd H s.heap.objs.size (.tup [.int (i:Nat),x])) { s with heap:=h2,toks:=s.toks + 1 }:=I1.turned (h':=h2) (t':=s.toks + 1) (fun c q hc z=>g2.extBut c q hc z) (by rw [Qi (xY lte)];exact f0) f1 f3 f4 f5
  refine ⟨.ref s.heap.objs.size,_,I2,rfl,⟨_,x,rfl,I.hok.fresh (jK _),rfl,fun xs' hq=>by rw [I.sq_inj hq q1];exact hx⟩,⟨⟨_,by exact_mod_cast g1⟩,(Yu (P:=X.prog) (w:=X.w) m it a).keep _ _ _ a2 fun q z=>g2.extBut _ _ hne.symm z⟩,fun c hc=>?_⟩
  have hlt:c ≠ s.heap.objs.size:=by
   simp only [yX,wZ,or_false] at hc
   rcases hc with rfl | rfl
   ·exact xY lte
   ·obtain ⟨q,z,_⟩:=(Yu (P:=X.prog) (w:=X.w) m c a).obj _ _ s1;exact xY (zX z)
  rw [Qi hlt]
  exact (hf c hc).1
 done:=by
  intro X hP hw hK hc i pins s σ H E I hf st hg
  subst hP hw hK
  obtain ⟨xs,q1,hx⟩:=hg
  obtain ⟨is1,r1,p1,z1⟩:=I.sq q1
  obtain ⟨⟨old,hE⟩,s1⟩:=st
  have l1:=r1.length
  obtain ⟨f0,f1,f2,f3,f4,f5⟩:=hf it (by simp)
  exact Qdm (I.ok.hd hc) (Yu m it a) hE s1 p1 (jKd.mpr (by omega)) fun h' eb=>⟨rfl,I.turned (t':=s.toks) (fun b o hb z=>eb b o hb z) f0 f1 f3 f4 f5⟩
 self:=fun _ _ _ _ _ st h=>by
  obtain ⟨⟨old,h1⟩,_⟩:=st
  exact wpAny_pyIter_enum h1 h
section
variable {X:Cx}
def iEnum (K:Fg) (m:Bool) (ta:TA):TI:=fun σ H R=>ta σ H fun vs H1=>∃ a,vs=[.ref a]/\(∃ xs,Sq K m H1 a xs)/\R (Ite K m a) H1
theorem Ww {a:Expr} {ta:TA} {p pos tp:Pos} {es:List Expr} {kk:Nat} (m:Bool) (hg:Gl X "enumerate") (hm:X.mg "enumerate"=none) (ha:PA X [a] ta) (hs:autoParam (starEach [a] X.env=[(false,eval a X.env)]) L2.aRfl._auto_1) :
  PI X (.Tuple es kk tp) (.Call (.Name "enumerate" p) [a] [] pos) (iEnum X.K m ta):=by
 intro pins s σ H R I h
 refine Call_ (Wd I hg hm Qdi (PyProof.Rows.callWith_type1 (thn (ha pos pins s σ H _ I h) fun us s1 hqP=>?_) hs rfl))
 obtain ⟨vs,H1,I1,r1,q1⟩:=hqP
 obtain ⟨l1,e,⟨xs,q1⟩,q⟩:=q1
 subst e
 obtain ⟨u1,rfl,e1⟩:=r1.one
 cases e1
 obtain ⟨is1,r1,p1,z1⟩:=I1.sq q1
 refine callType_new F.called_enumerate (by decide) (F.typeCall_enumerate_1 _) (F.newCall_enumerate_1 _) (fun obj=>F.args_object_init_2 obj _) F.entry_enumerate_new (Qig (Qex m l1 is1)) ⟨p1,?_⟩
 have z2:(s1.heap.push (Kb (itN m) l1)).objs.size=s1.heap.objs.size + 1:=jZd ..
 have g2:((s1.heap.push (Kb (itN m) l1)).push { cls:=.type "enumerate",data:=.fields #[.none,.bool false,.ref s1.heap.objs.size,rawInt 0,.none,.none] }).get? (s1.heap.push (Kb (itN m) l1)).objs.size=some { cls:=.type "enumerate",data:=.fields #[.none,.bool false,.ref s1.heap.objs.size,rawInt 0,.none,.none] }:=yK _ rfl
 have g1:((s1.heap.push (Kb (itN m) l1)).push { cls:=.type "enumerate",data:=.fields #[.none,.bool false,.ref s1.heap.objs.size,rawInt 0,.none,.none] }).get? s1.heap.objs.size=some (Kb (itN m) l1):=jW _ (yK _ rfl)
 rw [z2] at g2
 show _/\_
 rw [z2]
 have kp:∀ b o,s1.heap.get? b=some o->((s1.heap.push (Kb (itN m) l1)).push { cls:=.type "enumerate",data:=.fields #[.none,.bool false,.ref s1.heap.objs.size,rawInt 0,.none,.none] }).get? b=some o:=fun b o z=>jW _ (jW _ z)
 generalize (s1.heap.push (Kb (itN m) l1)).push { cls:=.type "enumerate",data:=.fields #[.none,.bool false,.ref s1.heap.objs.size,rawInt 0,.none,.none] }=h' at g1 g2 kp
 have I2:Inv X pins σ H1 { s1 with heap:=h' }:=I1.kept (t':=s1.toks) kp
 have ltl:l1 < s1.heap.objs.size:=Qbm p1
 refine ⟨⟨_,g2,rfl⟩,wpAny_pyIter_enum (s:={ s1 with heap:=h' }) g2 ⟨_,[s1.heap.objs.size + 1,s1.heap.objs.size],_,_,H1,rfl,I2,Qke (m:=m) (a:=l1) (Nat.succ_ne_self _) (xY (Nat.lt_succ_of_lt ltl)) (xY ltl),⟨⟨_,g2⟩,Qbl m g1⟩,fun c hc=>?_,q⟩⟩
 have hle:s1.heap.objs.size<=c:=by
  simp only [yX,wZ,or_false] at hc
  rcases hc with rfl | rfl
  ·exact kXb _ _
  ·exact jK _
 exact I1.fpOk hle (I1.hok.fresh hle)
end
theorem Ks {K:Fg} {m:Bool} {a:Addr} {xs:List V} {g:TG} {tb:TS} {D:Ends} {σ:St} {H:Hp} (Pv:Nat->St->Hp->Prop) (h0:Pv 0 σ H) (hl:∀ i σ H,i<=xs.length->Pv i σ H->Sq K m H a xs)
  (hs:∀ i x σ H T,xs[i]?=some x->Pv i σ H->H T=none->g (.ref T) σ (upd H T (.tup [.int (i:Nat),x])) fun σ2 H2=>tb { D with nx:=Pv (i + 1),ct:=Pv (i + 1),bk:=D.nx } σ2 H2) (hd:∀ σ H,Pv xs.length σ H->D.nx σ H) :
  ∃ W:Nat->Nat->St->Hp->Prop,(∃ m,W 0 m σ H)/\∀ i n σ H,W i n σ H ->
   ((Ite K m a).stop i H/\D.nx σ H)\/((Ite K m a).go i H/\∃ N:St->Hp->Prop,(∀ σ' H',N σ' H'->∃ m',m' < n/\W (i + 1) m' σ' H')/\∀ x H',(Ite K m a).yld i H x H'->g x σ H' fun σ2 H2=>tb { D with nx:=N,ct:=N,bk:=D.nx } σ2 H2):=by
 refine ⟨fun i n σ H=>n=xs.length - i/\i<=xs.length/\Pv i σ H,⟨_,rfl,jXe _,h0⟩,?_⟩
 rintro i n σ H ⟨rfl,hi,p⟩
 have q1:=hl i σ H hi p
 by_cases hlt:i < xs.length
 ·refine .inr ⟨⟨xs,xs[i],q1,by simp [hlt]⟩,Pv (i + 1),fun σ' H' p'=>⟨xs.length - (i + 1),by omega,rfl,hlt,p'⟩,fun x H' y=>?_⟩
  obtain ⟨T,u,rfl,hT,rfl,y1⟩:=y
  exact hs i u σ H T (y1 xs q1) p hT
 ·have e:i=xs.length:=by omega
  subst e
  exact .inl ⟨⟨xs,q1,jK _⟩,hd σ H p⟩
def gTrip (K:Fg) (i j l:Nat):TG:=gTup K 3 (Qhs (Vu i) (Qhs (Vu j) (Qhs (Vu l) gNil)))
theorem Qbu {X:Cx} {K:Fg} {i j l:Nat} {x y z:Str} {px py pz pos:Pos} {k:Nat} (hK:X.K=K) (hc:X.calm=true) (hN:X.N.Nodup) (hi:X.N[i]?=some x) (hj:X.N[j]?=some y) (hl:X.N[l]?=some z) (hx:X.env.scope.names.lookup x=some .local) (hy:X.env.scope.names.lookup y=some .local) (hz:X.env.scope.names.lookup z=some .local) :
  PG X (.Tuple [.Name x px,.Name y py,.Name z pz] k pos) (gTrip K i j l):=by
 subst hK
 exact Wg hc (Xt (Ql hN hi (.inl hx) (.inr hx)) (Xt (Ql hN hj (.inl hy) (.inr hy)) (Xt (Ql hN hl (.inl hz) (.inr hz)) Ke)))
end L2
namespace L2
open PySem PySem.Spec PyProof.Rows PySem.SeqAt
theorem Qr {α β:Type} {R:α->β->Prop} {xs:List α} {ys:List β} (h:Paired R xs ys):∀ {i:Nat} {x:α},xs[i]?=some x->∃ y,ys[i]?=some y/\R x y:=by
 induction h with
 | nil=>intro i x e;exact nomatch e
 | cons z _ ih =>
  intro i x e
  match i with
  | 0=>cases e;exact ⟨_,rfl,z⟩
  | i + 1=>exact ih (show _=some x from e)
theorem Qbv (k:Key):Ka (kV k)=true:=by cases k <;> rfl
theorem Qkf (a b:Key):eqV (kV a) (kV b)=true ↔ a=b:=by
 cases a with
 | inl i =>
  cases b with
  | inl j=>show (i == j)=true ↔ _;rw [beq_iff_eq];exact ⟨fun z=>(by rw [z]),fun z=>(by cases z;rfl)⟩
  | inr y=>exact ⟨fun z=>(nomatch z),fun z=>(nomatch z)⟩
 | inr x =>
  cases b with
  | inl j=>exact ⟨fun z=>(nomatch z),fun z=>(nomatch z)⟩
  | inr y=>show (x == y)=true ↔ _;rw [beq_iff_eq];exact ⟨fun z=>(by rw [z]),fun z=>(by cases z;rfl)⟩
def RowsL (H:Hp):List V->List (List Key)->Prop:=Paired fun v r=>∃ l,v=.ref l/\H l=some (.lst (r.map kV))
def PlanAt (K:Fg) (H:Hp) (d:Addr) (pl:List (Str × Str × Int)):Prop:=∃ kvs:List (Key × V),H d=some (.dK kvs)/\Paired (fun (p:Key × V) (q:Str × Str × Int)=>p.1=Sum.inr q.1/\∃ t,p.2=.ref t/\SqT K H t [.str q.2.1,.int q.2.2]) kvs pl
section
variable {X:Cx} {pins:List (Addr × Obj)} {σ:St} {H:Hp} {s:Shared}
theorem Qfd {A:Around} {ks ls:List Key} {its its':List Value} (r:Vals (ks.map kV) its) (r':Vals (ls.map kV) its') :
  ∀ j (h1:j < its.toArray.size) (h2:j < its'.toArray.size),EqAt A s its.toArray[j] its'.toArray[j] (decide (ks[j]?=ls[j]?)):=fun j h1 h2=>by
 have l1:=r.length
 have l2:=r'.length
 rw [jX] at l1 l2
 rw [kY] at h1 h2
 have j1:j < ks.length:=by omega
 have j2:j < ls.length:=by omega
 obtain ⟨u1,e1,ru1⟩:=r.get (i:=j) (x:=kV ks[j]) (by rw [yY,gE j1];rfl)
 obtain ⟨u2,e2,ru2⟩:=r'.get (i:=j) (x:=kV ls[j]) (by rw [yY,gE j2];rfl)
 have z1:its.toArray[j]=u1:=by rw [gE (by omega)] at e1;simpa using e1
 have z2:its'.toArray[j]=u2:=by rw [gE (by omega)] at e2;simpa using e2
 rw [z1,z2]
 have e:decide (ks[j]?=ls[j]?)=eqV (kV ks[j]) (kV ls[j]):=by
  rw [jZa,decide_eq_true_iff,Qkf,gE j1,gE j2]
  exact ⟨fun z=>Option.some.inj z,fun z=>congrArg some z⟩
 rw [e]
 exact Qjk ru1 ru2 (Qbv _) (Qbv _)
theorem Qkg {A:Around} {a b:Addr} {ks ls:List Key} (hu:A.units < cLine) (I:Inv X pins σ H s) (h1:SqL X.K H a (ks.map kV)) (h2:SqL X.K H b (ls.map kV)) :
  ∃ c:Bool,(c=true ↔ ks=ls)/\EqAt A s (.ref a) (.ref b) c/\RcAt A s (.ref a) (.ref b) c/\RcNeAt A s (.ref a) (.ref b) (!c):=by
 obtain ⟨its,r,pt,_⟩:=I.list h1
 obtain ⟨its',r',pt',_⟩:=I.list h2
 have l1:=r.length
 have l2:=r'.length
 rw [jX] at l1 l2
 have key:=Qfd (A:=A.in1) (s:=s) r r'
 have inj:a=b->ks=ls:=fun z=>by
  subst z
  have:=I.list_inj h1 h2
  refine Qey (by rw [← jX (f:=kV),this,jX]) fun i x y ex ey=>?_
  have e5:(ks.map kV)[i]?=(ls.map kV)[i]?:=by rw [this]
  rw [yY,yY,ex,ey] at e5
  have e6:kV x=kV y:=Option.some.inj e5
  exact (Qkf x y).mp (by
   rw [e6]
   exact (Qkf y y).mpr rfl)
 by_cases hsz:its.toArray.size=its'.toArray.size
 ·have hb:((List.range its.toArray.size).all (fun j=>decide (ks[j]?=ls[j]?)))=true ↔ ks=ls:=by
   rw [kY,kY] at hsz
   rw [Kp,kY]
   constructor
   ·intro z1
    refine Qey (by omega) fun i x y ex ey=>?_
    have hi:=(kK.mp ex).1
    have:=jJ (z1 i (by omega))
    rw [ex,ey] at this
    exact Option.some.inj this
   ·intro z
    subst z
    exact fun i _=>kQ rfl
  refine ⟨_,hb,?_,RcAt.lists pt.isList pt'.isList hsz hu key,RcNeAt.lists pt.isList pt'.isList hsz hu key⟩
  by_cases hpq:a=b
  ·rw [hb.mpr (inj hpq)]
   subst hpq
   exact EqAt.same _
  ·exact EqAt.of_refs hpq (RcAt.lists pt.isList pt'.isList hsz hu key)
 ·have hne:(its.toArray.size != its'.toArray.size)=true:=by simpa using hsz
  rw [kY,kY] at hsz
  have hb:false=true ↔ ks=ls:=⟨fun z=>(nomatch z),fun z=>(by subst z;omega)⟩
  refine ⟨false,hb,?_,RcAt.lists_lengths pt.isList pt'.isList hne hu,RcNeAt.lists_lengths pt.isList pt'.isList hne hu⟩
  by_cases hpq:a=b
  ·exact absurd (hb.mpr (inj hpq)) (by decide)
  ·exact EqAt.of_refs hpq (RcAt.lists_lengths pt.isList pt'.isList hne hu)
theorem op_eqK {K:Fg} {n:Nat} (hK:X.K=K) (hu:X.A.units + n < cLine):OpR X (compareOp .Eq) (fun x y H Q=>∃ (a b:Addr) (ks ls:List Key),x=.ref a/\y=.ref b/\SqL K H a (ks.map kV)/\SqL K H b (ls.map kV)/\∀ c:Bool,(c=true ↔ ks=ls)->Q (.bl c) H):=by
 subst hK
 intro pins s σ H x y v u Q I rx ry h
 obtain ⟨a,b,ks,ls,rfl,rfl,h1,h2,q⟩:=h
 cases rx
 cases ry
 obtain ⟨c,hc,_,hr,_⟩:=Qkg (A:=X.A) (by omega) I h1 h2
 exact hr _ _ _ _ ⟨.bl c,H,I,rfl,q c hc⟩
theorem nil_at {A:Around} {a b:Addr} {xs:List V} (hu:A.units < cLine) (I:Inv X pins σ H s) (h1:SqL X.K H a xs) (h2:SqL X.K H b []):RcAt A s (.ref a) (.ref b) xs.isEmpty/\RcNeAt A s (.ref a) (.ref b) (!xs.isEmpty):=by
 obtain ⟨its,r,pt,_⟩:=I.list h1
 obtain ⟨its',r',pt',_⟩:=I.list h2
 have l1:=r.length
 have l2:=r'.length
 cases xs with
 | nil =>
  have e1:its=[]:=kXd l1.symm
  have e2:its'=[]:=kXd l2.symm
  subst e1 e2
  have key:∀ j (h1:j < ([]:List Value).toArray.size) (h2:j < ([]:List Value).toArray.size),EqAt A.in1 s ([]:List Value).toArray[j] ([]:List Value).toArray[j] ((fun _=>true) j):=fun j h1 _=>absurd h1 (by simp)
  exact ⟨RcAt.lists pt.isList pt'.isList rfl hu key,RcNeAt.lists pt.isList pt'.isList rfl hu key⟩
 | cons x xs =>
  have hne:(its.toArray.size != its'.toArray.size)=true:=by
   rw [kY,kY,← l1,← l2]
   simp
  exact ⟨RcAt.lists_lengths pt.isList pt'.isList hne hu,RcNeAt.lists_lengths pt.isList pt'.isList hne hu⟩
theorem Qmv {K:Fg} {n:Nat} (hK:X.K=K) (hu:X.A.units + n < cLine):OpR X (compareOp .NotEq) (fun x y H Q=>∃ (a b:Addr) (xs:List V),x=.ref a/\y=.ref b/\SqL K H a xs/\SqL K H b []/\Q (.bl (!xs.isEmpty)) H):=by
 subst hK
 intro pins s σ H x y v u Q I rx ry h
 obtain ⟨a,b,xs,rfl,rfl,h1,h2,q⟩:=h
 cases rx
 cases ry
 exact (nil_at (A:=X.A) (by omega) I h1 h2).2 _ _ _ _ ⟨.bl _,H,I,rfl,q⟩
theorem Qkh {A:Around} {a b:Addr} {ks:List Key} (hu:A.units < cLine) (I:Inv X pins σ H s) (h1:SqT X.K H a (ks.map kV)) (h2:SqT X.K H b (ks.map kV)):EqAt A s (.ref a) (.ref b) true:=by
 by_cases hpq:a=b
 ·subst hpq
  exact EqAt.same _
 obtain ⟨its,r,pt,_⟩:=I.tuple h1
 obtain ⟨its',r',pt',_⟩:=I.tuple h2
 have l1:=r.length
 have l2:=r'.length
 have key:=Qfd (A:=A.in1) (s:=s) r r'
 have:=RcAt.tuples pt pt' hu key
 have e:((List.range (min its.toArray.size its'.toArray.size)).all (fun j=>decide (ks[j]?=ks[j]?)) && its.toArray.size == its'.toArray.size)=true:=by
  rw [wV,Kp,kY,kY,beq_iff_eq]
  exact ⟨fun i _=>kQ rfl,by omega⟩
 rw [e] at this
 exact EqAt.of_refs hpq this
theorem Qdn {κ:Type} [DecidableEq κ]:∀ {kvs:List (κ × V)} {i:Nat} {k:κ} {v:V},(kvs.map (·.1)).Nodup->kvs[i]?=some (k,v)->valV kvs k=some v
 | [],i,k,v,_,e=>nomatch e
 | p :: r,0,k,v,_,e=>by
  cases e
  unfold valV
  rw [List.find?_cons_of_pos (by simp)]
  rfl
 | p :: r,i + 1,k,v,n,e=>by
  have n':(p.1 :: r.map (·.1)).Nodup:=n
  obtain ⟨n1,n2⟩:=jYc.mp n'
  have e':r[i]?=some (k,v):=e
  have ne:¬ p.1=k:=fun z=>n1 (by rw [z];exact xQ.mpr ⟨(k,v),kX e',rfl⟩)
  have:=Qdn n2 e'
  unfold valV at this ⊢
  rw [List.find?_cons_of_neg (by simpa using ne)]
  exact this
theorem Qki {kvs:List (Key × V)} {vs:List (Key × Value)} (h:KV kvs vs):kvs.map (·.1)=vs.map (·.1):=by
 induction h with
 | nil=>rfl
 | cons h _ ih=>rw [yQ,yQ,ih,h.1]
open PySem.MeetsSeq PySem.MeetsSeq2 PySem.MeetsSeq3 in
open AutoSeq1 (wpAny_loadPart') in
open PySem.MeetsSeq PySem.MeetsSeq2 PySem.MeetsSeq3 in
open AutoSeq1 (wpAny_loadPart') in
end
def Qkj (K:Fg) (H:Hp):List V->List (List Key × V)->Prop:=Paired fun v p=>∃ t b,v=.ref t/\SqT K H t [.ref b,p.2]/\H b=some (.tup (p.1.map kV))
def Xg (ps:List (List Key × V)):List (List Key × V):=ps.foldl (fun d p=>putK d p.1 p.2) []
theorem Zx {ps:List (List Key × V)} {i:Nat} {p:List Key × V} (h:ps[i]?=some p):Xg (ps.take (i + 1))=putK (Xg (ps.take i)) p.1 p.2:=by
 unfold Xg
 rw [List.take_add_one,h,List.foldl_append]
 rfl
theorem Wx (ps:List (List Key × V)):(Xg ps).length<=ps.length:=by
 have key:∀ (l:List (List Key × V)) (acc:List (List Key × V)),(l.foldl (fun d p=>putK d p.1 p.2) acc).length<=acc.length + l.length:=by
  intro l
  induction l with
  | nil=>intro acc;exact jK _
  | cons p t ih =>
   intro acc
   have h1:=ih (putK acc p.1 p.2)
   have h2:=Zg acc p.1 p.2
   rw [kYb,xW]
   omega
 have:=key ps []
 rwa [kZd,Nat.zero_add] at this
section
variable {X:Cx}
theorem Qkk {pins:List (Addr × Obj)} {σ:St} {H:Hp} {d it l:Addr} {vs:List V} {ps:List (List Key × V)} {A:Around} {R:Result->Shared->Prop} (hh:A.handled=none) (hu:A.units + 1 < cLine) (hd:H d=none) (hl:SqL X.K H l vs) (hp:Qkj X.K H vs ps) (hz:ps.length < sizeLine)
  (hR:∀ s',Inv X pins σ (upd H d (.dT (Xg ps))) s'->R (.ok (.ret .none)) s') :
  ∀ (k i:Nat) (s:Shared),ps.length - i=k->i<=ps.length->Inv X pins σ (upd H d (.dT (Xg (ps.take i)))) s->s.heap.IsListIter it l i->FpOk X pins (upd H d (.dT (Xg (ps.take i)))) it ->
   codeAny (model X.prog X.w) A (.builtin "dict.update.loop" ⟨[.ref d,.ref it,rawInt i,.none],[]⟩) R s:=by
 intro k
 induction k with
 | zero =>
  intro i s hk hi I st f
  have ei:i=ps.length:=by omega
  subst ei
  rw [kW] at I f
  have sm:Same H (upd H d (.dT (Xg ps))):=Qc hd _
  obtain ⟨its,r,p,_⟩:=I.list (sm.seq hl)
  have lv:=Paired.length hp
  have lr:=r.length
  refine codeAny_builtin Kr ?_
  rw [Around.under_plainId Zl _]
  show wpAny _ A.in1 (pyNext (.ref it) >>= _) _ _ s
  refine jQ (wpAny_pyNext_list_end (A:=A.in1) hh st p.isList (by simp;omega) fun h' eb=>?_)
  refine jQ (jV (jV ?_))
  exact hR _ (I.turned (t':=s.toks) (fun b o hb e=>eb b o hb e) f.1 f.2.1 f.2.2.2.1 f.2.2.2.2.1 f.2.2.2.2.2)
 | succ k ih =>
  intro i s hk hi I st f
  have sm:Same H (upd H d (.dT (Xg (ps.take i)))):=Qc hd _
  obtain ⟨its,r,p,_⟩:=I.list (sm.seq hl)
  have lv:=Paired.length hp
  have hlt:i < vs.length:=by omega
  obtain ⟨pr,ep,t,b,ev,hT,hb⟩:=Qr hp (gE hlt)
  obtain ⟨u,hu',ru⟩:=r.get (gE hlt)
  rw [ev] at ru
  cases ru
  refine codeAny_builtin Kr ?_
  rw [Around.under_plainId Zl _]
  show wpAny _ A.in1 (pyNext (.ref it) >>= _) _ _ s
  refine jQ (wpAny_pyNext_list_item st p.isList (x:=.ref t) (by simpa using hu') fun h' st' sb=>?_)
  have I1:Inv X pins σ (upd H d (.dT (Xg (ps.take i)))) { s with heap:=h' }:=I.turned (t':=s.toks) (fun b o hb e=>(sb.2 b hb).trans e) f.1 f.2.1 f.2.2.2.1 f.2.2.2.2.1 f.2.2.2.2.2
  obtain ⟨its2,r2,⟨ot,gt,ct,nt,dt⟩,_⟩:=I1.tuple (sm.tup hT)
  obtain ⟨u1,u2,rfl,ru1,ru2⟩:=r2.two
  cases ru1
  refine jQ (wpAny_holding ?_)
  refine jQ (wpAny_tryCatch ?_)
  unfold Builtin.Dict.pairItems
  refine jQ (wpAny_typeOf (T:="tuple") ⟨ot,gt,ct⟩ ?_)
  rw [if_pos (by simp)]
  refine jQ (wpAny_seqItems gt dt (jV ?_))
  show wpAny _ _ (holding [Value.ref b,u2] (dictSet d (Value.ref b) u2)) _ _ _
  obtain ⟨z,hdS,xs,rel,dd⟩:=Qqc I1.hok (upd_same (H:=H) (a:=d) (o:=.dT (Xg (ps.take i))))
  have l1:=Wx (ps.take i)
  rw [zK] at l1
  have hz2:xs.length<=sizeLine:=by rw [← Paired.length rel];exact z
  have eb:=sm _ _ hb
  refine wpAny_holding (wpAny_dictSet_heap (hsz:=hz2) (knd:=tupleKind (Xl X.prog X.w)) (k:=pr.1) (by first | exact hu | exact Nat.lt_of_succ_lt hu | (show A.units + 1 < cLine;exact hu)) (Wv I1.hok eb) dd fun h2 dd' hs2=>?_)
  obtain ⟨q,es,ep5,hq,q2,q3,q4,_,q5⟩:=dd'
  have l2:=Zg (Xg (ps.take i)) pr.1 pr.2
  have I2:Inv X pins σ (upd (upd H d (.dT (Xg (ps.take i)))) d (.dT (putK (Xg (ps.take i)) pr.1 pr.2))) { s with heap:=h2,toks:=s.toks + (tupleKind (Xl X.prog X.w)).draws pr.1 } :=
   Ki (s:={ s with heap:=h' }) I1 (by rw [upd_same];exact True.intro) hs2 ⟨q,hq⟩ ⟨by omega,hdS,_,(rel.put pr.1 eb ru2).keeps fun c ys ec=>(by
    rw [Qi (Yp ec (upd_same (H:=H) (a:=d) (o:=.dT (Xg (ps.take i)))) (fun z=>nomatch z))]
    exact ec),q,es,ep5,hq,q2,q3,q4,q5⟩
  rw [Qeq,← Zx ep] at I2
  have nit:it ≠ d:=fun e=>by have:=f.1;rw [e,upd_same] at this;cases this
  refine jV ⟨plainId_quiet Zl _,?_⟩
  have ei:rawInt ((i:Int) + 1)=rawInt ((i + 1:Nat):Int):=by push_cast;rfl
  rw [ei]
  refine ih (i + 1) _ (by omega) (by omega) I2 (st'.at fun o e=>hs2.extBut _ _ nit e) ⟨?_,f.2⟩
  have:=f.1
  rw [Qi nit] at this ⊢
  exact this
theorem Qbw {n:Nat} (hn:2<=n) (hu:X.A.units + n < cLine) (hc:X.calm=true):Jg X (.type "dict") (fun xs H Q=>∃ (l:Addr) (vs:List V) (ps:List (List Key × V)),xs=[.ref l]/\SqL X.K H l vs/\Qkj X.K H vs ps/\ps.length < sizeLine/\∀ d,H d=none->Q (.ref d) (upd H d (.dT (Xg ps)))):=by
 intro pins s σ H xs us Q I rv h
 obtain ⟨l,vs,ps,rfl,hl,hp,hz,q⟩:=h
 obtain ⟨u,rfl,ru⟩:=rv.one
 cases ru
 refine callType_codes (Q₁:=fun obj s1=>obj=.ref s.heap.objs.size/\s1={ s with heap:=s.heap.push { cls:=.type "dict",data:=.dict #[] } }) F.kt_called_dict (F.kt_typeCall_dict_1 _) F.entry_dict_init (kt_code_dict_new _ ⟨rfl,rfl⟩) ?_
 rintro obj s1 ⟨rfl,rfl⟩
 have hd:H s.heap.objs.size=none:=I.hok.fresh (jK _)
 have I1:Inv X pins σ (upd H s.heap.objs.size (.dT [])) { s with heap:=s.heap.push { cls:=.type "dict",data:=.dict #[] } }:=I.laid (t':=s.toks) (fun _ _ q=>jW _ q) (jK _) (Qms s.heap I.big)
 have sm:Same H (upd H s.heap.objs.size (.dT [])):=Qc hd _
 obtain ⟨z,hdS,kv,rel,dd⟩:=Qqc I1.hok (upd_same (H:=H) (a:=s.heap.objs.size) (o:=.dT []))
 refine ⟨dd.typeIs,F.args_dict_init_2 _ _,?_⟩
 unfold Builtin.«dict.__init__»
 refine jQ ?_
 unfold Builtin.Dict.selfAndRest
 refine jQ (wpAny_notOrdered_dict dd.typeIs ?_)
 show wpAny _ _ (pure (s.heap.objs.size,[Value.ref l])) _ _ _
 refine jV ?_
 show wpAny _ _ (Builtin.Dict.updateFrom "dict.__init__" s.heap.objs.size (.ref l) [] .none) _ _ _
 unfold Builtin.Dict.updateFrom
 obtain ⟨its,r,⟨o,n5,e,c,dn,sl⟩,_⟩:=I1.list (sm.seq hl)
 obtain ⟨cls,dct,dat,sls⟩:=o
 simp only at c dn sl
 subst c dn sl
 refine jQ (wpAny_typeOf (T:="list") ⟨_,e,rfl⟩ ?_)
 rw [if_pos (by decide)]
 refine jQ (Kq (s:={ s with heap:=s.heap.push { cls:=.type "dict",data:=.dict #[] } }) e (by exact I.ok.hd hc) fun h2 tk2 hk2=>?_)
 have I2:Inv X pins σ (upd H s.heap.objs.size (.dT [])) { s with heap:=h2,toks:=tk2 }:=I1.kept hk2
 rw [if_pos (by rfl)]
 refine jQ (wpAny_rule (jQ ?_))
 obtain ⟨its2,r2,p2,_⟩:=I2.list (sm.seq hl)
 refine wpAny_pyIter_list (s:={ s with heap:=h2,toks:=tk2 }) p2.isList ?_
 refine jV ⟨plainId_quiet Zl _,?_⟩
 have I3:Inv X pins σ (upd H s.heap.objs.size (.dT [])) { s with heap:=h2.push { cls:=.type "list_iterator",data:=.fields #[.ref l,.int 0 0] },toks:=tk2 }:=I2.kept (t':=tk2) fun b o e=>jW _ e
 have hfr:=I2.hok.fresh (a:=h2.objs.size) (jK _)
 refine Qkk (X:=X) (pins:=pins) (σ:=σ) (H:=H) (vs:=vs) (ps:=ps) (A:=X.A.in1) (by exact I.ok.hd hc) (by show X.A.units + 1 + 1 < cLine;omega) hd hl hp hz (fun s' I'=>⟨rfl,.ref s.heap.objs.size,_,I',rfl,q _ hd⟩) ps.length 0 _ (by omega) (jXe _) I3 ⟨_,yK _ rfl,rfl,rfl⟩ (I2.fpOk (jK _) hfr)
theorem Qih:Jg X (.type "dict") (fun xs H Q=>∃ (a:Addr) (kvs:List (Key × V)),xs=[.ref a]/\H a=some (.dK kvs)/\kvs.length < sizeLine/\∀ d,H d=none->Q (.ref d) (upd H d (.dK kvs))):=by
 intro pins s σ H xs us Q I rv h
 obtain ⟨a,kvs,rfl,ha,hz,q⟩:=h
 obtain ⟨u,rfl,ru⟩:=rv.one
 cases ru
 refine callType_codes (Q₁:=fun obj s1=>obj=.ref s.heap.objs.size/\s1={ s with heap:=s.heap.push { cls:=.type "dict",data:=.dict #[] } }) F.kt_called_dict (F.kt_typeCall_dict_1 _) F.entry_dict_init (kt_code_dict_new _ ⟨rfl,rfl⟩) ?_
 rintro obj s1 ⟨rfl,rfl⟩
 have hd:H s.heap.objs.size=none:=I.hok.fresh (jK _)
 have I1:Inv X pins σ (upd H s.heap.objs.size (.dK [])) { s with heap:=s.heap.push { cls:=.type "dict",data:=.dict #[] } }:=I.laid (t':=s.toks) (fun _ _ q=>jW _ q) (jK _) (Qbs s.heap I.big)
 have na:s.heap.objs.size ≠ a:=fun z=>by rw [z,ha] at hd;cases hd
 obtain ⟨z,hdS,kv,rel,dd⟩:=Qan I1.hok (upd_same (H:=H) (a:=s.heap.objs.size) (o:=.dK []))
 cases rel
 obtain ⟨z2,hdA,kv2,rel2,dd2⟩:=Qan I1.hok (Qc hd (.dK []) a _ ha)
 refine ⟨dd.typeIs,F.args_dict_init_2 _ _,?_⟩
 unfold Builtin.«dict.__init__»
 refine jQ ?_
 unfold Builtin.Dict.selfAndRest
 refine jQ (wpAny_notOrdered_dict dd.typeIs ?_)
 show wpAny _ _ (pure (s.heap.objs.size,[Value.ref a])) _ _ _
 refine jV ?_
 show wpAny _ _ (Builtin.Dict.updateFrom "dict.__init__" s.heap.objs.size (.ref a) [] .none) _ _ _
 unfold Builtin.Dict.updateFrom
 refine jQ (wpAny_typeOf dd2.typeIs ?_)
 rw [if_neg (by decide)]
 refine jQ ?_
 unfold Builtin.Dict.merge
 refine jQ ?_
 unfold Builtin.Dict.readDirectly
 refine jQ (wpAny_isInstance dd2.typeIs PySem.F.sub_dict_dict ?_)
 simp only [Bool.not_true,kQb,if_false]
 refine jQ (wpAny_specialOf dd2.typeIs F.slot_dict_iter.lookup (jV ?_))
 simp only [beq_self_eq_true,if_true]
 refine jQ (jV ?_)
 have lz:=rel2.length
 refine wpAny_mergeDict (hsz:=by rw [kZd];omega) na hdA dd dd2 fun h' hd' ho' hs'=>?_
 show wpAny _ _ (Builtin.Dict.addKeywords s.heap.objs.size [] >>= _) _ _ _
 have nd:(kv2.map (·.1)).Nodup:=by
  obtain ⟨_,_,_,_,_,_,_,_,n⟩:=id dd2
  exact n
 rw [merged_nil_of_nodup _ nd] at hd'
 have I2:Inv X pins σ (upd (upd H s.heap.objs.size (.dK [])) s.heap.objs.size (.dK kvs)) { s with heap:=h' } :=
  Ki (s:={ s with heap:=s.heap.push { cls:=.type "dict",data:=.dict #[] } }) (t':=s.toks) I1 (by rw [upd_same];exact True.intro) hs' (let ⟨q,_,_,hq,_⟩:=hd';⟨q,hq⟩) (Qkc (by omega) hdS rel2 hd')
 rw [Qeq] at I2
 exact jQ (jV (jV ⟨rfl,.ref s.heap.objs.size,_,I2,rfl,q _ hd⟩))
end
end L2
namespace L2
open PySem PySem.Spec PyProof.Rows PySem.W
inductive IsT:String->Prop
 | int:IsT "int"
 | bool:IsT "bool"
 | tuple:IsT "tuple"
 | list:IsT "list"
 | str:IsT "str"
def isiW (K:Fg) (H:Hp):V->String->Bool->Prop
 | .non,_,b=>b=false
 | .int _,T,b=>b=decide (T="int")
 | .bl _,T,b=>b=decide (T="int"\/T="bool")
 | .str _,T,b=>b=decide (T="str")
 | .ref a,T,b=>((∃ xs,SqT K H a xs)/\b=decide (T="tuple"))\/((∃ xs,SqL K H a xs)/\b=decide (T="list"))
 | _,_,_=>False
theorem Jr {X:Cx}:Jg X (.builtin "isinstance") (fun xs H Q=>∃ x T b,xs=[x,.ty T]/\IsT T/\isiW X.K H x T b/\Q (.bl b) H):=by
 intro pins s σ H xs us Q I rv h
 obtain ⟨x,T,b,rfl,hT,hi,q⟩:=h
 obtain ⟨u,v,rfl,ru,rT⟩:=rv.two
 cases rT
 have fin:∀ (tk:Nat),EP X pins σ Q (.bool b) { s with toks:=tk }:=fun tk=>⟨.bl b,H,I.tok tk,rfl,q⟩
 cases x with
 | int n =>
  obtain ⟨t,rfl⟩:=ru
  cases hT <;> (subst hi)
  ·exact IsiPair.int_int (fin s.toks)
  ·exact IsiPair.int_bool (fin _)
  ·exact IsiPair.int_tuple (fin _)
  ·exact IsiPair.int_list (fin _)
  ·exact IsiPair.int_str (fin _)
 | bl n =>
  cases ru
  cases hT <;> (subst hi)
  ·exact IsiPair.bool_int (fin s.toks)
  ·exact IsiPair.bool_bool (fin s.toks)
  ·exact IsiPair.bool_tuple (fin _)
  ·exact IsiPair.bool_list (fin _)
  ·exact IsiPair.bool_str (fin _)
 | str n =>
  obtain ⟨t,rfl⟩:=ru
  cases hT <;> (subst hi)
  ·exact IsiPair.str_int (fin _)
  ·exact IsiPair.str_bool (fin _)
  ·exact IsiPair.str_tuple (fin _)
  ·exact IsiPair.str_list (fin _)
  ·exact IsiPair.str_str (fin s.toks)
 | non =>
  cases ru
  cases hT <;> (subst hi)
  ·exact IsiPair.NoneType_int (fin _)
  ·exact IsiPair.NoneType_bool (fin _)
  ·exact IsiPair.NoneType_tuple (fin _)
  ·exact IsiPair.NoneType_list (fin _)
  ·exact IsiPair.NoneType_str (fin _)
 | ref a =>
  cases ru
  rcases hi with ⟨⟨xs,hq⟩,hi⟩ | ⟨⟨xs,hq⟩,hi⟩
  ·obtain ⟨its,r,⟨o,e,c,_⟩,_⟩:=I.tuple hq
   cases hT <;> (subst hi)
   ·exact IsiPair.tuple_int e c (fin _)
   ·exact IsiPair.tuple_bool e c (fin _)
   ·exact IsiPair.tuple_tuple e c (fin s.toks)
   ·exact IsiPair.tuple_list e c (fin _)
   ·exact IsiPair.tuple_str e c (fin _)
  ·obtain ⟨its,r,pl,_⟩:=I.list hq
   obtain ⟨o,e,c,_⟩:=pl.isList
   cases hT <;> (subst hi)
   ·exact IsiPair.list_int e c (fin _)
   ·exact IsiPair.list_bool e c (fin _)
   ·exact IsiPair.list_tuple e c (fin _)
   ·exact IsiPair.list_list e c (fin s.toks)
   ·exact IsiPair.list_str e c (fin _)
 | byt _=>exact hi.elim
 | flt _=>exact hi.elim
 | ty _=>exact hi.elim
end L2
namespace L2
open PySem PySem.Spec PySem.Calls PyProof.Rows PySem.W
def Big (i:Int):Prop:=i.natAbs < 2 ^ 4000
section
variable {X:Cx}
theorem Qgi:OpR X (binaryOp .FloorDiv) (rI (fun _ j=>j ≠ 0/\Big j) fun i j=>.int (i.fdiv j)):=opI fun i j _ _ _ _ _ hc q=>floordiv_int hc.1 q (.inl (PyProof.noPylong_of_log2 (xK ((Nat.log2_lt (by have:=hc.1;omega)).mpr hc.2) (by decide))))
end
def rCatG (K:Fg):R2:=fun x y H Q=>∃ a b xs ys,x=.ref a/\y=.ref b/\SqT K H a xs/\SqT K H b ys/\ys ≠ []/\xs.length + ys.length<=sizeLine/\∀ (p:Addr) (H':Hp),Same H H'->SqT K H' p (xs ++ ys)->Q (.ref p) H'
theorem Qqf {X:Cx}:OpR X (binaryOp .Add) (rCatG X.K):=by
 intro pins s σ H x y v u Q I rx ry h
 obtain ⟨a,b,xs,ys,rfl,rfl,ha,hb,hy,hz,q⟩:=h
 by_cases hx:xs=[]
 ·subst hx
  cases rx
  cases ry
  obtain ⟨its,r1,p1,_⟩:=I.tuple ha
  obtain ⟨its2,r2,p2,_⟩:=I.tuple hb
  have e0:its=[]:=r1.nil_iff.mpr rfl
  subst e0
  obtain ⟨⟨c1,d1,da1,sl1⟩,ho,hc,n,hd⟩:=id p1
  obtain ⟨⟨c2,d2,da2,sl2⟩,ho2,hc2,n2,hd2⟩:=id p2
  simp only at hc hd hc2 hd2
  subst hc hd hc2 hd2
  exact concat_meets ⟨_,ho,rfl⟩ ⟨_,ho2,rfl⟩ noFill_tuple_add seq_tuple_add PySem.F.slot_tuple_add PySem.F.entry_tuple_add (PySem.F.args_tuple_add_2 _ _) (tuple_addW0 a b ([]:List Value).toArray its2.toArray n n2 d1 d2 sl1 sl2 (by simp)) ⟨ho,ho2,⟨.ref b,H,I,rfl,q b H (Same.refl H) hb⟩⟩
 ·exact Wn pins s σ H (.ref a) (.ref b) v u Q I rx ry ⟨a,b,xs,ys,rfl,rfl,ha,hb,hx,hz,fun z=>absurd z hy,fun _ p hp=>q p _ (Qc hp _) (Qu upd_same)⟩
theorem Qmw {X:Cx} {K:Fg} (hK:X.K=K):OpR X (binaryOp .Add) (rCatG K):=by subst hK;exact Qqf
end L2
namespace L2
open PySem PySem.W PyProof.Rows
end L2
namespace L2
open PySem PySem.Spec PySem.W PyProof.Rows
open PySem.SeqAt
end L2
namespace L2
open PySem PySem.Spec PyProof.Rows PySem.W
structure Tab (w:World) (K:Frag) (mg:Str->Option Value) (x:Str) (a:Addr) (f:Str->Option Value):Prop where
 bound:mg x=some (.ref a)
 map:∀ (P:Program) (h:Heap),K.In h->h.MapOf (strKind P w) a f
 low:(a == sysModules)=false
theorem tab_mk {w:World} {K:Frag} {mg:Str->Option Value} {x:Str} {a:Addr} {es:Array DictEntry} {n:Nat} (hb:mg x=some (.ref a)) (hl:K.lookup a=some ⟨.type "dict",none,.dict es n,#[]⟩) (hk:KeysLit w.params es.toList) (lo:(a == sysModules)=false) :
  Tab w K mg x a (fun k=>findBy Value.isStrOf es k):=⟨hb,fun P h X=>mapOf_K (prog:=P) X hl hk,lo⟩
def rTab (a:Addr) (f:Str->Option Value):R2:=fun x y H Q=>∃ s v z,x=.ref a/\y=.str s/\f s=some v/\RelV z v/\Q z H
section
variable {X:Cx}
theorem ix_tab {x:Str} {a:Addr} {f:Str->Option Value} (T:Tab X.w X.K X.mg x a f):IxR X (rTab a f):=by
 intro value slice pins s σ H x y v u Q I rx ry h hs
 obtain ⟨z,w',r,rfl,rfl,hf,rv,q⟩:=h
 cases rx
 obtain ⟨t,rfl⟩:=ry
 have hm:=T.map X.prog _ I.kIn
 exact tail_any hm.typeIs slot_dict_getitem.lookup (wpAny_getItem_of (strKind_is X.prog X.w z t) hm hf ⟨r,H,I.tok _,rv,q⟩) hs
end
theorem bt_str:bootBuiltins "str"=some (.type "str"):=by decide +kernel
end L2
namespace L2
open PySem PySem.Spec PySem.W PyProof.Rows
open PySem.SeqAt
end L2
namespace HT
open PySem PySem.Spec PyProof.Rows
section
variable {prog:Program} {w:World} {A:Around} {E:Value->Shared->Prop} {s:Shared}
theorem getItem_tuple_whole {t sl:Addr} {items:Array Value} {vl vu:Value} {lo hi:Option Int} {Q:Value->Shared->Prop} (ht:IsTup s.heap t items) (hs:s.heap.IsSliceOf sl vl vu .none) (pl:IsPart vl lo) (pu:IsPart vu hi)
  (hw:sIx items.size 0 lo=0/\sIx items.size items.size hi=items.size) (h:Q (.ref t) s):wpAny (model prog w) A (getItem (.ref t) (.ref sl)) Q E s:=by
 obtain ⟨os,hos,hcs,hds⟩:=id hs
 have hTs:s.TypeIs (.ref sl) "slice":=⟨os,hos,hcs⟩
 unfold getItem
 try with_reducible refine wpAny_holding ?_
 first | refine jQ (jV ?_) | skip
 refine jQ (wpAny_sequenceKey ht.typeIs (by decide) ?_)
 refine jQ (wpAny_callSpecial?_slot (name:=Str.ofString "__getitem__") ht.typeIs PyProof.Rows.slot_tuple_getitem
  (wpAny_call_entry PyProof.Rows.slot_tuple_getitem ht.typeIs entry_tuple_getitem ?_ (args_tuple_getitem _ _)))
 show wpAny _ _ (Builtin.Tuple.tupleItemsOf (.ref t) >>= _) _ _ s
 refine jQ (tupleItemsOf_ ht ?_)
 refine jQ (wpAny_typeOf hTs ?_)
 rw [if_pos (by decide)]
 refine jQ (Jk hs pl pu ?_)
 have hyes:((((sIx items.size 0 lo:Nat):Int) == 0 && (1:Int) == 1 && (sIx items.size items.size hi - sIx items.size 0 lo) == items.size)=true):=by
  rw [hw.1,hw.2]
  simp
 show wpAny _ _ (if (((sIx items.size 0 lo:Nat):Int) == 0 && (1:Int) == 1 && (sIx items.size items.size hi - sIx items.size 0 lo) == items.size)=true then _ else _) _ _ s
 rw [if_pos hyes]
 unfold Builtin.Tuple.tupleIsExact
 refine jQ (jQ (wpAny_typeOf ht.typeIs (jV ?_)))
 rw [if_pos (by decide)]
 refine jQ (wpAny_rule ?_)
 first
  | exact jV ⟨_,rfl,jV h⟩
  | exact jQ (jV ⟨_,rfl,jV h⟩)
  | exact jQ (jV (jV ⟨_,rfl,jV h⟩))
end
end HT
namespace L2
open PySem PySem.Spec PySem.W PyProof.Rows
open PySem.SeqAt
section
variable {X:Cx}
def rSlG (K:Fg):V->Option Int->Option Int->Hp->VK->Prop:=fun x lo hi H Q=>∃ a xs,x=.ref a/\SqT K H a xs/\∀ p H',Same H H'->SqT K H' p (cutV xs lo hi)->Q (.ref p) H'
theorem Qqg:SlR X (rSlG X.K):=by
 intro pins s σ H x v vl vu lo hi sl Q I rx hs pl pu h
 obtain ⟨a,xs,rfl,hx,q⟩:=h
 by_cases hw:HT.sIx xs.length 0 lo=0/\HT.sIx xs.length xs.length hi=xs.length
 ·have e:cutV xs lo hi=xs:=by unfold cutV;rw [hw.1,hw.2];simp
  rw [e] at q
  cases rx
  obtain ⟨its,r,ht,hz⟩:=I.tuple hx
  have hlen:its.toArray.size=xs.length:=by rw [kY];exact r.length.symm
  refine ⟨"tuple",_,PyProof.Rows.slot_tuple_getitem.lookup,ht.typeIs,?_⟩
  exact HT.getItem_tuple_whole ht hs pl pu (by rw [hlen];exact hw) ⟨.ref a,H,I,rfl,q a H (Same.refl H) hx⟩
 ·exact Qcz pins s σ H (.ref a) v vl vu lo hi sl Q I rx hs pl pu ⟨a,xs,rfl,hx,hw,fun p hp=>q p _ (Qc hp _) (Qu upd_same)⟩
theorem Qmx {K:Fg} (hK:X.K=K):SlR X (rSlG K):=by subst hK;exact Qqg
end
end L2
namespace L2
open PySem
section
theorem lenS {α:Type} {l:List α} {n:Nat} (h:l.length=n + 1):∃ a t,l=a :: t/\t.length=n:=by
 cases l with
 | nil=>exact absurd h (Nat.succ_ne_zero n).symm
 | cons a t=>exact ⟨a,t,rfl,Nat.succ.inj h⟩
theorem len1 {α:Type} {l:List α} (h:l.length=1):∃ a,l=[a]:=by
 obtain ⟨a,t,rfl,h'⟩:=lenS h
 exact ⟨a,congrArg _ (kQc.mp h')⟩
theorem len2 {α:Type} {l:List α} (h:l.length=2):∃ a b,l=[a,b]:=by
 obtain ⟨a,t,rfl,h'⟩:=lenS h
 obtain ⟨b,rfl⟩:=len1 h'
 exact ⟨a,b,rfl⟩
theorem len3 {α:Type} {l:List α} (h:l.length=3):∃ a b c,l=[a,b,c]:=by
 obtain ⟨a,t,rfl,h'⟩:=lenS h
 obtain ⟨b,c,rfl⟩:=len2 h'
 exact ⟨a,b,c,rfl⟩
theorem len4 {α:Type} {l:List α} (h:l.length=4):∃ a b c d,l=[a,b,c,d]:=by
 obtain ⟨a,t,rfl,h'⟩:=lenS h
 obtain ⟨b,c,d,rfl⟩:=len3 h'
 exact ⟨a,b,c,d,rfl⟩
theorem len5 {α:Type} {l:List α} (h:l.length=5):∃ a b c d e,l=[a,b,c,d,e]:=by
 obtain ⟨a,t,rfl,h'⟩:=lenS h
 obtain ⟨b,c,d,e,rfl⟩:=len4 h'
 exact ⟨a,b,c,d,e,rfl⟩
theorem bind1 {F:List Value->Prop} (h:∀ a,F [a]):∀ us:List Value,us.length=1->F us:=fun us hl=>by
 obtain ⟨a,rfl⟩:=len1 hl
 exact h a
theorem Zm {F:List Value->Prop} (h:∀ a b,F [a,b]):∀ us:List Value,us.length=2->F us:=fun us hl=>by
 obtain ⟨a,b,rfl⟩:=len2 hl
 exact h a b
theorem Qii {F:List Value->Prop} (h:∀ a b c,F [a,b,c]):∀ us:List Value,us.length=3->F us:=fun us hl=>by
 obtain ⟨a,b,c,rfl⟩:=len3 hl
 exact h a b c
theorem Qkl {F:List Value->Prop} (h:∀ a b c d,F [a,b,c,d]):∀ us:List Value,us.length=4->F us:=fun us hl=>by
 obtain ⟨a,b,c,d,rfl⟩:=len4 hl
 exact h a b c d
theorem bind5 {F:List Value->Prop} (h:∀ a b c d e,F [a,b,c,d,e]):∀ us:List Value,us.length=5->F us:=fun us hl=>by
 obtain ⟨a,b,c,d,e,rfl⟩:=len5 hl
 exact h a b c d e
theorem Qmy {s1 s2 s3 s4:TS} {D:Ends} {σ:St} {H:Hp} (h:let r4:TS:=s4;let r3:TS:=tSeq s3 r4;let r2:TS:=tSeq s2 r3;tSeq s1 r2 D σ H):(tSeq s1 (tSeq s2 (tSeq s3 (s4)))) D σ H:=h
theorem Qbx {s1 s2 s3 s4 s5:TS} {D:Ends} {σ:St} {H:Hp} (h:let r5:TS:=s5;let r4:TS:=tSeq s4 r5;let r3:TS:=tSeq s3 r4;let r2:TS:=tSeq s2 r3;tSeq s1 r2 D σ H):(tSeq s1 (tSeq s2 (tSeq s3 (tSeq s4 (s5))))) D σ H:=h
end
end L2
namespace L2
open PySem PySem.Spec PyProof.Rows PySem.W
end L2
namespace Nb
open PySem L2
def top (i:Nat):Stmt:=PySem.Challenge.pw_nonebetter_k65_whole_plans_are_points.main.body.getD i (.Pass ⟨0,0,0,0⟩)
abbrev Qgj:Stmt:=top 35
abbrev Vy:Stmt:=top 36
inductive BR where
 | days (n:Int)
 | bench (b:Str) (r:Int)
 | shut (b:Str) (f t:Int)
 | store (s:Str) (m f:Int)
 | work (w:Str)
 | way (w v:Str) (l c:Int)
 | use (k:Fin 3) (w v t:Str) (m:Int)
 | after (w x:Str) (g:Int)
 | late (w:Str) (d c:Int)
def useW:Fin 3->Str
 | 0=>"uses"
 | 1=>"takes"
 | 2=>"gives"
def BR.word:BR->Str
 | .days _=>"days"
 | .bench _ _=>"bench"
 | .shut _ _ _=>"shut"
 | .store _ _ _=>"store"
 | .work _=>"work"
 | .way _ _ _ _=>"way"
 | .use k _ _ _ _=>useW k
 | .after _ _ _=>"after"
 | .late _ _ _=>"late"
def BR.names:BR->List Str
 | .days _=>[]
 | .bench b _=>[b]
 | .shut b _ _=>[b]
 | .store s _ _=>[s]
 | .work w=>[w]
 | .way w v _ _=>[w,v]
 | .use _ w v t _=>[w,v,t]
 | .after w x _=>[w,x]
 | .late w _ _=>[w]
def BR.nums:BR->List Int
 | .days n=>[n]
 | .bench _ r=>[r]
 | .shut _ f t=>[f,t]
 | .store _ m f=>[m,f]
 | .work _=>[]
 | .way _ _ l c=>[l,c]
 | .use _ _ _ _ m=>[m]
 | .after _ _ g=>[g]
 | .late _ d c=>[d,c]
def BR.key (r:BR):List Key:=Sum.inr r.word :: r.names.map Sum.inr
def BR.cells (r:BR):List Key:=r.key ++ r.nums.map Sum.inl
def BR.own:BR->List Str
 | .work w=>[w]
 | .way w _ _ _=>[w]
 | .use _ w _ _ _=>[w]
 | .after w x _=>[w,x]
 | .late w _ _=>[w]
 | _=>[]
def BR.ok (n:Int):BR->Prop
 | .days m=>m=n
 | .bench _ r=>0<=r/\r<=99
 | .shut _ f t=>0<=f/\f < t/\t<=n
 | .store _ m f=>0<=f/\f<=m/\m<=999
 | .work _=>True
 | .way _ _ l c=>1<=l/\l<=n/\0<=c/\c<=999999
 | .use _ _ _ _ m=>1<=m/\m<=99
 | .after w x g=>w ≠ x/\0<=g/\g<=n
 | .late _ d c=>0<=d/\d<=n/\1<=c/\c<=999
def Apart (r q:BR):Prop:=r.word="shut"\/q.word="shut"\/r.key ≠ q.key
theorem Apart.symm {r q:BR} (h:Apart r q):Apart q r:=by
 rcases h with h | h | h
 ·exact .inr (.inl h)
 ·exact .inl h
 ·exact .inr (.inr h.symm)
theorem Qij {r q:BR} (h:r.word ≠ q.word):Apart r q:=.inr (.inr fun z=>h (by injection z with z1;injection z1))
structure WB (n:Int) (B:List BR):Prop where
 ok:∀ r ∈ B,r.ok n
 nd:B.Pairwise Apart
 ref:∀ r ∈ B,∀ w ∈ r.own,BR.work w ∈ B
 len:B.length<=400
 few:∃ nm:List Str,nm.length<=5/\∀ r ∈ B,∀ w ∈ r.own,w ∈ nm
def BR.kind:BR->Nat
 | .days _=>0
 | .bench _ _=>1
 | .shut _ _ _=>2
 | .store _ _ _=>3
 | .work _=>4
 | .way _ _ _ _=>5
 | .use k _ _ _ _=>6 + k.val
 | .after _ _ _=>9
 | .late _ _ _=>10
def wordOf:Nat->Str
 | 0=>"days"
 | 1=>"bench"
 | 2=>"shut"
 | 3=>"store"
 | 4=>"work"
 | 5=>"way"
 | 6=>"uses"
 | 7=>"takes"
 | 8=>"gives"
 | 9=>"after"
 | _=>"late"
theorem Ve (r:BR):r.word=wordOf r.kind:=by
 cases r with
 | use k _ _ _ _=>match k with | 0=>rfl | 1=>rfl | 2=>rfl
 | _=>rfl
theorem Wy (r:BR):r.kind < 11:=by
 cases r with
 | use k _ _ _ _=>show 6 + k.val < 11;omega
 | days n=>show (0:Nat) < 11;decide
 | bench b r=>show (1:Nat) < 11;decide
 | shut b f t=>show (2:Nat) < 11;decide
 | store b m f=>show (3:Nat) < 11;decide
 | work w=>show (4:Nat) < 11;decide
 | way w v l c=>show (5:Nat) < 11;decide
 | after w x g=>show (9:Nat) < 11;decide
 | late w d c=>show (10:Nat) < 11;decide
theorem Vf:∀ i,i < 11->∀ j,j < 11->wordOf i=wordOf j->i=j:=by decide +kernel
theorem Zy (r:BR) {k:Nat} (hk:k < 11):r.word=wordOf k ↔ r.kind=k:=⟨fun h=>Vf _ (Wy r) _ hk (by rw [← Ve];exact h),fun h=>by rw [Ve,h]⟩
theorem Jd {r q:BR} (h:r.kind ≠ q.kind):Apart r q:=Qij fun z=>h (Vf _ (Wy r) _ (Wy q) (by rw [← Ve,← Ve];exact z))
theorem Qmz {r:BR} (h:r.kind=5):∃ w v l c,r=.way w v l c:=by
 cases r with
 | way w v l c=>exact ⟨w,v,l,c,rfl⟩
 | use k _ _ _ _=>exact absurd (show 6 + k.val=5 from h) (by omega)
 | _=>exact nomatch h
theorem Qkm {r:BR} (h:r.kind=4):∃ w,r=.work w:=by
 cases r with
 | work w=>exact ⟨w,rfl⟩
 | use k _ _ _ _=>exact absurd (show 6 + k.val=4 from h) (by omega)
 | _=>exact nomatch h
theorem Qkn {r:BR} (h:r.kind=10):∃ w d c,r=.late w d c:=by
 cases r with
 | late w d c=>exact ⟨w,d,c,rfl⟩
 | use k _ _ _ _=>exact absurd (show 6 + k.val=10 from h) (by omega)
 | _=>exact nomatch h
theorem Qik {r:BR} (h:r.kind=9):∃ w x g,r=.after w x g:=by
 cases r with
 | after w x g=>exact ⟨w,x,g,rfl⟩
 | use k _ _ _ _=>exact absurd (show 6 + k.val=9 from h) (by omega)
 | _=>exact nomatch h
theorem Qgk {r:BR} (h:r.word="way"):∃ w v l c,r=.way w v l c:=Qmz ((Zy r (k:=5) (by decide)).mp h)
theorem Kt {r:BR} (h:r.word="work"):∃ w,r=.work w:=Qkm ((Zy r (k:=4) (by decide)).mp h)
theorem Qdo {r:BR} (h:r.word="late"):∃ w d c,r=.late w d c:=Qkn ((Zy r (k:=10) (by decide)).mp h)
theorem Jw {r:BR} (h:r.word="after"):∃ w x g,r=.after w x g:=Qik ((Zy r (k:=9) (by decide)).mp h)
def fl (x:Str):Nat:=x.cps.getD 0 0
def RowsB (H:Hp) (vs:List V) (B:List BR):Prop:=RowsL H vs (B.map BR.cells)
theorem Ys (r:BR):atI (r.cells.map kV) 0=some (.str r.word):=by cases r <;> rfl
theorem RowsB.get {H:Hp} {vs:List V} {B:List BR} (h:RowsB H vs B) {i:Nat} {v:V} (e:vs[i]?=some v):∃ r l,B[i]?=some r/\v=.ref l/\H l=some (.lst (r.cells.map kV)):=by
 obtain ⟨ks,e1,l,e2,h1⟩:=Qr h e
 rw [yY] at e1
 obtain ⟨r,e3,e4⟩:=kXa.mp e1
 exact ⟨r,l,e3,e2,by rw [e4];exact h1⟩
theorem RowsB.imp {H H':Hp} {vs:List V} {B:List BR} (h:RowsB H vs B) (f:∀ l (r:BR),V.ref l ∈ vs->H l=some (.lst (r.cells.map kV))->H' l=some (.lst (r.cells.map kV))):RowsB H' vs B:=by
 unfold RowsB at h ⊢
 induction B generalizing vs with
 | nil=>cases h;exact .nil
 | cons r B ih =>
  cases h with
  | cons z t =>
   obtain ⟨l,e,h1⟩:=z
   exact .cons ⟨l,e,f l r (by rw [e];exact kZ) h1⟩ (ih t fun l r hm=>f l r (yZ _ hm))
theorem RowsB.same {H H':Hp} {vs:List V} {B:List BR} (h:RowsB H vs B) (s:Same H H'):RowsB H' vs B:=h.imp fun _ _ _ z=>s _ _ z
theorem RowsB.length {H:Hp} {vs:List V} {B:List BR} (h:RowsB H vs B):vs.length=B.length:=by
 have:=Paired.length h
 rwa [jX] at this
theorem RowsB.snoc {H:Hp} {vs:List V} {B:List BR} {r:BR} {l:Addr} (h:RowsB H vs B) (z:H l=some (.lst (r.cells.map kV))):RowsB H (vs ++ [.ref l]) (B ++ [r]):=by
 unfold RowsB at h ⊢
 rw [kJ]
 exact Paired.snoc h ⟨l,rfl,z⟩
theorem Vg {α β:Type} {R:α->β->Prop} {xs xs':List α} {ys ys':List β} (h1:Paired R xs ys) (h2:Paired R xs' ys'):Paired R (xs ++ xs') (ys ++ ys'):=by
 induction h1 with
 | nil=>exact h2
 | cons z _ ih=>exact .cons z ih
theorem RowsB.app {H:Hp} {vs vs':List V} {B B':List BR} (h:RowsB H vs B) (h':RowsB H vs' B'):RowsB H (vs ++ vs') (B ++ B'):=by
 unfold RowsB at h h' ⊢
 rw [kJ]
 exact Vg h h'
def Qqh (ys:List V):Prop:=∀ s r,ys ≠ V.str s :: r
theorem RowsB.noRow {H:Hp} {vs:List V} {B:List BR} (h:RowsB H vs B):Qqh vs:=fun s r e=>by
 subst e
 obtain ⟨_,_,_,e,_⟩:=h.get (i:=0) (v:=.str s) rfl
 cases e
theorem Qna {ys:List V} (h:Qqh ys) (r:BR):r.cells.map kV ≠ ys:=fun e=>h r.word (r.cells.map kV).tail (by rw [← e];cases r <;> rfl)
theorem RowsB.updL {H:Hp} {vs:List V} {B:List BR} {g:Addr} {ys zs:List V} (h:RowsB H vs B) (hg:H g=some (.lst ys)) (n:Qqh ys):RowsB (upd H g (.lst zs)) vs B:=h.imp fun l r _ z=>by
 rw [Qi (Yp z hg fun e=>Qna n r (HO.lst.inj e))]
 exact z
structure Dr (K:Fg) (H:Hp) (l:Addr) (ds:List Int):Prop where
 lst:SqL K H l (ds.map V.int)
 pos:∀ d ∈ ds,0<=d/\d < 2147483648
theorem Dr.same {K:Fg} {H H':Hp} {l:Addr} {ds:List Int} (h:Dr K H l ds) (e:Same H H'):Dr K H' l ds:=⟨e.seq h.lst,h.pos⟩
theorem Dr.get {K:Fg} {H:Hp} {l:Addr} {ds:List Int} (h:Dr K H l ds) (k:Int) (h0:0<=k) (h1:k < (ds.length:Int)):∃ z:Int,atI (ds.map V.int) k=some (.int z)/\0<=z/\z < 2147483648:=by
 have hk:k.toNat < ds.length:=by omega
 have ek:k=((k.toNat:Nat):Int):=by omega
 have q:atI (ds.map V.int) ((k.toNat:Nat):Int)=some (.int ds[k.toNat]):=Qka (by rw [yY,gE hk];rfl)
 rw [← ek] at q
 exact ⟨_,q,h.pos _ (kZa hk)⟩
def Qko (K:Fg):Sp:=fun vs H Q _=>∃ (a:Addr) (ns:List Int) (k:Int),vs=[.ref a,.int k]/\SqL K H a (ns.map V.int)/\0<=k/\k<=1000/\∀ z:Int,0<=z->z < 2147483648->Q (.int z) H
def Qdp (K:Fg):Sp:=fun vs H Q _=>∃ (a:Addr) (ns:List Int) (m:Nat),vs=[.ref a,.int (m:Int)]/\SqL K H a (ns.map V.int)/\m<=1000/\∀ (l:Addr) (ds:List Int) (H':Hp),ds.length=m->Same H H'->Dr K H' l ds->Q (.ref l) H'
theorem Wz {t1 t2:TS} {D:Ends} {σ:St} {H:Hp} (Pv:St->Hp->Prop) (h2:∀ σ' H',Pv σ' H'->t2 D σ' H') (h1:(∀ σ' H',Pv σ' H'->t2 D σ' H')->t1 { D with nx:=t2 D } σ H):tSeq t1 t2 D σ H:=h1 h2
theorem Qgl {t1 t2:TS} {D:Ends} {i:Nat} {x:V} {σ:St} {H:Hp} (Pv:St->Hp->Prop) (h2:∀ σ' H',Pv σ' H'->t2 D σ' H') (h1:(∀ σ' H',Pv σ' H'->t2 D σ' H')->t1 { D with nx:=t2 D } (σ.set i (some x)) H):Vu i x σ H ({ D with nx:=tSeq t1 t2 D }:Ends).nx:=h1 h2
section
variable {P:Program} {w:World} {K:Fg} {mg:Str->Option Value} {base:Heap}
theorem scMix10:FnScope ["_law_script","_law_k","_law_cell","_law_number"] ["_law_script","_law_k"] (Qg Qgj):=⟨rfl,rfl,rfl,by decide +kernel,rfl,by decide +kernel,by decide +kernel⟩
theorem Qqi (F:Fn K mg "_law_mix" Qgj) (M:Mg mg):Cal P w K mg base 1 "_law_mix" ["_law_script","_law_k"] (Qko K):=by
 refine Xi F scMix10 (fun _ _ _ _ _ _=>Zm (fun _ _=>rfl)) (fun vs H Q E h=>?_) (fun f cdv A outer s H vs Q E hr h=>?_)
 ·obtain ⟨a,ns,k,rfl,_⟩:=h
  rfl
 obtain ⟨a,ns,k,rfl,hS,h0,h1,q⟩:=h
 refine ⟨_,(Qf (Qp (i:=2) scMix10.nd rfl (Or.inl rfl) Qd)
  (Qf (Yg (Qn Qje (Qy Xo rfl M.len Jq (Qa (pv 0) Qe)) Qd (Qq _)) (Qh (Qp (i:=2) scMix10.nd rfl (Or.inl rfl) (Qo Qm (pv 0) (Qj Xh (pv 1) (Qy (Jn rfl) rfl M.min Qdh (Qa Qd (Qa (Qy Xo rfl M.len Jq (Qa (pv 0) Qe)) Qe)))) (fun _ _=>rfl)))) Qz)
  (Qf (Qp (i:=3) scMix10.nd rfl (Or.inl rfl) (Qj Xh (Qj Qs (pv 2) (Qj Zr Qd (Qj Qs (pv 1) Qd))) Qd))
  (Qf (Qp (i:=3) scMix10.nd rfl (Or.inl rfl) (Qj Xh (Qj Qs (Qj Zr (pv 3) (pv 3)) (pv 1)) Qd))
  (Qh (Qw (Qj Xh (Qj Zr (pv 3) (pv 3)) Qd))))))),?_⟩
 refine Qbx ?_
 intro rT5 rT4 rT3 rT2
 have fin:∀ x:Int,Q (.int (x % 2147483587)) H:=fun x=>q _ (zJ _ (by decide)) (Int.lt_trans (zY _ (by decide)) (by decide))
 have b1:∀ x:Int,-(2 ^ 64) < x % 2147483629/\x % 2147483629 < 2 ^ 64:=fun x=>⟨by omega,by omega⟩
 refine ⟨_,rfl,a,_,rfl,.inl hS,_,_,rfl,rfl,_,rfl,ite2 (fun c=>?_) (fun c=>?_)⟩
 ·have c':(0:Int) < (((ns.map V.int).length:Nat):Int):=jJ c
  have pm:(0:Int) < (if (((ns.map V.int).length:Nat):Int) < 63 then (((ns.map V.int).length:Nat):Int) else 63):=by split <;> omega
  have pl:(if (((ns.map V.int).length:Nat):Int) < 63 then (((ns.map V.int).length:Nat):Int) else 63)<=(((ns.map V.int).length:Nat):Int):=by split <;> omega
  obtain ⟨v3,hv3⟩:=atNs (ns:=ns) (k:=k % (if (((ns.map V.int).length:Nat):Int) < 63 then (((ns.map V.int).length:Nat):Int) else 63)) (zJ _ (Int.ne_of_gt pm)) (Int.lt_of_lt_of_le (zY _ pm) pl)
  refine ⟨_,rfl,_,rfl,_,rfl,_,_,rfl,.inl hS,_,_,rfl,_,_,rfl,rfl,pm,_,_,_,_,rfl,rfl,hS,hv3,?_⟩
  exact ⟨_,rfl,_,rfl,_,_,rfl,rfl,_,_,rfl,rfl,.inl ⟨by decide,by decide⟩,_,_,rfl,rfl,_,_,rfl,rfl,(by show (0:Int) < _;decide +kernel),_,rfl,_,rfl,_,_,rfl,rfl,.inl (b1 _),_,rfl,_,_,rfl,rfl,_,_,rfl,rfl,(by show (0:Int) < _;decide +kernel),_,rfl,_,rfl,_,_,rfl,rfl,.inl (b1 _),_,_,rfl,rfl,(by show (0:Int) < _;decide +kernel),fin _⟩
 ·exact ⟨_,rfl,_,rfl,_,_,rfl,rfl,_,_,rfl,rfl,.inl ⟨by decide,by decide⟩,_,_,rfl,rfl,_,_,rfl,rfl,(by show (0:Int) < _;decide +kernel),_,rfl,_,rfl,_,_,rfl,rfl,.inl (b1 _),_,rfl,_,_,rfl,rfl,_,_,rfl,rfl,(by show (0:Int) < _;decide +kernel),_,rfl,_,rfl,_,_,rfl,rfl,.inl (b1 _),_,_,rfl,rfl,(by show (0:Int) < _;decide +kernel),fin _⟩
theorem Qqj {ds:List Int} {z:Int} (h:∀ d ∈ ds,0<=d/\d < 2147483648) (hz:0<=z/\z < 2147483648):∀ d ∈ ds ++ [z],0<=d/\d < 2147483648:=fun d hd=>by
 rcases zQ.mp hd with y | y
 ·exact h d y
 ·rw [jZ.mp y];exact hz
theorem scDraws10:FnScope ["_law_script","_law_many","_law_found","_law_k","_law_cell"] ["_law_script","_law_many"] (Qg Vy):=⟨rfl,rfl,rfl,by decide +kernel,rfl,by decide +kernel,by decide +kernel⟩
theorem Qkp (F:Fn K mg "_law_draws" Vy) (M:Mg mg) (cl_mix:Cal P w K mg base 1 "_law_mix" ["_law_script","_law_k"] (Qko K)):Cal P w K mg base 2 "_law_draws" ["_law_script","_law_many"] (Qdp K):=by
 refine Xi F scDraws10 (fun _ _ _ _ _ _=>Zm (fun _ _=>rfl)) (fun vs H Q E h=>?_) (fun f cdv A outer s H vs Q E hr h=>?_)
 ·obtain ⟨a,ns,m,rfl,_⟩:=h
  rfl
 obtain ⟨a,ns,m,rfl,hS,h1,q⟩:=h
 refine ⟨_,(Qf (Qp (i:=2) scDraws10.nd rfl (Or.inl rfl) (Xw Qe))
  (Qf (Yg (PW.pt (We (Qn Yb (Qy Xo rfl M.len Jq (Qa (pv 0) Qe)) Qd (Qq _)) (Vq (Qn Yb (Qj Xh (Qo Qm (pv 0) Qd (fun _ _=>rfl)) Qd) Qd (Qq _))))) (Qf (Xe PassesOwn.never rfl (Xk rfl M.range_ (Qa (pv 1) Qe)) (Ql (i:=3) scDraws10.nd rfl (Or.inl rfl) (Or.inl rfl)) (Qh (Xm (Zp PySem.F.plainAttrs_list PySem.F.slot_list_append PySem.F.type_list_append Xb (pv 2) (Qa (Xj cl_mix (hr.mono (by decide)) (Qa (pv 0) (Qa (pv 3) Qe))) Qe)))))
  (Qh (Qw (pv 2)))) Qz)
  (Qf (Qp (i:=4) scDraws10.nd rfl (Or.inl rfl) Qd)
  (Qf (Xe PassesOwn.never rfl (Xk rfl M.range_ (Qa (pv 1) Qe)) (Ql (i:=3) scDraws10.nd rfl (Or.inl rfl) (Or.inl rfl)) (Qf (Yg (Qn Yb (Qj Xh (pv 3) Qd) Qd (Qq _)) (Qf (Qp (i:=4) scDraws10.nd rfl (Or.inl rfl) Qd)
  (Qh (Yg (Qn Qct (Qj Ya (pv 3) Qd) (Qy (Jn rfl) rfl M.min Qdh (Qa Qd (Qa (Qy Xo rfl M.len Jq (Qa (pv 0) Qe)) Qe))) (Qq _)) (Qh (Qp (i:=4) scDraws10.nd rfl (Or.inl rfl) (Qj Ya (Qo Qm (pv 0) (Qj Ya (pv 3) Qd) (fun _ _=>rfl)) Qd))) Qz))) Qz)
  (Qf (Xm (Zp PySem.F.plainAttrs_list PySem.F.slot_list_append PySem.F.type_list_append Xb (pv 2) (Qa (Qj Xh (pv 4) Qd) Qe)))
  (Qh (Qp (i:=4) scDraws10.nd rfl (Or.inl rfl) (Qj Ya (pv 4) Qd))))))
  (Qh (Qw (pv 2))))))),?_⟩
 refine Qbx ?_
 intro rT5 rT4 rT3 rT2
 have hz:(2000:Nat) < sizeLine:=by decide
 refine ⟨by show 0<=sizeLine;decide,fun g hg0=>?_⟩
 have s0:=Qc hg0 (.lst [])
 refine ⟨_,rfl,a,_,rfl,.inl (s0.seq hS),rfl,_,rfl,ite2 (fun c=>iteT ?_) (fun c=>?_)⟩
 ·let Pv1:Nat->St->Hp->Prop:=fun i σ H1=>∃ (ds:List Int) (u:Option V),σ=[some (.ref a),some (.int (m:Int)),some (.ref g),u,none]/\ds.length=i/\H1 g=some (.lst (ds.map V.int))/\(∀ d ∈ ds,0<=d/\d < 2147483648)/\Same H H1
  refine ⟨_,rfl,(m:Int),rfl,by omega,by omega,Xs (lo:=0) (n:=((m:Nat):Int).toNat) Pv1 ⟨[],none,rfl,rfl,upd_same,(fun _ z=>nomatch z),s0⟩ ?_ ?_⟩
  ·rintro i σ H1 hi ⟨ds,u,rfl,rfl,hg,hp,s1⟩
   refine ⟨_,rfl,.inl ⟨rfl,_,Qb hg⟩,_,rfl,_,rfl,a,ns,_,rfl,s1.seq hS,by omega,by omega,fun z z0 z1=>⟨g,_,_,rfl,rfl,hg,by rw [jX];omega,?_⟩⟩
   exact ⟨ds ++ [z],_,rfl,by rw [jY];rfl,by rw [upd_same,kJ];rfl,Qqj hp ⟨z0,z1⟩,fun b o e=>by rw [Qi (Qk e hg0)];exact s1 _ _ e⟩
  ·rintro σ H1 ⟨ds,u,rfl,hl,hg,hp,s1⟩
   exact ⟨_,rfl,q g ds H1 (by omega) s1 ⟨Qb hg,hp⟩⟩
 have hpos:0 < ns.length:=by
  rcases Nat.eq_zero_or_pos ns.length with z | z
  ·exact absurd (kQ (congrArg V.int (show (((ns.map V.int).length:Nat):Int)=0 by rw [jX,z];rfl))) c
  ·exact z
 obtain ⟨v0,hv0⟩:=atNs (ns:=ns) (k:=0) (kXe 0) (by rw [jX];omega)
 refine ⟨_,rfl,a,_,_,_,rfl,rfl,s0.seq hS,hv0,_,_,rfl,rfl,(by show (0:Int) < _;decide +kernel),rfl,_,rfl,ite2 (fun c2=>?_) (fun c2=>?_)⟩
 ·let Pv2:Nat->St->Hp->Prop:=fun i σ H1=>∃ (ds:List Int) (u:Option V),σ=[some (.ref a),some (.int (m:Int)),some (.ref g),u,none]/\ds.length=i/\H1 g=some (.lst (ds.map V.int))/\(∀ d ∈ ds,0<=d/\d < 2147483648)/\Same H H1
  refine ⟨_,rfl,(m:Int),rfl,by omega,by omega,Xs (lo:=0) (n:=((m:Nat):Int).toNat) Pv2 ⟨[],none,rfl,rfl,upd_same,(fun _ z=>nomatch z),s0⟩ ?_ ?_⟩
  ·rintro i σ H1 hi ⟨ds,u,rfl,rfl,hg,hp,s1⟩
   refine ⟨_,rfl,.inl ⟨rfl,_,Qb hg⟩,_,rfl,_,rfl,a,ns,_,rfl,s1.seq hS,by omega,by omega,fun z z0 z1=>⟨g,_,_,rfl,rfl,hg,by rw [jX];omega,?_⟩⟩
   exact ⟨ds ++ [z],_,rfl,by rw [jY];rfl,by rw [upd_same,kJ];rfl,Qqj hp ⟨z0,z1⟩,fun b o e=>by rw [Qi (Qk e hg0)];exact s1 _ _ e⟩
  ·rintro σ H1 ⟨ds,u,rfl,hl,hg,hp,s1⟩
   exact ⟨_,rfl,q g ds H1 (by omega) s1 ⟨Qb hg,hp⟩⟩
 have mx:(if (((ns.map V.int).length:Nat):Int) < 63 then (((ns.map V.int).length:Nat):Int) else 63)<=(((ns.map V.int).length:Nat):Int):=by split <;> omega
 let Pv3:Nat->St->Hp->Prop:=fun i σ H1=>∃ (ds:List Int) (u:Option V) (c:Int),σ=[some (.ref a),some (.int (m:Int)),some (.ref g),u,some (.int c)]/\ds.length=i/\H1 g=some (.lst (ds.map V.int))/\(∀ d ∈ ds,0<=d/\d < 2147483648)/\Same H H1
 refine ⟨_,rfl,(m:Int),rfl,by omega,by omega,Xs (lo:=0) (n:=((m:Nat):Int).toNat) Pv3 ⟨[],none,0,rfl,rfl,upd_same,(fun _ z=>nomatch z),s0⟩ ?_ ?_⟩
 ·rintro i σ H1 hi ⟨ds,u,c,rfl,rfl,hg,hp,s1⟩
  show tSeq _ _ _ _ _
  refine Wz (fun σ' H'=>∃ c:Int,σ'=[some (.ref a),some (.int (m:Int)),some (.ref g),some (.int (0 + (ds.length:Int))),some (.int c)]/\H'=H1) ?_ fun REST=>?_
  ·rintro σ' H' ⟨c,rfl,rfl⟩
   refine ⟨_,rfl,.inl ⟨rfl,_,Qb hg⟩,_,rfl,_,_,rfl,rfl,(by show (0:Int) < _;decide +kernel),g,_,_,rfl,rfl,hg,by rw [jX];omega,?_⟩
   exact ⟨_,rfl,_,_,rfl,rfl,⟨by decide,by decide⟩,ds ++ [c % 5040],_,_,rfl,by rw [jY];rfl,by rw [upd_same,kJ];rfl,Qqj hp ⟨zJ _ (by decide),by have:=zY c (show (0:Int) < 5040 by decide);omega⟩,fun b o e=>by rw [Qi (Qk e hg0)];exact s1 _ _ e⟩
  ·refine ⟨_,rfl,_,_,rfl,rfl,(by show (0:Int) < _;decide +kernel),rfl,_,rfl,ite2 (fun c1=>?_) (fun c1=>REST _ _ ⟨_,rfl,rfl⟩)⟩
   refine ⟨_,rfl,_,_,rfl,rfl,⟨by decide,by decide⟩,_,rfl,a,_,rfl,.inl (s1.seq hS),_,_,rfl,_,_,rfl,rfl,_,rfl,ite2 (fun c2=>?_) (fun c2=>REST _ _ ⟨_,rfl,rfl⟩)⟩
   have c3:=jJ c2
   obtain ⟨v,hv⟩:=atNs (ns:=ns) (k:=(0 + (ds.length:Int)) / 30) (by omega) (Int.lt_of_lt_of_le c3 mx)
   exact ⟨_,rfl,_,rfl,_,_,rfl,rfl,⟨by decide,by decide⟩,a,_,_,_,rfl,rfl,s1.seq hS,hv,_,_,rfl,rfl,⟨by decide,by decide⟩,REST _ _ ⟨_,rfl,rfl⟩⟩
 ·rintro σ H1 ⟨ds,u,c,rfl,hl,hg,hp,s1⟩
  exact ⟨_,rfl,q g ds H1 (by omega) s1 ⟨Qb hg,hp⟩⟩
abbrev Qby:Stmt:=top 37
theorem fl_app {x y:Str} (h:1<=x.length):fl (x ++ y)=fl x:=by
 show (x.cps ++ y.cps).getD 0 0=x.cps.getD 0 0
 have h':0 < x.cps.size:=h
 rw [Array.getD_eq_getD_getElem?,Array.getD_eq_getD_getElem?,Array.getElem?_append_left h']
theorem len_app (x y:Str):(x ++ y).length=x.length + y.length:=by
 show (x.cps ++ y.cps).size=_
 rw [Array.size_append]
 rfl
theorem atS {x:Str} {z:Int} (h0:0<=z) (h1:z < (x.length:Nat)):∃ c,atI x.cps.toList z=some c:=by
 have e:z=((z.toNat:Nat):Int):=by omega
 have h2:z.toNat < x.cps.toList.length:=by
  have h3:x.length=x.cps.toList.length:=by show x.cps.size=_;exact jZb.symm
  omega
 exact ⟨_,by rw [e];exact Vc (gE h2)⟩
theorem Qqk:("abcdefghijklmnopqrstuvwxyz":Str).length=26:=by decide +kernel
theorem Qnb {f:Int} (h0:0<=f) (h1:f < 26):atI ("abcdefghijklmnopqrstuvwxyz":Str).cps.toList f=some (97 + f.toNat):=by
 have:∀ k:Fin 26,atI ("abcdefghijklmnopqrstuvwxyz":Str).cps.toList ((k.val:Nat):Int)=some (97 + k.val):=by decide +kernel
 have h:=this ⟨f.toNat,by omega⟩
 rw [show (((⟨f.toNat,by omega⟩:Fin 26).val:Nat):Int)=f by show ((f.toNat:Nat):Int)=f;omega] at h
 exact h
def Qbz:Sp:=fun vs H Q _=>∃ (k z:Int),vs=[.int k,.int z]/\∀ x:Str,fl x=97 + ((z + k) % 26).toNat->x.length<=12->Q (.str x) H
theorem scName66:FnScope ["_law_k","_law_number","_law_letters","_law_found","_law_j"] ["_law_k","_law_number"] (Qg Qby):=⟨rfl,rfl,rfl,by decide +kernel,rfl,by decide +kernel,by decide +kernel⟩
theorem Qnc (F:Fn K mg "_law_name" Qby) (M:Mg mg):Cal P w K mg base 1 "_law_name" ["_law_k","_law_number"] (Qbz):=by
 refine Xi F scName66 (fun _ _ _ _ _ _=>Zm (fun _ _=>rfl)) (fun vs H Q E h=>?_) (fun f cdv A outer s H vs Q E hr h=>?_)
 ·obtain ⟨k,z,rfl,_⟩:=h
  rfl
 obtain ⟨k,z,rfl,q⟩:=h
 refine ⟨_,(Qf (Qp (i:=2) scName66.nd rfl (Or.inl rfl) Xa)
  (Qf (Qp (i:=3) scName66.nd rfl (Or.inl rfl) (Qo Qow (pv 2) (Qj Xh (Qj Qs (pv 1) (pv 0)) Qd) (fun _ _=>rfl)))
  (Qf (Qp (i:=1) scName66.nd rfl (Or.inl rfl) (Qj Ya (pv 1) Qd))
  (Qf (Xe PassesOwn.never rfl (Xk rfl M.range_ (Qa (Qj Xh (pv 1) Qd) Qe)) (Ql (i:=4) scName66.nd rfl (Or.inl rfl) (Or.inl rfl)) (Qf (Qp (i:=1) scName66.nd rfl (Or.inl rfl) (Qj Ya (pv 1) Qd))
  (Qh (Qp (i:=3) scName66.nd rfl (Or.inl rfl) (Qj Qhw (pv 3) (Qo Qow (pv 2) (Qj Xh (pv 1) Qd) (fun _ _=>rfl)))))))
  (Qh (Qw (pv 3))))))),?_⟩
 refine Qbx ?_
 intro rT5 rT4 rT3 rT2
 have hz:(20000:Nat) < sizeLine:=by decide
 refine ⟨_,rfl,_,rfl,_,rfl,_,_,rfl,rfl,_,_,rfl,rfl,(by show (0:Int) < _;decide +kernel),_,_,_,rfl,rfl,by rw [Qqk];decide,Qnb (zJ _ (by decide)) (zY _ (by decide)),?_⟩
 refine ⟨_,rfl,_,_,rfl,rfl,⟨by decide,by decide⟩,?_⟩
 have m0:=zJ (z / 26) (show (4:Int) ≠ 0 by decide)
 have m1:=zY (z / 26) (show (0:Int) < 4 by decide)
 let Pv4:Nat->St->Hp->Prop:=fun i σ H1=>H1=H/\∃ (zz:Int) (x:Str) (v:Option V),σ=[some (.int k),some (.int zz),some (.str "abcdefghijklmnopqrstuvwxyz"),some (.str x),v]/\fl x=97 + ((z + k) % 26).toNat/\x.length=1 + i
 refine ⟨_,rfl,_,_,rfl,rfl,(by show (0:Int) < _;decide +kernel),z / 26 % 4,rfl,by omega,by omega,Xs (lo:=0) (n:=(z / 26 % 4).toNat) Pv4 ⟨rfl,_,_,none,rfl,rfl,rfl⟩ ?_ ?_⟩
 ·rintro i σ H1 hi ⟨rfl,zz,x,v,rfl,hf,hx⟩
  refine ⟨_,rfl,_,_,rfl,rfl,⟨by decide,by decide⟩,?_⟩
  obtain ⟨c,ec⟩:=atS (x:="abcdefghijklmnopqrstuvwxyz") (z:=zz / 4 % 26) (by omega) (by rw [Qqk];omega)
  refine ⟨_,rfl,_,rfl,_,rfl,_,_,rfl,rfl,(by show (0:Int) < _;decide +kernel),_,_,_,rfl,rfl,by rw [Qqk];decide,ec,_,_,rfl,rfl,?_,rfl,_,_,_,rfl,?_,?_⟩
  ·show x.length + 1<=sizeLine
   omega
  ·rw [fl_app (by omega)];exact hf
  ·rw [len_app,hx]
   show 1 + i + 1=1 + (i + 1)
   omega
 ·rintro σ H1 ⟨rfl,zz,x,v,rfl,hf,hx⟩
  exact ⟨_,rfl,q x hf (by omega)⟩
abbrev Vz:Stmt:=top 38
inductive Thing:BR->Prop
 | bench (b r):Thing (.bench b r)
 | shut (b f t):Thing (.shut b f t)
 | store (s m f):Thing (.store s m f)
structure ThOk (n:Int) (T:List BR):Prop where
 ok:∀ r ∈ T,r.ok n
 th:∀ r ∈ T,Thing r
 nd:T.Pairwise Apart
theorem ThOk.snoc {n:Int} {T:List BR} {r:BR} (h:ThOk n T) (h1:r.ok n) (h2:Thing r) (h3:∀ q ∈ T,Apart q r):ThOk n (T ++ [r]):=by
 refine ⟨fun q hq=>?_,fun q hq=>?_,?_⟩
 ·rcases zQ.mp hq with z | z
  ·exact h.ok q z
  ·rw [jZ.mp z];exact h1
 ·rcases zQ.mp hq with z | z
  ·exact h.th q z
  ·rw [jZ.mp z];exact h2
 ·refine kXf.mpr ⟨h.nd,jJc _ _,fun a ha b hb=>?_⟩
  rw [jZ.mp hb]
  exact h3 a ha
theorem Qca {q:BR} {b:Str} {r:Int} (hq:Thing q) (h:∀ b' m',q=.bench b' m'->b' ≠ b):Apart q (.bench b r):=by
 cases hq with
 | bench b' r' =>
  refine .inr (.inr fun z=>h b' r' rfl ?_)
  have z':[(Sum.inr ("bench":Str):Key),Sum.inr b']=[Sum.inr ("bench":Str),Sum.inr b]:=z
  injection z' with _ z2
  injection z2 with z3
  injection z3
 | shut b' f t=>exact .inl rfl
 | store s m f=>exact Jd (by show (3:Nat) ≠ 1;decide)
theorem Qcb {q:BR} {s:Str} {m f:Int} (hq:Thing q) (h:∀ s' m' f',q=.store s' m' f'->s' ≠ s):Apart q (.store s m f):=by
 cases hq with
 | bench b' r'=>exact Jd (by show (1:Nat) ≠ 3;decide)
 | shut b' f t=>exact .inl rfl
 | store s' m' f' =>
  refine .inr (.inr fun z=>h s' m' f' rfl ?_)
  have z':[(Sum.inr ("store":Str):Key),Sum.inr s']=[Sum.inr ("store":Str),Sum.inr s]:=z
  injection z' with _ z2
  injection z2 with z3
  injection z3
theorem Ja {ns:List Str} {i:Nat} {v:V} (h:(ns.map V.str)[i]?=some v):∃ n,ns[i]?=some n/\v=.str n:=by
 rw [yY] at h
 cases e:ns[i]? with
 | none=>rw [e] at h;cases h
 | some n=>rw [e] at h;exact ⟨n,rfl,(Option.some.inj h).symm⟩
theorem Zk {qs:List Str} (h:qs.Nodup) {i:Nat} {b x:Str} (e:qs[i]?=some b) (hx:x ∈ qs.take i):x ≠ b:=by
 rintro rfl
 obtain ⟨j,hj,ej⟩:=kJb hx
 rw [zK] at hj
 obtain ⟨hi,ei⟩:=kK.mp e
 rw [List.getElem_take] at ej
 have:=(List.getElem_inj h).mp (ej.trans ei.symm)
 omega
theorem Yn {qs:List Str} {i:Nat} {b:Str} (e:qs[i]?=some b):b ∈ qs.take (i + 1):=by
 rw [Ze e];exact xZ _ (jZ.mpr rfl)
theorem Yk {qs:List Str} {i:Nat} {b x:Str} (e:qs[i]?=some b) (h:x ∈ qs.take i):x ∈ qs.take (i + 1):=by
 rw [Ze e];exact wY _ h
def Qdq (K:Fg):Sp:=fun vs H Q _=>∃ (l q t:Addr) (ds:List Int) (n:Int) (qs ts:List Str),vs=[.ref l,.int 0,.int n,.ref q,.ref t]/\Dr K H l ds/\44<=ds.length/\1<=n/\n<=12/\SqL K H q (qs.map V.str)/\SqL K H t (ts.map V.str)/\qs.length<=2/\ts.length<=2/\qs.Nodup/\ts.Nodup /\
 ∀ (g:Addr) (vs:List V) (B:List BR) (H':Hp),Same H H'->H g=none->H' g=some (.lst vs)->RowsB H' vs B->ThOk n B->B.length<=8->Q (.ref g) H'
theorem scRooms66:FnScope ["_law_draws_here","_law_at","_law_days","_law_quays","_law_stocks","_law_found","_law_k","_law_bench","_law_number","_law_begin","_law_store","_law_full"] ["_law_draws_here","_law_at","_law_days","_law_quays","_law_stocks"] (Qg Vz):=⟨rfl,rfl,rfl,by decide +kernel,rfl,by decide +kernel,by decide +kernel⟩
theorem Qkq (F:Fn K mg "_law_rooms" Vz) (M:Mg mg):Cal P w K mg base 1 "_law_rooms" ["_law_draws_here","_law_at","_law_days","_law_quays","_law_stocks"] (Qdq K):=by
 refine Xi F scRooms66 (fun _ _ _ _ _ _=>bind5 (fun _ _ _ _ _=>rfl)) (fun vs H Q E h=>?_) (fun f cdv A outer s H vs Q E hr h=>?_)
 ·obtain ⟨l,q,t,ds,n,qs,ts,rfl,_⟩:=h
  rfl
 obtain ⟨l,q,t,ds,n,qs,ts,rfl,hD0,h44,n1,n12,hq,ht,lq,lt,nq,nt,qq⟩:=h
 refine ⟨_,(Qf (Qp (i:=5) scRooms66.nd rfl (Or.inl rfl) (Xw Qe))
  (Qf (Xe PassesOwn.never rfl (Ww true rfl M.enumerate_ (Qa (pv 3) Qe)) (Jh (K:=K) (i:=6) (j:=7) rfl rfl scRooms66.nd rfl rfl rfl rfl) (Qf (Xm (Zp PySem.F.plainAttrs_list PySem.F.slot_list_append PySem.F.type_list_append Xb (pv 5) (Qa (Xw (Qa Xa (Qa (pv 7) (Qa (Qj Xh (Qo Qm (pv 0) (Qj Qs (Qj Qs (pv 1) Qd) (pv 6)) (fun _ _=>rfl)) Qd) Qe)))) Qe)))
  (Qh (Xe PassesOwn.never rfl (Qt (Xw (Qa (Qo Qm (pv 0) (Qj Qs (Qj Qs (pv 1) Qd) (pv 6)) (fun _ _=>rfl)) (Qa (Qo Qm (pv 0) (Qj Qs (Qj Qs (pv 1) Qd) (pv 6)) (fun _ _=>rfl)) Qe)))) (Ql (i:=8) scRooms66.nd rfl (Or.inl rfl) (Or.inl rfl)) (Qf (Qp (i:=9) scRooms66.nd rfl (Or.inl rfl) (Qj Xh (pv 8) (pv 2)))
  (Qh (Yg (Qn Yb (Qj Xh (Qj Ya (pv 8) Qd) Qd) Qd (Qq _)) (Qh (Xm (Zp PySem.F.plainAttrs_list PySem.F.slot_list_append PySem.F.type_list_append Xb (pv 5) (Qa (Xw (Qa Xa (Qa (pv 7) (Qa (pv 9) (Qa (Qj Qs (Qj Qs (pv 9) Qd) (Qj Xh (Qj Ya (pv 8) Qd) (Qj Kl (pv 2) (pv 9)))) Qe))))) Qe)))) Qz)))))))
  (Qf (Xe PassesOwn.never rfl (Ww true rfl M.enumerate_ (Qa (pv 4) Qe)) (Jh (K:=K) (i:=6) (j:=10) rfl rfl scRooms66.nd rfl rfl rfl rfl) (Qf (Qp (i:=11) scRooms66.nd rfl (Or.inl rfl) (Qj Xh (Qo Qm (pv 0) (Qj Qs (Qj Qs (pv 1) Qd) (Qj Zr Qd (pv 6))) (fun _ _=>rfl)) Qd))
  (Qh (Xm (Zp PySem.F.plainAttrs_list PySem.F.slot_list_append PySem.F.type_list_append Xb (pv 5) (Qa (Xw (Qa Xa (Qa (pv 10) (Qa (pv 11) (Qa (Qj Xh (Qj Ya (Qo Qm (pv 0) (Qj Qs (Qj Qs (pv 1) Qd) (Qj Zr Qd (pv 6))) (fun _ _=>rfl)) Qd) (Qj Qs (pv 11) Qd)) Qe))))) Qe))))))
  (Qh (Qw (pv 5)))))),?_⟩
 refine Qmy ?_
 intro rT4 rT3 rT2
 have hz:(20000:Nat) < sizeLine:=by decide
 have lqm:(qs.map V.str).length=qs.length:=jX ..
 have ltm:(ts.map V.str).length=ts.length:=jX ..
 refine ⟨by show 0<=sizeLine;decide,fun g hg=>?_⟩
 have s0:=Qc hg (.lst [])
 have hg0:upd H g (.lst []) g=some (.lst []):=upd_same
 generalize upd H g (.lst [])=H0 at s0 hg0 ⊢
 let Pv5:Nat->St->Hp->Prop:=fun i σ H1=>∃ (v6 v7 v8 v9:Option V) (vs:List V) (B:List BR),σ=[some (.ref l),some (.int 0),some (.int n),some (.ref q),some (.ref t),some (.ref g),v6,v7,v8,v9,none,none]/\H1 g=some (.lst vs)/\RowsB H1 vs B/\ThOk n B/\((∀ r ∈ B,∀ s m f,r ≠ .store s m f)/\(∀ r ∈ B,∀ b m,r=.bench b m->b ∈ qs.take (i)))/\B.length<=3 * i/\Same H H1
 refine ⟨_,rfl,q,rfl,⟨_,s0.seq hq⟩,Ks (K:=K) (m:=true) (a:=q) (xs:=qs.map V.str) Pv5 ⟨none,none,none,none,[],[],rfl,hg0,.nil,⟨fun _ h=>(nomatch h),fun _ h=>(nomatch h),.nil⟩,⟨fun _ h=>(nomatch h),fun _ h=>(nomatch h)⟩,jXe _,s0⟩ (fun i σ H1 _ h=>?_) ?_ ?_⟩
 ·obtain ⟨v6,v7,v8,v9,vs,B,rfl,hg1,hB,hT,hc,hl,s1⟩:=h
  exact s1.seq hq
 ·rintro i x σ H1 T e1 ⟨v6,v7,v8,v9,vs,B,rfl,hg1,hB,hT,⟨hc1,hc2⟩,hl,s1⟩ hTn
  obtain ⟨b,eb,rfl⟩:=Ja e1
  have hi:i < qs.length:=(kK.mp eb).1
  have lv:=hB.length
  have sT:=Qc hTn (.tup [.int (i:Nat),.str b])
  refine ⟨T,_,rfl,Qu upd_same,rfl,_,_,rfl,_,_,rfl,rfl,?_⟩
  have s1':=s1.trans sT
  have hg1':=sT _ _ hg1
  have hB1':=hB.same sT
  generalize upd H1 T (.tup [.int (i:Nat),.str b])=H2 at s1' hg1' hB1' ⊢
  have hD2:=hD0.same s1'
  obtain ⟨z1,ez1,z10,z11⟩:=hD2.get (0 + 3 + (i:Int)) (by omega) (by omega)
  refine ⟨_,rfl,.inl ⟨rfl,_,Qb hg1'⟩,_,rfl,_,rfl,_,rfl,_,_,rfl,rfl,_,rfl,_,_,rfl,rfl,l,_,_,_,rfl,rfl,hD2.lst,ez1,_,_,rfl,rfl,(by show (0:Int) < _;decide +kernel),by show 3<=sizeLine;decide,fun p hp=>?_⟩
  have sp:=Qc hp (.lst [.str "bench",.str b,.int (z1 % 4)])
  have hp4:upd H2 p (.lst [.str "bench",.str b,.int (z1 % 4)]) p=some (.lst ((BR.bench b (z1 % 4)).cells.map kV)):=upd_same
  have s4:=s1'.trans sp
  have hg4:=sp _ _ hg1'
  have hB4:=hB1'.same sp
  generalize upd H2 p (.lst [.str "bench",.str b,.int (z1 % 4)])=H4 at hp4 s4 hg4 hB4 ⊢
  refine ⟨g,_,_,rfl,rfl,hg4,by omega,?_⟩
  have hB5:RowsB (upd H4 g (.lst (vs ++ [.ref p]))) (vs ++ [.ref p]) (B ++ [.bench b (z1 % 4)]):=(hB4.snoc hp4).updL hg4 hB.noRow
  have hg5:upd H4 g (.lst (vs ++ [.ref p])) g=some (.lst (vs ++ [.ref p])):=upd_same
  have s5:Same H (upd H4 g (.lst (vs ++ [.ref p]))):=fun c o e=>by rw [Qi (Qk e hg)];exact s4 _ _ e
  generalize upd H4 g (.lst (vs ++ [.ref p]))=H5 at hB5 hg5 s5 ⊢
  have hT5:ThOk n (B ++ [.bench b (z1 % 4)]):=hT.snoc ⟨by omega,by omega⟩ (.bench _ _) fun r hr=>Qca (hT.th r hr) fun b' m' e=>Zk nq eb (hc2 r hr b' m' e)
  have hD5:=hD0.same s5
  obtain ⟨z2,ez2,z20,z21⟩:=hD5.get (0 + 5 + (i:Int)) (by omega) (by omega)
  obtain ⟨z3,ez3,z30,z31⟩:=hD5.get (0 + 39 + (i:Int)) (by omega) (by omega)
  refine ⟨_,rfl,_,rfl,_,_,rfl,rfl,_,rfl,_,_,rfl,rfl,l,_,_,_,rfl,rfl,hD5.lst,ez2,_,rfl,_,rfl,_,_,rfl,rfl,_,rfl,_,_,rfl,rfl,l,_,_,_,rfl,rfl,hD5.lst,ez3,by show 2<=sizeLine;decide,fun d2 hd2=>?_⟩
  have sd:=Qc hd2 (.lst [.int z2,.int z3])
  have hd6:upd H5 d2 (.lst [.int z2,.int z3]) d2=some (.lst [.int z2,.int z3]):=upd_same
  have nd:g ≠ d2:=Qk hg5 hd2
  have s6:=s5.trans sd
  have hg6:=sd _ _ hg5
  have hB6:=hB5.same sd
  generalize upd H5 d2 (.lst [.int z2,.int z3])=H6 at hd6 s6 hg6 hB6 ⊢
  let Pv6:Nat->St->Hp->Prop:=fun j σ H1=>(H1 d2=some (.lst [.int z2,.int z3]))/\∃ (v8 v9:Option V) (vs:List V) (B:List BR),σ=[some (.ref l),some (.int 0),some (.int n),some (.ref q),some (.ref t),some (.ref g),some (.int (i:Nat)),some (.str b),v8,v9,none,none]/\H1 g=some (.lst vs)/\RowsB H1 vs B/\ThOk n B/\((∀ r ∈ B,∀ s m f,r ≠ .store s m f)/\(∀ r ∈ B,∀ b m,r=.bench b m->b ∈ qs.take (i + 1)))/\B.length<=3 * i + 1 + j/\Same H H1
  refine ⟨d2,rfl,⟨_,Qb hd6⟩,Xq (K:=K) (a:=d2) (xs:=[.int z2,.int z3]) Pv6 ⟨hd6,_,_,_,_,rfl,hg6,hB6,hT5,⟨fun r hr=>?_,fun r hr=>?_⟩,by rw [jY];show B.length + 1<=_;omega,s6⟩ (fun j σ H1 _ h=>Qb h.1) ?_ ?_⟩
  ·rcases zQ.mp hr with h | h
   ·exact hc1 r h
   ·rw [jZ.mp h];exact fun _ _ _ z=>nomatch z
  ·intro b' m' e
   rcases zQ.mp hr with h | h
   ·exact Yk eb (hc2 r h b' m' e)
   ·rw [jZ.mp h] at e;cases e;exact Yn eb
  ·rintro j x σ H7 e7 ⟨hd7,v8,v9,vs7,B7,rfl,hg7,hB7,hT7,⟨hc71,hc72⟩,hl7,s7⟩
   have hj:j < 2:=(kK.mp e7).1
   obtain ⟨z,rfl,z0⟩:∃ z:Int,x=.int z/\0<=z:=by
    rcases yX.mp (kX e7) with h | h
    ·exact ⟨z2,h,z20⟩
    ·exact ⟨z3,jZ.mp h,z30⟩
   have lv7:=hB7.length
   have e0:=zJ z (show n ≠ 0 by omega)
   have e1':=zY z (show 0 < n by omega)
   refine ⟨_,rfl,_,rfl,_,_,rfl,rfl,by omega,?_⟩
   refine ⟨_,rfl,_,_,rfl,rfl,⟨by decide,by decide⟩,_,_,rfl,rfl,(by show (0:Int) < _;decide +kernel),rfl,_,rfl,ite2 (fun _=>?_) (fun _=>⟨hd7,_,_,vs7,B7,rfl,hg7,hB7,hT7,⟨hc71,hc72⟩,by omega,s7⟩)⟩
   refine ⟨_,rfl,.inl ⟨rfl,_,Qb hg7⟩,_,rfl,_,rfl,_,rfl,_,_,rfl,rfl,_,rfl,_,_,rfl,rfl,⟨by decide,by decide⟩,_,rfl,_,rfl,_,_,rfl,rfl,_,_,rfl,rfl,by omega,_,_,rfl,rfl,by show 4<=sizeLine;decide,fun p7 hp7=>?_⟩
   have f0:=zJ (z / 48) (show n - z % n ≠ 0 by omega)
   have f1:=zY (z / 48) (show 0 < n - z % n by omega)
   have sp7:=Qc hp7 (.lst [.str "shut",.str b,.int (z % n),.int (z % n + 1 + z / 48 % (n - z % n))])
   have hp8:upd H7 p7 (.lst [.str "shut",.str b,.int (z % n),.int (z % n + 1 + z / 48 % (n - z % n))]) p7=some (.lst ((BR.shut b (z % n) (z % n + 1 + z / 48 % (n - z % n))).cells.map kV)):=upd_same
   have s8:=s7.trans sp7
   have hg8:=sp7 _ _ hg7
   have hd8:=sp7 _ _ hd7
   have hB8:=hB7.same sp7
   generalize upd H7 p7 (.lst [.str "shut",.str b,.int (z % n),.int (z % n + 1 + z / 48 % (n - z % n))])=H8 at hp8 s8 hg8 hd8 hB8 ⊢
   have hT8:ThOk n (B7 ++ [.shut b (z % n) (z % n + 1 + z / 48 % (n - z % n))]):=hT7.snoc ⟨e0,by omega,by omega⟩ (.shut _ _ _) (fun r hr=>.inr (.inl rfl))
   refine ⟨g,_,_,rfl,rfl,hg8,by omega,by rw [Qi (Ne.symm nd)];exact hd8,_,_,_,B7 ++ [.shut b (z % n) (z % n + 1 + z / 48 % (n - z % n))],rfl,upd_same,(hB8.snoc hp8).updL hg8 hB7.noRow,hT8,⟨fun r hr=>?_,fun r hr=>?_⟩,by rw [jY];show B7.length + 1<=_;omega,fun c o e=>?_⟩
   ·rcases zQ.mp hr with h | h
    ·exact hc71 r h
    ·rw [jZ.mp h];exact fun _ _ _ z=>nomatch z
   ·intro b' m' e
    rcases zQ.mp hr with h | h
    ·exact hc72 r h b' m' e
    ·rw [jZ.mp h] at e;cases e
   ·rw [Qi (Qk e hg)];exact s8 _ _ e
  ·rintro σ H7 ⟨hd7,v8,v9,vs7,B7,rfl,hg7,hB7,hT7,hc7,hl7,s7⟩
   exact ⟨_,_,_,_,vs7,B7,rfl,hg7,hB7,hT7,hc7,by have h2:B7.length<=3 * i + 1 + 2:=hl7;omega,s7⟩
 rintro σ H1 ⟨v6,v7,v8,v9,vs,B,rfl,hg1,hB,hT,⟨hc1,hc2⟩,hl,s1⟩
 rw [lqm] at hl
 let Pv7:Nat->St->Hp->Prop:=fun i σ H1=>∃ (v6 v10 v11:Option V) (vs:List V) (B:List BR),σ=[some (.ref l),some (.int 0),some (.int n),some (.ref q),some (.ref t),some (.ref g),v6,v7,v8,v9,v10,v11]/\H1 g=some (.lst vs)/\RowsB H1 vs B/\ThOk n B/\((∀ r ∈ B,∀ s m f,r=.store s m f->s ∈ ts.take i))/\B.length<=6 + i/\Same H H1
 refine ⟨_,rfl,t,rfl,⟨_,s1.seq ht⟩,Ks (K:=K) (m:=true) (a:=t) (xs:=ts.map V.str) Pv7 ⟨v6,none,none,vs,B,rfl,hg1,hB,hT,fun r hr s m f e=>absurd e (hc1 r hr s m f),by omega,s1⟩ (fun i σ H1 _ h=>?_) ?_ ?_⟩
 ·obtain ⟨v6,v10,v11,vs,B,rfl,hg1,hB,hT,hc,hl,s1⟩:=h
  exact s1.seq ht
 ·rintro i x σ H1 T e1 ⟨v6,v10,v11,vs,B,rfl,hg1,hB,hT,hc,hl,s1⟩ hTn
  obtain ⟨b,eb,rfl⟩:=Ja e1
  have hi:i < ts.length:=(kK.mp eb).1
  have lv:=hB.length
  have sT:=Qc hTn (.tup [.int (i:Nat),.str b])
  refine ⟨T,_,rfl,Qu upd_same,rfl,_,_,rfl,_,_,rfl,rfl,?_⟩
  have s1':=s1.trans sT
  have hg1':=sT _ _ hg1
  have hB1':=hB.same sT
  generalize upd H1 T (.tup [.int (i:Nat),.str b])=H2 at s1' hg1' hB1' ⊢
  have hD2:=hD0.same s1'
  obtain ⟨z1,ez1,z10,z11⟩:=hD2.get (0 + 9 + 32 * (i:Int)) (by omega) (by omega)
  refine ⟨_,rfl,_,rfl,_,_,rfl,rfl,_,rfl,_,_,rfl,rfl,.inl ⟨by decide,by decide⟩,_,_,rfl,rfl,l,_,_,_,rfl,rfl,hD2.lst,ez1,_,_,rfl,rfl,(by show (0:Int) < _;decide +kernel),?_⟩
  have e0:=zJ z1 (show (5:Int) ≠ 0 by decide)
  have e1':=zY z1 (show (0:Int) < 5 by decide)
  refine ⟨_,rfl,.inl ⟨rfl,_,Qb hg1'⟩,_,rfl,_,rfl,_,rfl,_,rfl,_,_,rfl,rfl,_,rfl,_,_,rfl,rfl,.inl ⟨by decide,by decide⟩,_,_,rfl,rfl,l,_,_,_,rfl,rfl,hD2.lst,ez1,_,_,rfl,rfl,⟨by decide,by decide⟩,_,rfl,_,_,rfl,rfl,_,_,rfl,rfl,by omega,by show 4<=sizeLine;decide,fun p hp=>?_⟩
  have f0:=zJ (z1 / 5) (show z1 % 5 + 1 ≠ 0 by omega)
  have f1:=zY (z1 / 5) (show 0 < z1 % 5 + 1 by omega)
  have sp:=Qc hp (.lst [.str "store",.str b,.int (z1 % 5),.int (z1 / 5 % (z1 % 5 + 1))])
  have hp4:upd H2 p (.lst [.str "store",.str b,.int (z1 % 5),.int (z1 / 5 % (z1 % 5 + 1))]) p=some (.lst ((BR.store b (z1 % 5) (z1 / 5 % (z1 % 5 + 1))).cells.map kV)):=upd_same
  have s4:=s1'.trans sp
  have hg4:=sp _ _ hg1'
  have hB4:=hB1'.same sp
  generalize upd H2 p (.lst [.str "store",.str b,.int (z1 % 5),.int (z1 / 5 % (z1 % 5 + 1))])=H4 at hp4 s4 hg4 hB4 ⊢
  have hT4:ThOk n (B ++ [.store b (z1 % 5) (z1 / 5 % (z1 % 5 + 1))]):=hT.snoc ⟨f0,by omega,by omega⟩ (.store _ _ _) (fun r hr=>Qcb (hT.th r hr) fun s' m' f' e=>Zk nt eb (hc r hr s' m' f' e))
  refine ⟨g,_,_,rfl,rfl,hg4,by omega,_,_,_,_,B ++ [.store b (z1 % 5) (z1 / 5 % (z1 % 5 + 1))],rfl,upd_same,(hB4.snoc hp4).updL hg4 hB.noRow,hT4,fun r hr=>?_,by rw [jY];show B.length + 1<=_;omega,fun c o e=>?_⟩
  ·intro s' m' f' e
   rcases zQ.mp hr with h | h
   ·exact Yk eb (hc r h s' m' f' e)
   ·rw [jZ.mp h] at e;cases e;exact Yn eb
  ·rw [Qi (Qk e hg)];exact s4 _ _ e
 ·rintro σ H1 ⟨v6,v10,v11,vs,B,rfl,hg1,hB,hT,hc,hl,s1⟩
  rw [ltm] at hl
  exact ⟨_,rfl,qq g vs B H1 s1 hg hg1 hB hT (by omega)⟩
abbrev Qgm:Stmt:=top 40
theorem bind7 {F:List Value->Prop} (h:∀ a b c d e f g,F [a,b,c,d,e,f,g]):∀ us:List Value,us.length=7->F us:=fun us hl=>by
 match us,hl with
 | [a,b,c,d,e,f,g],_=>exact h a b c d e f g
theorem Ku {k k':Fin 3} (h:useW k=useW k'):k=k':=by
 match k,k',h with
 | 0,0,_=>rfl
 | 1,1,_=>rfl
 | 2,2,_=>rfl
 | 0,1,z=>exact absurd z (by decide +kernel)
 | 0,2,z=>exact absurd z (by decide +kernel)
 | 1,0,z=>exact absurd z (by decide +kernel)
 | 1,2,z=>exact absurd z (by decide +kernel)
 | 2,0,z=>exact absurd z (by decide +kernel)
 | 2,1,z=>exact absurd z (by decide +kernel)
theorem Qfe {w v t t':Str} {k k':Fin 3} {m m':Int} (h:k'=k->t' ≠ t):Apart (.use k' w v t' m') (.use k w v t m):=by
 refine .inr (.inr fun z=>?_)
 have z':[(Sum.inr (useW k'):Key),Sum.inr w,Sum.inr v,Sum.inr t']=[Sum.inr (useW k),Sum.inr w,Sum.inr v,Sum.inr t]:=z
 injection z' with z1 z2
 injection z2 with _ z3
 injection z3 with _ z4
 injection z4 with z5
 injection z5 with z6
 injection z1 with z7
 exact h (Ku z7) z6
theorem Qff {w v w' v' t:Str} {l c m:Int} {k:Fin 3}:Apart (.way w v l c) (.use k w' v' t m):=Jd (by show (5:Nat) ≠ 6 + k.val;omega)
structure WayTo (n:Int) (w v:Str) (qs ts:List Str) (i j:Nat) (R:List BR):Prop where
 hd:∃ l c U,R=.way w v l c :: U/\1<=l/\l<=n/\0<=c/\c<=999999/\∀ r ∈ U,∃ k t m,r=.use k w v t m/\1<=m/\m<=99/\((k=0/\t ∈ qs.take i)\/(k ≠ 0/\t ∈ ts.take j))
 nd:R.Pairwise Apart
theorem WayTo.put {n:Int} {w v t:Str} {qs ts:List Str} {i j i' j':Nat} {R:List BR} {k:Fin 3} {m:Int} (h:WayTo n w v qs ts i j R) (m1:1<=m) (m2:m<=99) (hi:∀ x ∈ qs.take i,x ∈ qs.take i') (hj:∀ x ∈ ts.take j,x ∈ ts.take j') (hk:(k=0/\t ∈ qs.take i')\/(k ≠ 0/\t ∈ ts.take j'))
  (na:∀ k' t' m',BR.use k' w v t' m' ∈ R->k'=k->t' ≠ t):WayTo n w v qs ts i' j' (R ++ [.use k w v t m]):=by
 obtain ⟨l,c,U,rfl,l1,l2,c1,c2,hU⟩:=h.hd
 refine ⟨⟨l,c,U ++ [.use k w v t m],rfl,l1,l2,c1,c2,fun r hr=>?_⟩,kXf.mpr ⟨h.nd,jJc _ _,fun r hr x hx=>?_⟩⟩
 ·rcases zQ.mp hr with z | z
  ·obtain ⟨k',t',m',e,a,b,d⟩:=hU r z
   exact ⟨k',t',m',e,a,b,d.imp (fun y=>⟨y.1,hi _ y.2⟩) (fun y=>⟨y.1,hj _ y.2⟩)⟩
  ·exact ⟨k,t,m,jZ.mp z,m1,m2,hk⟩
 ·rw [jZ.mp hx]
  rcases yX.mp hr with z | z
  ·rw [z];exact Qff
  ·obtain ⟨k',t',m',rfl,_⟩:=hU r z
   exact Qfe (na k' t' m' hr)
theorem WayTo.more {n:Int} {w v:Str} {qs ts:List Str} {i j i' j':Nat} {R:List BR} (h:WayTo n w v qs ts i j R) (hi:∀ x ∈ qs.take i,x ∈ qs.take i') (hj:∀ x ∈ ts.take j,x ∈ ts.take j'):WayTo n w v qs ts i' j' R:=by
 obtain ⟨l,c,U,rfl,l1,l2,c1,c2,hU⟩:=h.hd
 exact ⟨⟨l,c,U,rfl,l1,l2,c1,c2,fun r hr=>let ⟨k',t',m',e,a,b,d⟩:=hU r hr;⟨k',t',m',e,a,b,d.imp (fun y=>⟨y.1,hi _ y.2⟩) (fun y=>⟨y.1,hj _ y.2⟩)⟩⟩,h.nd⟩
theorem WayTo.of {n:Int} {w v:Str} {qs ts:List Str} {i j:Nat} {R:List BR} (h:WayTo n w v qs ts i j R) {k:Fin 3} {t:Str} {m:Int} (hm:BR.use k w v t m ∈ R):(k=0/\t ∈ qs.take i)\/(k ≠ 0/\t ∈ ts.take j):=by
 obtain ⟨l,c,U,rfl,l1,l2,c1,c2,hU⟩:=h.hd
 rcases yX.mp hm with z | z
 ·cases z
 ·obtain ⟨k',t',m',e,_,_,d⟩:=hU _ z
  cases e;exact d
def Qkr (K:Fg):Sp:=fun vs H Q _=>∃ (l q t:Addr) (ds:List Int) (at_ j n:Int) (w:Str) (qs ts:List Str),vs=[.ref l,.int at_,.str w,.int j,.int n,.ref q,.ref t]/\Dr K H l ds/\0<=j/\j<=100/\3 * j<=at_/\at_ + 2 < (ds.length:Int)/\1<=n/\n<=12/\SqL K H q (qs.map V.str)/\SqL K H t (ts.map V.str)/\qs.length<=2/\ts.length<=2/\qs.Nodup/\ts.Nodup /\
 ∀ (g:Addr) (vs:List V) (R:List BR) (v:Str) (H':Hp),Same H H'->H g=none->H' g=some (.lst vs)->RowsB H' vs R->(∀ z,atI (ds.map V.int) (at_ - 3 * j)=some (.int z)->fl v=97 + ((z + 3 * j) % 26).toNat)->v.length<=12->WayTo n w v qs ts qs.length ts.length R->R.length<=7->Q (.ref g) H'
theorem scWay66:FnScope ["_law_draws_here","_law_at","_law_work","_law_j","_law_days","_law_quays","_law_stocks","_law_way_here","_law_number","_law_found","_law_k","_law_bench","_law_uses","_law_store"] ["_law_draws_here","_law_at","_law_work","_law_j","_law_days","_law_quays","_law_stocks"] (Qg Qgm):=⟨rfl,rfl,rfl,by decide +kernel,rfl,by decide +kernel,by decide +kernel⟩
theorem Qql (F:Fn K mg "_law_way" Qgm) (M:Mg mg) (cl_name:Cal P w K mg base 1 "_law_name" ["_law_k","_law_number"] (Qbz)):Cal P w K mg base 2 "_law_way" ["_law_draws_here","_law_at","_law_work","_law_j","_law_days","_law_quays","_law_stocks"] (Qkr K):=by
 refine Xi F scWay66 (fun _ _ _ _ _ _=>bind7 (fun _ _ _ _ _ _ _=>rfl)) (fun vs H Q E h=>?_) (fun f cdv A outer s H vs Q E hr h=>?_)
 ·obtain ⟨l,q,t,ds,at_,j,n,w0,qs,ts,rfl,_⟩:=h
  rfl
 obtain ⟨l,q,t,ds,at_,j,n,w0,qs,ts,rfl,hD0,j0,j1,aj,al,n1,n12,hq,ht,lq,lt,nq,nt,qq⟩:=h
 refine ⟨_,(Qf (Qp (i:=7) scWay66.nd rfl (Or.inl rfl) (Xj cl_name (hr.mono (by decide)) (Qa (Qj Zr Qd (pv 3)) (Qa (Qo Qm (pv 0) (Qj Kl (pv 1) (Qj Zr Qd (pv 3))) (fun _ _=>rfl)) Qe))))
  (Qf (Qp (i:=8) scWay66.nd rfl (Or.inl rfl) (Qo Qm (pv 0) (Qj Qs (pv 1) Qd) (fun _ _=>rfl)))
  (Qf (Qp (i:=9) scWay66.nd rfl (Or.inl rfl) (Xw (Qa (Xw (Qa Xa (Qa (pv 2) (Qa (pv 7) (Qa (Qj Qs Qd (Qj Xh (pv 8) (Qy (Jn rfl) rfl M.min Qdh (Qa (pv 4) (Qa Qd Qe))))) (Qa (Qj Xh (Qj Ya (pv 8) Qd) Qd) Qe)))))) Qe)))
  (Qf (Xe PassesOwn.never rfl (Ww true rfl M.enumerate_ (Qa (pv 5) Qe)) (Jh (K:=K) (i:=10) (j:=11) rfl rfl scWay66.nd rfl rfl rfl rfl) (Qf (Qp (i:=12) scWay66.nd rfl (Or.inl rfl) (Qo Qm (Xw (Qa (Qo Qm (pv 0) (Qj Qs (pv 1) Qd) (fun _ _=>rfl)) (Qa (Qj Ya (Qo Qm (pv 0) (Qj Qs (pv 1) Qd) (fun _ _=>rfl)) Qd) Qe))) (pv 10) (fun _ _=>rfl)))
  (Qh (Yg (Qn Yb (Qj Xh (pv 12) Qd) Qd (Qq _)) (Qh (Xm (Zp PySem.F.plainAttrs_list PySem.F.slot_list_append PySem.F.type_list_append Xb (pv 9) (Qa (Xw (Qa Xa (Qa (pv 2) (Qa (pv 7) (Qa (pv 11) (Qa (Qj Qs Qd (Qj Xh (Qj Ya (pv 12) Qd) Qd)) Qe)))))) Qe)))) Qz))))
  (Qf (Qp (i:=8) scWay66.nd rfl (Or.inl rfl) (Qj Ya (Qo Qm (pv 0) (Qj Qs (pv 1) Qd) (fun _ _=>rfl)) Qd))
  (Qf (Xe PassesOwn.never rfl (Qt (pv 6)) (Ql (i:=13) scWay66.nd rfl (Or.inl rfl) (Or.inl rfl)) (Qf (Yg (Qn Yb (Qj Xh (pv 8) Qd) Qd (Qq _)) (Qh (Xm (Zp PySem.F.plainAttrs_list PySem.F.slot_list_append PySem.F.type_list_append Xb (pv 9) (Qa (Xw (Qa Xa (Qa (pv 2) (Qa (pv 7) (Qa (pv 13) (Qa (Qj Qs Qd (Qj Xh (Qj Ya (pv 8) Qd) Qd)) Qe)))))) Qe)))) Qz)
  (Qf (Yg (Qn Yb (Qj Xh (Qj Ya (pv 8) Qd) Qd) Qd (Qq _)) (Qh (Xm (Zp PySem.F.plainAttrs_list PySem.F.slot_list_append PySem.F.type_list_append Xb (pv 9) (Qa (Xw (Qa Xa (Qa (pv 2) (Qa (pv 7) (Qa (pv 13) (Qa (Qj Qs Qd (Qj Xh (Qj Ya (pv 8) Qd) Qd)) Qe)))))) Qe)))) Qz)
  (Qh (Qp (i:=8) scWay66.nd rfl (Or.inl rfl) (Qj Ya (pv 8) Qd))))))
  (Qh (Qw (pv 9))))))))),?_⟩
 have hz:(20000:Nat) < sizeLine:=by decide
 have lqm:(qs.map V.str).length=qs.length:=jX ..
 have ltm:(ts.map V.str).length=ts.length:=jX ..
 obtain ⟨z0,ez0,z00,z01⟩:=hD0.get (at_ - 3 * j) (by omega) (by omega)
 obtain ⟨z1,ez1,z10,z11⟩:=hD0.get (at_ + 1) (by omega) (by omega)
 obtain ⟨z2,ez2,z20,z21⟩:=hD0.get (at_ + 2) (by omega) (by omega)
 refine ⟨_,rfl,_,_,rfl,rfl,.inl ⟨by decide,by decide⟩,_,rfl,_,rfl,_,rfl,_,_,rfl,rfl,.inl ⟨by decide,by decide⟩,_,_,rfl,rfl,l,_,_,_,rfl,rfl,hD0.lst,ez0,_,_,rfl,fun v hv hvl=>?_⟩
 refine ⟨_,rfl,_,rfl,_,_,rfl,rfl,l,_,_,_,rfl,rfl,hD0.lst,ez1,?_⟩
 have pm:(0:Int) < (if 3 < n then 3 else n):=by split <;> omega
 have pn:(if 3 < n then 3 else n)<=n:=by split <;> omega
 have k0:=zJ z1 (Int.ne_of_gt pm)
 have k1:=zY z1 pm
 have k2:=zJ (z1 / 3) (show (20:Int) ≠ 0 by decide)
 have k3:=zY (z1 / 3) (show (0:Int) < 20 by decide)
 refine ⟨_,rfl,_,rfl,_,rfl,_,rfl,_,_,rfl,_,_,rfl,rfl,pm,_,_,rfl,rfl,_,rfl,_,_,rfl,rfl,⟨by decide,by decide⟩,_,_,rfl,rfl,(by show (0:Int) < _;decide +kernel),by show 5<=sizeLine;decide,fun p hp=>⟨by show 1<=sizeLine;decide,fun g hg=>?_⟩⟩
 generalize z1 % (if 3 < n then 3 else n)=ll at k0 k1 hp hg ⊢
 have sp:=Qc hp (.lst [.str "way",.str w0,.str v,.int (1 + ll),.int (z1 / 3 % 20)])
 have nG:H g=none:=by
  cases e:H g with
  | none=>rfl
  | some o=>rw [sp _ _ e] at hg;cases hg
 have sg:=Qc hg (.lst [.ref p])
 have hp0:=sg _ _ (upd_same (H:=H) (a:=p) (o:=.lst ((BR.way w0 v (1 + ll) (z1 / 3 % 20)).cells.map kV)))
 have s0:=sp.trans sg
 have hg0:upd (upd H p (.lst [.str "way",.str w0,.str v,.int (1 + ll),.int (z1 / 3 % 20)])) g (.lst [.ref p]) g=some (.lst [.ref p]):=upd_same
 have hB0:RowsB (upd (upd H p (.lst [.str "way",.str w0,.str v,.int (1 + ll),.int (z1 / 3 % 20)])) g (.lst [.ref p])) [.ref p] [.way w0 v (1 + ll) (z1 / 3 % 20)]:=RowsB.snoc (vs:=[]) (B:=[]) .nil hp0
 generalize upd (upd H p (.lst [.str "way",.str w0,.str v,.int (1 + ll),.int (z1 / 3 % 20)])) g (.lst [.ref p])=H0 at s0 hg0 hB0 ⊢
 have W0:WayTo n w0 v qs ts 0 0 [.way w0 v (1 + ll) (z1 / 3 % 20)]:=⟨⟨_,_,[],rfl,by omega,by omega,by omega,by omega,fun _ h=>(nomatch h)⟩,jJc _ _⟩
 let Pv8:Nat->St->Hp->Prop:=fun i σ H1=>∃ (v10 v11 v12:Option V) (vs:List V) (B:List BR),σ=[some (.ref l),some (.int at_),some (.str w0),some (.int j),some (.int n),some (.ref q),some (.ref t),some (.str v),some (.int z1),some (.ref g),v10,v11,v12,none]/\H1 g=some (.lst vs)/\RowsB H1 vs B/\WayTo n w0 v qs ts i 0 B/\B.length<=1 + i/\Same H H1
 refine ⟨_,rfl,q,rfl,⟨_,s0.seq hq⟩,Ks (K:=K) (m:=true) (a:=q) (xs:=qs.map V.str) Pv8 ⟨none,none,none,_,_,rfl,hg0,hB0,W0,jK _,s0⟩ (fun i σ H1 _ h=>?_) ?_ ?_⟩
 ·obtain ⟨v10,v11,v12,vs,B,rfl,hg1,hB,hW,hl,s1⟩:=h
  exact s1.seq hq
 ·rintro i x σ H1 T e1 ⟨v10,v11,v12,vs,B,rfl,hg1,hB,hW,hl,s1⟩ hTn
  obtain ⟨b,eb,rfl⟩:=Ja e1
  have hi:i < qs.length:=(kK.mp eb).1
  have lv:=hB.length
  have sT:=Qc hTn (.tup [.int (i:Nat),.str b])
  refine ⟨T,_,rfl,Qu upd_same,rfl,_,_,rfl,_,_,rfl,rfl,?_⟩
  have s2:=s1.trans sT
  have hg2:=sT _ _ hg1
  have hB2:=hB.same sT
  generalize upd H1 T (.tup [.int (i:Nat),.str b])=H2 at s2 hg2 hB2 ⊢
  have hD2:=hD0.same s2
  refine ⟨_,rfl,_,rfl,_,_,rfl,rfl,l,_,_,_,rfl,rfl,hD2.lst,ez2,_,rfl,_,rfl,_,_,rfl,rfl,l,_,_,_,rfl,rfl,hD2.lst,ez1,_,_,rfl,rfl,⟨by decide,by decide⟩,by show 2<=sizeLine;decide,fun d hd=>?_⟩
  obtain ⟨us,eu,u0⟩:∃ us:Int,atI [V.int z2,V.int (z1 / 60)] ((i:Nat):Int)=some (.int us)/\0<=us:=by
   rcases (show i=0\/i=1 by omega) with e | e
   ·subst e;exact ⟨z2,rfl,z20⟩
   ·subst e;exact ⟨z1 / 60,rfl,by omega⟩
  have sd:=Qc hd (.lst [.int z2,.int (z1 / 60)])
  have s3:=s2.trans sd
  have hg3:=sd _ _ hg2
  have hB3:=hB2.same sd
  refine ⟨_,rfl,d,_,_,_,rfl,rfl,Qb upd_same,eu,?_⟩
  generalize upd H2 d (.lst [.int z2,.int (z1 / 60)])=H3 at s3 hg3 hB3 ⊢
  refine ⟨_,rfl,_,_,rfl,rfl,(by show (0:Int) < _;decide +kernel),rfl,_,rfl,ite2 (fun _=>?_) (fun _=>⟨_,_,_,vs,B,rfl,hg3,hB3,hW.more (fun x hx=>Yk eb hx) (fun x hx=>hx),by omega,s3⟩)⟩
  refine ⟨_,rfl,.inl ⟨rfl,_,Qb hg3⟩,_,rfl,_,rfl,_,rfl,_,rfl,_,_,rfl,rfl,⟨by decide,by decide⟩,_,_,rfl,rfl,(by show (0:Int) < _;decide +kernel),_,_,rfl,rfl,by show 5<=sizeLine;decide,fun p4 hp4=>?_⟩
  have f0:=zJ (us / 2) (show (3:Int) ≠ 0 by decide)
  have f1:=zY (us / 2) (show (0:Int) < 3 by decide)
  have sp4:=Qc hp4 (.lst [.str "uses",.str w0,.str v,.str b,.int (1 + us / 2 % 3)])
  have hp4':upd H3 p4 (.lst [.str "uses",.str w0,.str v,.str b,.int (1 + us / 2 % 3)]) p4=some (.lst ((BR.use 0 w0 v b (1 + us / 2 % 3)).cells.map kV)):=upd_same
  have s4':=(s3).trans sp4
  have hg4:=sp4 _ _ hg3
  have hB4:=(hB3).same sp4
  generalize upd H3 p4 (.lst [.str "uses",.str w0,.str v,.str b,.int (1 + us / 2 % 3)])=H4 at hp4' s4' hg4 hB4 ⊢
  refine ⟨g,_,_,rfl,rfl,hg4,by omega,_,_,_,_,_,rfl,upd_same,(hB4.snoc hp4').updL hg4 hB.noRow,hW.put (by omega) (by omega) (fun x hx=>Yk eb hx) (fun x hx=>hx) (.inl ⟨rfl,Yn eb⟩) (fun k' t' m' hm ek=>?_),by rw [jY];show B.length + 1<=_;omega,fun c o e=>?_⟩
  ·rcases hW.of hm with ⟨_,y⟩ | ⟨y,_⟩
   ·exact Zk nq eb y
   ·exact absurd ek y
  ·rw [Qi (Qk e nG)];exact s4' _ _ e
 rintro σ H1 ⟨v10,v11,v12,vs,B,rfl,hg1,hB,hW,hl,s1⟩
 rw [lqm] at hW hl
 refine ⟨_,rfl,_,rfl,_,_,rfl,rfl,l,_,_,_,rfl,rfl,(hD0.same s1).lst,ez2,_,_,rfl,rfl,⟨by decide,by decide⟩,?_⟩
 let Pv9:Nat->St->Hp->Prop:=fun i σ H1=>∃ (zz:Int) (v13:Option V) (vs:List V) (B:List BR),σ=[some (.ref l),some (.int at_),some (.str w0),some (.int j),some (.int n),some (.ref q),some (.ref t),some (.str v),some (.int zz),some (.ref g),v10,v11,v12,v13]/\0<=zz/\H1 g=some (.lst vs)/\RowsB H1 vs B/\WayTo n w0 v qs ts qs.length i B/\B.length<=3 + 2 * i/\Same H H1
 refine ⟨_,rfl,t,rfl,⟨_,s1.seq ht⟩,Xq (K:=K) (a:=t) (xs:=ts.map V.str) Pv9 ⟨z2 / 4,none,vs,B,rfl,by omega,hg1,hB,hW,by omega,s1⟩ (fun i σ H1 _ h=>?_) ?_ ?_⟩
 ·obtain ⟨zz,v13,vs,B,rfl,zz0,hg1,hB,hW,hl,s1⟩:=h
  exact s1.seq ht
 ·rintro i x σ H1 e1 ⟨zz,v13,vs,B,rfl,zz0,hg1,hB,hW,hl,s1⟩
  obtain ⟨b,eb,rfl⟩:=Ja e1
  have hi:i < ts.length:=(kK.mp eb).1
  have lv:=hB.length
  show tSeq _ _ _ _ _
  refine Wz (fun σ' H2=>∃ (vs:List V) (B:List BR),σ'=[some (.ref l),some (.int at_),some (.str w0),some (.int j),some (.int n),some (.ref q),some (.ref t),some (.str v),some (.int zz),some (.ref g),v10,v11,v12,some (.str b)]/\H2 g=some (.lst vs)/\RowsB H2 vs B/\WayTo n w0 v qs ts qs.length (i + 1) B/\(∀ m,BR.use 2 w0 v b m ∉ B)/\B.length<=4 + 2 * i/\Same H H2) ?_ fun REST=>?_
  ·rintro σ' H2 ⟨vs2,B2,rfl,hg2,hB2,hW2,hn2,hl2,s2⟩
   have lv2:=hB2.length
   refine Wz (fun σ' H3=>∃ (vs:List V) (B:List BR),σ'=[some (.ref l),some (.int at_),some (.str w0),some (.int j),some (.int n),some (.ref q),some (.ref t),some (.str v),some (.int zz),some (.ref g),v10,v11,v12,some (.str b)]/\H3 g=some (.lst vs)/\RowsB H3 vs B/\WayTo n w0 v qs ts qs.length (i + 1) B/\B.length<=5 + 2 * i/\Same H H3) ?_ fun REST2=>?_
   ·rintro σ' H3 ⟨vs3,B3,rfl,hg3,hB3,hW3,hl3,s3⟩
    exact ⟨_,rfl,_,_,rfl,rfl,⟨by decide,by decide⟩,_,_,vs3,B3,rfl,by omega,hg3,hB3,hW3,by omega,s3⟩
   ·refine ⟨_,rfl,_,_,rfl,rfl,⟨by decide,by decide⟩,_,_,rfl,rfl,(by show (0:Int) < _;decide +kernel),rfl,_,rfl,ite2 (fun _=>?_) (fun _=>REST2 _ _ ⟨vs2,B2,rfl,hg2,hB2,hW2,by omega,s2⟩)⟩
    refine ⟨_,rfl,.inl ⟨rfl,_,Qb hg2⟩,_,rfl,_,rfl,_,rfl,_,rfl,_,_,rfl,rfl,⟨by decide,by decide⟩,_,_,rfl,rfl,(by show (0:Int) < _;decide +kernel),_,_,rfl,rfl,by show 5<=sizeLine;decide,fun p4 hp4=>?_⟩
    have f0:=zJ (zz / 12) (show (3:Int) ≠ 0 by decide)
    have f1:=zY (zz / 12) (show (0:Int) < 3 by decide)
    have sp4:=Qc hp4 (.lst [.str "gives",.str w0,.str v,.str b,.int (1 + zz / 12 % 3)])
    have hp4':upd H2 p4 (.lst [.str "gives",.str w0,.str v,.str b,.int (1 + zz / 12 % 3)]) p4=some (.lst ((BR.use 2 w0 v b (1 + zz / 12 % 3)).cells.map kV)):=upd_same
    have s4':=(s2).trans sp4
    have hg4:=sp4 _ _ hg2
    have hB4:=(hB2).same sp4
    generalize upd H2 p4 (.lst [.str "gives",.str w0,.str v,.str b,.int (1 + zz / 12 % 3)])=H4 at hp4' s4' hg4 hB4 ⊢
    refine ⟨g,_,_,rfl,rfl,hg4,by omega,REST2 _ _ ⟨_,_,rfl,upd_same,(hB4.snoc hp4').updL hg4 hB2.noRow,hW2.put (by omega) (by omega) (fun x hx=>hx) (fun x hx=>hx) (.inr ⟨by decide,Yn eb⟩) (fun k' t' m' hm ek=>?_),by rw [jY];show B2.length + 1<=_;omega,fun c o e=>?_⟩⟩
    ·subst ek
     rintro rfl
     exact hn2 _ hm
    ·rw [Qi (Qk e nG)];exact s4' _ _ e
  ·have na:∀ (k:Fin 3) m,k ≠ 0->BR.use k w0 v b m ∉ B:=fun k m hk hm=>by
    rcases hW.of hm with ⟨y,_⟩ | ⟨_,y⟩
    ·exact hk y
    ·exact Zk nt eb y rfl
   refine ⟨_,rfl,_,_,rfl,rfl,(by show (0:Int) < _;decide +kernel),rfl,_,rfl,ite2 (fun _=>?_) (fun _=>REST _ _ ⟨vs,B,rfl,hg1,hB,hW.more (fun x hx=>hx) (fun x hx=>Yk eb hx),fun m=>na 2 m (by decide),by omega,s1⟩)⟩
   refine ⟨_,rfl,.inl ⟨rfl,_,Qb hg1⟩,_,rfl,_,rfl,_,rfl,_,rfl,_,_,rfl,rfl,⟨by decide,by decide⟩,_,_,rfl,rfl,(by show (0:Int) < _;decide +kernel),_,_,rfl,rfl,by show 5<=sizeLine;decide,fun p4 hp4=>?_⟩
   have f0:=zJ (zz / 2) (show (3:Int) ≠ 0 by decide)
   have f1:=zY (zz / 2) (show (0:Int) < 3 by decide)
   have sp4:=Qc hp4 (.lst [.str "takes",.str w0,.str v,.str b,.int (1 + zz / 2 % 3)])
   have hp4':upd H1 p4 (.lst [.str "takes",.str w0,.str v,.str b,.int (1 + zz / 2 % 3)]) p4=some (.lst ((BR.use 1 w0 v b (1 + zz / 2 % 3)).cells.map kV)):=upd_same
   have s4':=(s1).trans sp4
   have hg4:=sp4 _ _ hg1
   have hB4:=(hB).same sp4
   generalize upd H1 p4 (.lst [.str "takes",.str w0,.str v,.str b,.int (1 + zz / 2 % 3)])=H4 at hp4' s4' hg4 hB4 ⊢
   refine ⟨g,_,_,rfl,rfl,hg4,by omega,REST _ _ ⟨_,_,rfl,upd_same,(hB4.snoc hp4').updL hg4 hB.noRow,hW.put (by omega) (by omega) (fun x hx=>hx) (fun x hx=>Yk eb hx) (.inr ⟨by decide,Yn eb⟩) (fun k' t' m' hm ek=>?_),fun m hm=>?_,by rw [jY];show B.length + 1<=_;omega,fun c o e=>?_⟩⟩
   ·subst ek
    rintro rfl
    exact na 1 _ (by decide) hm
   ·rcases zQ.mp hm with y | y
    ·exact na 2 m (by decide) y
    ·have:=jZ.mp y
     injection this with y1
     exact absurd y1 (by decide)
   ·rw [Qi (Qk e nG)];exact s4' _ _ e
 ·rintro σ H1 ⟨zz,v13,vs,B,rfl,zz0,hg1,hB,hW,hl,s1⟩
  rw [ltm] at hW hl
  exact ⟨_,rfl,qq g vs B v H1 s1 nG hg1 hB (fun z hz'=>by rw [ez0] at hz';cases hz';exact hv) hvl hW (by omega)⟩
def ownN (k:Nat) (ns:List Str):List Str:=if k=9 then ns else if k<=3 then [] else ns.take 1
theorem Qpc (r:BR):r.own=ownN r.kind r.names:=by
 cases r with
 | use k w v t m =>
  have hk:=k.isLt
  show [w]=ownN (6 + k.val) [w,v,t]
  unfold ownN
  rw [if_neg (by omega),if_neg (by omega)]
  rfl
 | _=>rfl
theorem Qqm {r q:BR} (h:r.key=q.key) {w:Str} (hw:w ∈ q.own):w ∈ r.own:=by
 have h':((Sum.inr r.word:Key) :: r.names.map Sum.inr)=Sum.inr q.word :: q.names.map Sum.inr:=h
 injection h' with h1 h2
 have e1:r.word=q.word:=Sum.inr.inj h1
 have e2:r.names=q.names:=(List.map_inj_right fun x y e=>Sum.inr.inj e).mp h2
 have e3:r.kind=q.kind:=Vf _ (Wy r) _ (Wy q) (by rw [← Ve,← Ve];exact e1)
 rw [Qpc,e2,e3,← Qpc]
 exact hw
theorem Qks {r:BR} (h:Thing r):r.own=[]:=by cases h <;> rfl
def wyN (w:Str):BR->Bool
 | .way w' _ _ _=>decide (w'=w)
 | _=>false
theorem Qgn {w:Str} {r:BR} (h:r.kind ≠ 5):wyN w r=false:=by
 cases r with
 | way w' v l c=>exact absurd rfl h
 | _=>rfl
theorem Qkt {w:Str} {X:List BR} (h:∀ r ∈ X,r.kind ≠ 5):X.filter (wyN w)=[]:=jYe.mpr fun r hr=>by rw [Qgn (h r hr)];exact yW
structure BookOk (n:Int) (B:List BR):Prop where
 n1:1<=n
 n12:n<=12
 wb:WB n B
 hd:B[0]?=some (.days n)
 wy:∀ w,(B.filter (wyN w)).length<=2
structure Gd (n:Int) (ws:List Str) (X:List BR):Prop where
 ok:∀ r ∈ X,r.ok n
 nd:X.Pairwise Apart
 own:∀ r ∈ X,∀ w ∈ r.own,w ∈ ws
 wk:∀ w ∈ ws,BR.work w ∈ X
 wy:∀ w,(X.filter (wyN w)).length<=2
theorem Gd.perm {n:Int} {ws:List Str} {X Y:List BR} (h:Gd n ws X) (p:X.Perm Y):Gd n ws Y :=
 ⟨fun r hr=>h.ok r (p.mem_iff.mpr hr),(p.pairwise_iff Apart.symm).mp h.nd,fun r hr=>h.own r (p.mem_iff.mpr hr),fun w hw=>p.mem_iff.mp (h.wk w hw),fun w=>by rw [← (p.filter _).length_eq];exact h.wy w⟩
theorem Gd.put {n:Int} {ws ws':List Str} {X:List BR} {r:BR} {w:Str} (h:Gd n ws X) (ok:r.ok n) (hs:∀ x ∈ ws,x ∈ ws') (own:∀ x ∈ r.own,x ∈ ws') (wk:∀ x ∈ ws',x ∉ ws->BR.work x=r) (hw:w ∈ r.own) (na:∀ q ∈ X,q.kind=r.kind->w ∉ q.own) (nk:r.kind ≠ 5:=by exact fun h=>nomatch h):Gd n ws' (X ++ [r]):=by
 refine ⟨fun q hq=>?_,kXf.mpr ⟨h.nd,jJc _ _,fun q hq x hx=>?_⟩,fun q hq x hx=>?_,fun x hx=>?_,fun x=>by rw [wX,jXd,Qgn nk];simpa using h.wy x⟩
 ·rcases zQ.mp hq with z | z
  ·exact h.ok q z
  ·rw [jZ.mp z];exact ok
 ·rw [jZ.mp hx]
  by_cases e:q.kind=r.kind
  ·exact .inr (.inr fun z=>na q hq e (Qqm z hw))
  ·exact Jd e
 ·rcases zQ.mp hq with z | z
  ·exact hs x (h.own q z x hx)
  ·rw [jZ.mp z] at hx;exact own x hx
 ·by_cases e:x ∈ ws
  ·exact wY _ (h.wk x e)
  ·exact xZ _ (jZ.mpr (wk x hx e))
theorem Gd.app {n:Int} {ws:List Str} {X R:List BR} (h:Gd n ws X) (ok:∀ r ∈ R,r.ok n) (nd:R.Pairwise Apart) (own:∀ r ∈ R,∀ w ∈ r.own,w ∈ ws) (ap:∀ r ∈ X,∀ q ∈ R,Apart r q) (wy:∀ w,((X ++ R).filter (wyN w)).length<=2):Gd n ws (X ++ R) :=
 ⟨fun q hq=>(zQ.mp hq).elim (h.ok q) (ok q),kXf.mpr ⟨h.nd,nd,ap⟩,fun q hq=>(zQ.mp hq).elim (h.own q) (own q),fun w hw=>wY _ (h.wk w hw),wy⟩
theorem Gd.wb {n:Int} {ws:List Str} {X:List BR} (h:Gd n ws X) (hl:X.length<=400) (h5:ws.length<=5):WB n X:=⟨h.ok,h.nd,fun r hr w hw=>h.wk w (h.own r hr w hw),hl,ws,h5,h.own⟩
def FV0 (z:Int) (w:Str) (j:Nat) (X:List BR):Prop:=∀ r ∈ X,∀ (a:Key) (v:Str) (ks:List Key),r.key=a :: Sum.inr w :: Sum.inr v :: ks->∃ j':Nat,j' < j/\fl v=97 + ((z + 3 * (j':Int)) % 26).toNat
def FV (z:Int) (w:Str) (j:Nat) (X:List BR):Prop:=FV0 z w j X/\(X.filter (wyN w)).length<=j
theorem Qku {r:BR} {w v:Str} {a:Key} {ks:List Key} (h:r.key=a :: Sum.inr w :: Sum.inr v :: ks):w ∈ r.own:=by
 unfold BR.key at h
 injection h with _ h
 cases r with
 | days n=>cases h
 | bench b r=>injection h with _ h;cases h
 | shut b f t=>injection h with _ h;cases h
 | store s m f=>injection h with _ h;cases h
 | work x=>injection h with _ h;cases h
 | way x y l c=>injection h with h1 _;injection h1 with h1;rw [h1];exact jZ.mpr rfl
 | use k x y t m=>injection h with h1 _;injection h1 with h1;rw [h1];exact jZ.mpr rfl
 | after x y g=>injection h with h1 _;injection h1 with h1;rw [h1];exact kZ
 | late x d c=>injection h with _ h;cases h
theorem Qgo {n:Int} {w v:Str} {qs ts:List Str} {i j:Nat} {R:List BR} (h:WayTo n w v qs ts i j R):∀ q ∈ R,q.ok n/\q.own=[w]/\(q.kind=5\/6<=q.kind/\q.kind < 9)/\∃ a ks,q.key=a :: Sum.inr w :: Sum.inr v :: ks:=by
 obtain ⟨l,c,U,rfl,l1,l2,c1,c2,hU⟩:=h.hd
 intro q hq
 rcases yX.mp hq with z | z
 ·rw [z];exact ⟨⟨l1,l2,c1,c2⟩,rfl,.inl rfl,_,_,rfl⟩
 ·obtain ⟨k,t,m,rfl,m1,m2,_⟩:=hU q z
  exact ⟨⟨m1,m2⟩,rfl,.inr ⟨by show 6<=6 + k.val;omega,by show 6 + k.val < 9;omega⟩,_,_,rfl⟩
theorem fv_ne {z:Int} {j' j:Nat} (h:j' < j) (hj:j<=1) {x v:Str} (h1:fl x=97 + ((z + 3 * (j':Int)) % 26).toNat) (h2:fl v=97 + ((z + 3 * (j:Int)) % 26).toNat):x ≠ v:=by
 rintro rfl
 have:j'=0:=by omega
 have:j=1:=by omega
 subst_vars
 rw [h1] at h2
 have a:=zJ (z + 3 * ((0:Nat):Int)) (show (26:Int) ≠ 0 by decide)
 have b:=zJ (z + 3 * ((1:Nat):Int)) (show (26:Int) ≠ 0 by decide)
 omega
theorem Gd.way {n z:Int} {ws:List Str} {X R:List BR} {w v:Str} {qs ts:List Str} {i i' j:Nat} (h:Gd n ws X) (hw:w ∈ ws) (hW:WayTo n w v qs ts i i' R) (hF:FV z w j X) (hj:j<=1) (hv:fl v=97 + ((z + 3 * (j:Int)) % 26).toNat):Gd n ws (X ++ R)/\FV z w (j + 1) (X ++ R):=by
 have hR:=Qgo hW
 have hc:∀ x,(R.filter (wyN x)).length=if x=w then 1 else 0:=fun x=>by
  obtain ⟨l,c,U,rfl,_,_,_,_,hU⟩:=hW.hd
  have hn:U.filter (wyN x)=[]:=Qkt fun r hr=>by
   obtain ⟨k,t,m,rfl,_⟩:=hU r hr
   show 6 + k.val ≠ 5
   omega
  rw [jXd,hn]
  by_cases e:x=w
  ·rw [if_pos e,if_pos (show wyN x (.way w v l c)=true from kQ e.symm)];rfl
  ·rw [if_neg e,if_neg (show ¬ (wyN x (.way w v l c)=true) from fun z=>e (jJ z).symm)];rfl
 refine ⟨h.app (fun q hq=>(hR q hq).1) hW.nd (fun q hq x hx=>?_) (fun r hr q hq=>?_) (fun x=>?_),fun r hr a v' ks e=>?_,?_⟩
 rotate_left 2
 ·rw [wX,jY,hc x]
  by_cases e:x=w
  ·have:=hF.2
   rw [if_pos e,e]
   omega
  ·rw [if_neg e]
   exact h.wy x
 rotate_left
 ·rw [wX,jY,hc w,if_pos rfl]
  have:=hF.2
  omega
 ·rw [(hR q hq).2.1] at hx;rw [jZ.mp hx];exact hw
 ·obtain ⟨_,_,_,a,ks,ek⟩:=hR q hq
  refine .inr (.inr fun e=>?_)
  obtain ⟨j',h1,h2⟩:=hF.1 r hr a v ks (e.trans ek)
  exact fv_ne h1 hj h2 hv rfl
 ·rcases zQ.mp hr with y | y
  ·obtain ⟨j',h1,h2⟩:=hF.1 r y a v' ks e
   exact ⟨j',by omega,h2⟩
  ·obtain ⟨_,_,_,a',ks',ek⟩:=hR r y
   rw [ek] at e
   injection e with _ e
   injection e with _ e
   injection e with e _
   injection e with e
   subst e
   exact ⟨j,by omega,hv⟩
def Lets (z c:Int) (qs:List Str):Prop:=∀ (i:Nat) (x:Str),qs[i]?=some x->fl x=97 + ((z + c * (i:Int)) % 26).toNat
theorem Lets.nodup {z c:Int} {qs:List Str} (h:Lets z c qs) (hl:qs.length<=3) (hc:c=1\/c=7):qs.Nodup:=by
 rw [List.nodup_iff_pairwise_ne,List.pairwise_iff_getElem]
 intro i j hi hj hij e
 have a:=h i _ (gE hi)
 have b:=h j _ (gE hj)
 rw [e,b] at a
 have p:=zJ (z + c * (i:Int)) (show (26:Int) ≠ 0 by decide)
 have q:=zJ (z + c * (j:Int)) (show (26:Int) ≠ 0 by decide)
 rcases hc with rfl | rfl <;> omega
theorem Lets.snoc {z c:Int} {qs:List Str} {x:Str} (h:Lets z c qs) (hx:fl x=97 + ((z + c * (qs.length:Int)) % 26).toNat):Lets z c (qs ++ [x]):=fun i y e=>by
 by_cases hi:i < qs.length
 ·rw [jQc hi] at e;exact h i y e
 ·rw [List.getElem?_append_right (by omega)] at e
  have:=(kK.mp e).1
  rw [jZf] at this
  have hi2:i=qs.length:=by omega
  subst hi2
  rw [Nat.sub_self] at e
  cases e
  exact hx
theorem Qnd {n:Int} {T:List BR} (h:ThOk n T):Gd n [] (.days n :: T)/\∀ r ∈ BR.days n :: T,r.kind < 4:=by
 have tk:∀ r ∈ T,r.kind < 4/\r.kind ≠ 0:=fun r hr=>by
  cases h.th r hr with
  | bench b r=>exact ⟨by show (1:Nat) < 4;decide,by show (1:Nat) ≠ 0;decide⟩
  | shut b f t=>exact ⟨by show (2:Nat) < 4;decide,by show (2:Nat) ≠ 0;decide⟩
  | store s m f=>exact ⟨by show (3:Nat) < 4;decide,by show (3:Nat) ≠ 0;decide⟩
 refine ⟨⟨fun r hr=>?_,jZe.mpr ⟨fun r hr=>Jd (fun e=>(tk r hr).2 e.symm),h.nd⟩,fun r hr w hw=>?_,fun w hw=>(nomatch hw),fun w=>by rw [Qkt];exact jXe _;intro r hr;rcases yX.mp hr with z | z;rw [z];exact (fun z=>nomatch z);have:=(tk r z).1;omega⟩,fun r hr=>?_⟩
 ·rcases yX.mp hr with z | z
  ·rw [z];exact rfl
  ·exact h.ok r z
 ·rcases yX.mp hr with z | z
  ·rw [z] at hw;exact nomatch hw
  ·rw [Qks (h.th r z)] at hw;exact nomatch hw
 ·rcases yX.mp hr with z | z
  ·rw [z];exact Nat.zero_lt_succ _
  ·exact (tk r z).1
theorem Jx {α:Type} (B L R:List α):(B ++ L ++ R).Perm (B ++ R ++ L):=by
 rw [xV,xV];exact List.Perm.append_left B List.perm_append_comm
theorem Qaa {α:Type} (B L R:List α):(B ++ L ++ R).Perm (B ++ (R ++ L)):=by
 rw [xV];exact List.Perm.append_left B List.perm_append_comm
theorem FV.perm {z:Int} {w:Str} {j:Nat} {X Y:List BR} (h:FV z w j X) (p:X.Perm Y):FV z w j Y:=⟨fun r hr=>h.1 r (p.mem_iff.mpr hr),by rw [← (p.filter _).length_eq];exact h.2⟩
theorem Qpd {b:Int} (h0:0 < b) (h1:b<=2000000000000000000):b ≠ 0/\Big b:=⟨by omega,zV (show b.natAbs<=2000000000000000000 by omega) (by decide +kernel)⟩
structure BkI (H Hq:Hp) (E1 E2 E5 gb gl:Addr) (a b c bs ls:List V) (B L:List BR):Prop where
 h1:Hq E1=some (.lst a)
 h2:Hq E2=some (.lst b)
 h5:Hq E5=some (.lst c)
 hb:Hq gb=some (.lst bs)
 hl:Hq gl=some (.lst ls)
 rb:RowsB Hq bs B
 rl:RowsB Hq ls L
 fb:H gb=none
 n1:gb ≠ E1
 n2:gb ≠ E2
 n5:gb ≠ E5
 nl:gb ≠ gl
 sm:Same H Hq
theorem BkI.same {H Hq Hr:Hp} {E1 E2 E5 gb gl:Addr} {a b c bs ls:List V} {B L:List BR} (h:BkI H Hq E1 E2 E5 gb gl a b c bs ls B L) (s:Same Hq Hr):BkI H Hr E1 E2 E5 gb gl a b c bs ls B L :=
 ⟨s _ _ h.h1,s _ _ h.h2,s _ _ h.h5,s _ _ h.hb,s _ _ h.hl,h.rb.same s,h.rl.same s,h.fb,h.n1,h.n2,h.n5,h.nl,h.sm.trans s⟩
theorem BkI.put {H Hq:Hp} {E1 E2 E5 gb gl p:Addr} {a b c bs ls:List V} {B L:List BR} {r:BR} (h:BkI H Hq E1 E2 E5 gb gl a b c bs ls B L) (hp:Hq p=some (.lst (r.cells.map kV))):BkI H (upd Hq gb (.lst (bs ++ [.ref p]))) E1 E2 E5 gb gl a b c (bs ++ [.ref p]) ls (B ++ [r]) L :=
 ⟨by rw [Qi (Ne.symm h.n1)];exact h.h1,by rw [Qi (Ne.symm h.n2)];exact h.h2,by rw [Qi (Ne.symm h.n5)];exact h.h5,upd_same,by rw [Qi (Ne.symm h.nl)];exact h.hl,(h.rb.snoc hp).updL h.hb h.rb.noRow,h.rl.updL h.hb h.rb.noRow,h.fb,h.n1,h.n2,h.n5,h.nl,fun b' o e=>by rw [Qi (Qk e h.fb)];exact h.sm _ _ e⟩
theorem BkI.cat {H Hq:Hp} {E1 E2 E5 gb gl g:Addr} {a b c bs ls rs:List V} {B L R:List BR} (h:BkI H Hq E1 E2 E5 gb gl a b c bs ls B L) (hg:Hq g=none) (hr:RowsB Hq rs R):BkI H (upd Hq g (.lst (bs ++ rs))) E1 E2 E5 g gl a b c (bs ++ rs) ls (B ++ R) L:=by
 have s:=Qc hg (.lst (bs ++ rs))
 refine ⟨s _ _ h.h1,s _ _ h.h2,s _ _ h.h5,upd_same,s _ _ h.hl,RowsB.same (h.rb.app hr) s,h.rl.same s,?_,fun z=>?_,fun z=>?_,fun z=>?_,fun z=>?_,h.sm.trans s⟩
 ·cases e:H g with
  | none=>rfl
  | some o=>rw [h.sm _ _ e] at hg;cases hg
 ·rw [z,h.h1] at hg;cases hg
 ·rw [z,h.h2] at hg;cases hg
 ·rw [z,h.h5] at hg;cases hg
 ·rw [z,h.hl] at hg;cases hg
theorem BkI.late {H Hq:Hp} {E1 E2 E5 gb gl g:Addr} {a b c bs ls rs:List V} {B L R:List BR} (h:BkI H Hq E1 E2 E5 gb gl a b c bs ls B L) (hg:Hq g=none) (hr:RowsB Hq rs R):BkI H (upd Hq g (.lst (rs ++ ls))) E1 E2 E5 gb g a b c bs (rs ++ ls) B (R ++ L):=by
 have s:=Qc hg (.lst (rs ++ ls))
 refine ⟨s _ _ h.h1,s _ _ h.h2,s _ _ h.h5,s _ _ h.hb,upd_same,h.rb.same s,RowsB.same (hr.app h.rl) s,h.fb,h.n1,h.n2,h.n5,fun z=>?_,h.sm.trans s⟩
 rw [← z,h.hb] at hg;cases hg
abbrev Qcc:Stmt:=top 39
theorem FV0.zero_work {z n:Int} {w:Str} {ws:List Str} {B L:List BR} (g:Gd n ws (B ++ L)) (hw:w ∉ ws):FV0 z w 0 (B ++ [.work w] ++ L):=fun r hr a v ks e=>by
 rcases zQ.mp ((Jx B L [.work w]).mem_iff.mpr hr) with y | y
 ·exact absurd (g.own r y w (Qku e)) hw
 ·rw [jZ.mp y] at e
  unfold BR.key at e
  injection e with _ e
  injection e with _ e
  cases e
theorem FV.zero_work {z n:Int} {w:Str} {ws:List Str} {B L:List BR} (g:Gd n ws (B ++ L)) (hw:w ∉ ws):FV z w 0 (B ++ [.work w] ++ L):=⟨FV0.zero_work g hw,by
 rw [wX,wX,show [BR.work w].filter (wyN w)=[] from rfl,zZ,← wX,jYe.mpr]
 ·exact jK _
 intro r hr
 cases r with
 | way w' v l c=>exact fun z=>hw (g.own _ hr w (jZ.mpr (jJ z).symm))
 | _=>exact yW⟩
theorem Dr.at44 {K:Fg} {H:Hp} {l:Addr} {ds:List Int} (h:Dr K H l ds) (hl:44<=ds.length) (k:Int) (h0:autoParam (0<=k/\k < 44) L2.aDec._auto_1):∃ z:Int,atI (ds.map V.int) k=some (.int z)/\0<=z/\z < 2147483648:=h.get k h0.1 (Int.lt_of_lt_of_le h0.2 (Int.ofNat_le.mpr hl))
theorem Qkv {z c:Int} {k:Nat} {D:Addr} {H:Hp} {cs τ0:St} {te:TE} {Q:Addr->Hp->Prop} (hτ:τ0=none :: cs) (hk:k<=3) (hc:c=1\/c=7) (hD:H D=none)
  (hs:∀ (i:Nat) (H1:Hp) (P:V->Hp->Prop),Same H H1->(∀ x:Str,fl x=97 + ((z + c * (i:Int)) % 26).toNat->P (.str x) H1)->te (some (.int (0 + (i:Int))) :: cs) H1 P)
  (hd:∀ (xs:List Str) H1,xs.length=k->xs.Nodup->H1 D=some (.lst (xs.map V.str))->Same H H1->Q D H1):LcW (Itr 0 k) D τ0 H (Vu 0) tYes te Q:=by
 subst hτ
 have hz:(20000:Nat) < sizeLine:=by decide
 let Pv10:Nat->St->List V->Hp->Prop:=fun i τ ys Hq=>∃ (x:Option V) (xs:List Str),τ=x :: cs/\ys=xs.map V.str/\xs.length=i/\Lets z c xs/\Hq D=some (.lst ys)/\Same H Hq
 refine Ym (n:=k) Pv10 ?_ (fun i τ ys Hq hi h=>?_) (fun i τ ys Hq hi h=>hi) (fun τ ys Hq h=>jK _) ?_ ?_
 ·exact ⟨none,[],rfl,rfl,rfl,fun i x e=>by simp at e,upd_same,Qc hD _⟩
 ·obtain ⟨x,xs,rfl,rfl,lx,hL,hE,s'⟩:=h
  exact ⟨hE,by rw [jX];omega⟩
 ·rintro i τ ys Ha x Hb hi ⟨x',xs,rfl,rfl,lx,hL,hE,s'⟩ ⟨rfl,rfl⟩
  exact hs i _ _ s' fun x hx=>⟨hE,_,xs ++ [x],rfl,by rw [kJ];rfl,by rw [jY,lx];rfl,hL.snoc (by rw [hx,lx]),upd_same,fun b o e=>by rw [Qi (Qk e hD)];exact s' _ _ e⟩
 ·rintro τ ys Hq ⟨x,xs,rfl,rfl,lx,hL,hE,s'⟩
  exact hd xs Hq lx (hL.nodup (lx ▸ hk) hc) hE s'
def Qgp (K:Fg):Sp:=fun vs H Q _=>∃ (l:Addr) (ds:List Int) (most many:Int),vs=[.ref l,.int 0,.int most,.int many]/\Dr K H l ds/\44<=ds.length/\1<=most/\most<=12/\0<=many/\many<=3 - 1 + 1/\many < 3 + 1 /\
 ∀ (g:Addr) (vs:List V) (n:Int) (B:List BR) (H':Hp),Same H H'->H g=none->H' g=some (.lst vs)->RowsB H' vs B->BookOk n B->Q (.ref g) H'
theorem scBook66:FnScope ["_law_draws_here","_law_at","_law_most","_law_many","_law_days","_law_book_here","_law_quays","_law_stocks","_law_works","_law_later","_law_k","_law_work","_law_j","_law_more","_law_number"] ["_law_draws_here","_law_at","_law_most","_law_many"] (Qg Qcc):=⟨rfl,rfl,rfl,by decide +kernel,rfl,by decide +kernel,by decide +kernel⟩
theorem Qne (F:Fn K mg "_law_book" Qcc) (M:Mg mg) (cl_name:Cal P w K mg base 1 "_law_name" ["_law_k","_law_number"] (Qbz)) (cl_rooms:Cal P w K mg base 1 "_law_rooms" ["_law_draws_here","_law_at","_law_days","_law_quays","_law_stocks"] (Qdq K)) (cl_way:Cal P w K mg base 2 "_law_way" ["_law_draws_here","_law_at","_law_work","_law_j","_law_days","_law_quays","_law_stocks"] (Qkr K)):Cal P w K mg base 3 "_law_book" ["_law_draws_here","_law_at","_law_most","_law_many"] (Qgp K):=by
 refine Xi F scBook66 (fun _ _ _ _ _ _=>Qkl (fun _ _ _ _=>rfl)) (fun vs H Q E h=>?_) (fun f cdv A outer s H vs Q E hr h=>?_)
 ·obtain ⟨l,ds,most,many,rfl,_⟩:=h
  rfl
 obtain ⟨l,ds,most,many,rfl,hD0,h44,mo1,mo12,my0,my1,my2,qq⟩:=h
 refine ⟨_,(Qf (Qp (i:=4) scBook66.nd rfl (Or.inl rfl) (Qj Qs Qd (Qj Xh (Qo Qm (pv 0) (pv 1) (fun _ _=>rfl)) (pv 2))))
  (Qf (Qp (i:=5) scBook66.nd rfl (Or.inl rfl) (Xw (Qa (Xw (Qa Xa (Qa (pv 4) Qe))) Qe)))
  (Qf (Vd (i:=6) ["_law_k","_law_draws_here","_law_at"] [none,some 0,some 1] rfl scBook66.nd rfl (Or.inl rfl) (Xk rfl M.range_ (Qa (Qj Xh (Qo Qm (pv 0) (Qj Qs (pv 1) Qd) (fun _ _=>rfl)) Qd) Qe)) (fun _ _ _=>(Ql (i:=0) (show (["_law_k","_law_draws_here","_law_at"]:List Str).Nodup by decide +kernel) rfl (Or.inl rfl) (Or.inr rfl))) (fun _ _ _=>Yl) (fun _ _ _=>(Xj cl_name (hr.mono (by decide)) (Qa (pv 0) (Qa (Qo (Yc (K:=K) rfl) (pv 1) (Qj Qs (pv 2) Qd) (fun _ _=>rfl)) Qe)))))
  (Qf (Vd (i:=7) ["_law_k","_law_draws_here","_law_at"] [none,some 0,some 1] rfl scBook66.nd rfl (Or.inl rfl) (Xk rfl M.range_ (Qa (Qj Xh (Qo Qm (pv 0) (Qj Qs (pv 1) Qd) (fun _ _=>rfl)) Qd) Qe)) (fun _ _ _=>(Ql (i:=0) (show (["_law_k","_law_draws_here","_law_at"]:List Str).Nodup by decide +kernel) rfl (Or.inl rfl) (Or.inr rfl))) (fun _ _ _=>Yl) (fun _ _ _=>(Xj cl_name (hr.mono (by decide)) (Qa (Qj Zr Qd (pv 0)) (Qa (Qo (Yc (K:=K) rfl) (pv 1) (Qj Qs (pv 2) Qd) (fun _ _=>rfl)) Qe)))))
  (Qf (Qp (i:=5) scBook66.nd rfl (Or.inl rfl) (Qj Kc (pv 5) (Xj cl_rooms (hr.mono (by decide)) (Qa (pv 0) (Qa (pv 1) (Qa (pv 4) (Qa (pv 6) (Qa (pv 7) Qe))))))))
  (Qf (Vd (i:=8) ["_law_k","_law_draws_here","_law_at"] [none,some 0,some 1] rfl scBook66.nd rfl (Or.inl rfl) (Xk rfl M.range_ (Qa (Qj Xh (Qo Qm (pv 0) (Qj Qs (pv 1) Qd) (fun _ _=>rfl)) (Qj Qs (pv 3) Qd)) Qe)) (fun _ _ _=>(Ql (i:=0) (show (["_law_k","_law_draws_here","_law_at"]:List Str).Nodup by decide +kernel) rfl (Or.inl rfl) (Or.inr rfl))) (fun _ _ _=>Yl) (fun _ _ _=>(Xj cl_name (hr.mono (by decide)) (Qa (pv 0) (Qa (Qo (Yc (K:=K) rfl) (pv 1) (Qj Qs (pv 2) Qd) (fun _ _=>rfl)) Qe)))))
  (Qf (Qp (i:=9) scBook66.nd rfl (Or.inl rfl) (Xw Qe))
  (Qf (Xe PassesOwn.never rfl (Ww true rfl M.enumerate_ (Qa (pv 8) Qe)) (Jh (K:=K) (i:=10) (j:=11) rfl rfl scBook66.nd rfl rfl rfl rfl) (Qf (Xm (Zp PySem.F.plainAttrs_list PySem.F.slot_list_append PySem.F.type_list_append Xb (pv 5) (Qa (Xw (Qa Xa (Qa (pv 11) Qe))) Qe)))
  (Qh (Xe PassesOwn.never rfl (Xk rfl M.range_ (Qa (Qj Xh (Qo Qm (pv 0) (Qj Qs (Qj Qs (pv 1) Qd) (pv 10)) (fun _ _=>rfl)) Qd) Qe)) (Ql (i:=12) scBook66.nd rfl (Or.inl rfl) (Or.inl rfl)) (Qf (Qp (i:=13) scBook66.nd rfl (Or.inl rfl) (Xj cl_way (hr.mono (by decide)) (Qa (pv 0) (Qa (Qj Qs (Qj Qs (Qj Qs (pv 1) Qd) (Qj Zr Qd (pv 10))) (Qj Zr Qd (pv 12))) (Qa (pv 11) (Qa (pv 12) (Qa (pv 4) (Qa (pv 6) (Qa (pv 7) Qe)))))))))
  (Qh (Yg (Qn Yb (Qj Xh (Qj Qgi (Qo Qm (pv 0) (Qj Qs (pv 1) Qd) (fun _ _=>rfl)) (Qj Qs (Qj Qs Qd (pv 10)) (Qj Zr Qd (pv 12)))) Qd) Qd (Qq _)) (Qh (Qp (i:=9) scBook66.nd rfl (Or.inl rfl) (Qj Kc (pv 13) (pv 9)))) (Qh (Qp (i:=5) scBook66.nd rfl (Or.inl rfl) (Qj Kc (pv 5) (pv 13)))))))))))
  (Qf (Qp (i:=5) scBook66.nd rfl (Or.inl rfl) (Qj Kc (pv 5) (pv 9)))
  (Qf (Xe PassesOwn.never rfl (Qiz rfl M.range_ (Qa Qd (Qa (Qy Xo rfl M.len Jq (Qa (pv 8) Qe)) Qe))) (Ql (i:=10) scBook66.nd rfl (Or.inl rfl) (Or.inl rfl)) (Qf (Qp (i:=14) scBook66.nd rfl (Or.inl rfl) (Qo Qm (pv 0) (Qj Qs (Qj Qs (pv 1) Qd) (pv 10)) (fun _ _=>rfl)))
  (Qf (Yg (Qn Yb (Qj Xh (pv 14) Qd) Qd (Qq _)) (Qh (Xm (Zp PySem.F.plainAttrs_list PySem.F.slot_list_append PySem.F.type_list_append Xb (pv 5) (Qa (Xw (Qa Xa (Qa (Qo Qm (pv 8) (Qj Kl (pv 10) Qd) (fun _ _=>rfl)) (Qa (Qo Qm (pv 8) (pv 10) (fun _ _=>rfl)) (Qa (Qj Xh (Qj Ya (pv 14) Qd) (Qy (Jn rfl) rfl M.min Qdh (Qa Qd (Qa (Qj Qs (pv 4) Qd) Qe)))) Qe))))) Qe)))) Qz)
  (Qh (Yg (Qn Yb (Qj Xh (pv 14) Qd) Qd (Qq _)) (Qh (Xm (Zp PySem.F.plainAttrs_list PySem.F.slot_list_append PySem.F.type_list_append Xb (pv 5) (Qa (Xw (Qa Xa (Qa (Qo Qm (pv 8) (pv 10) (fun _ _=>rfl)) (Qa (Qo Qm (pv 8) Qd (fun _ _=>rfl)) (Qa (Qj Xh (Qj Ya (pv 14) Qd) (Qy (Jn rfl) rfl M.min Qdh (Qa Qd (Qa (Qj Qs (pv 4) Qd) Qe)))) Qe))))) Qe)))) Qz)))))
  (Qf (Xe PassesOwn.never rfl (Ww true rfl M.enumerate_ (Qa (pv 8) Qe)) (Jh (K:=K) (i:=10) (j:=11) rfl rfl scBook66.nd rfl rfl rfl rfl) (Qf (Qp (i:=14) scBook66.nd rfl (Or.inl rfl) (Qo Qm (pv 0) (Qj Qs (Qj Qs (pv 1) Qd) (pv 10)) (fun _ _=>rfl)))
  (Qh (Yg (Qn Yb (Qj Xh (pv 14) Qd) Qd (Qq _)) (Qh (Xm (Zp PySem.F.plainAttrs_list PySem.F.slot_list_append PySem.F.type_list_append Xb (pv 5) (Qa (Xw (Qa Xa (Qa (pv 11) (Qa (Qj Xh (Qj Ya (pv 14) Qd) (Qj Qs (pv 4) Qd)) (Qa (Qj Qs Qd (Qj Xh (Qj Ya (pv 14) Qd) Qd)) Qe))))) Qe)))) Qz))))
  (Qh (Qw (pv 5)))))))))))))),?_⟩
 have hz:(20000:Nat) < sizeLine:=by decide
 obtain ⟨d0,ed0,d00,d01⟩:=hD0.get 0 (by omega) (by omega)
 refine ⟨_,rfl,_,rfl,l,_,_,_,rfl,rfl,hD0.lst,ed0,_,rfl,_,_,rfl,rfl,by omega,_,_,rfl,rfl,?_⟩
 have n0:=zJ d0 (show most ≠ 0 by omega)
 have n1:=zY d0 (show 0 < most by omega)
 obtain ⟨n,en⟩:∃ n,n=1 + d0 % most:=⟨_,rfl⟩
 have hn1:1<=n:=by omega
 have hn12:n<=12:=by omega
 show Vu 4 (V.int (1 + d0 % most)) _ _ _
 rw [← en]
 refine ⟨_,rfl,by show 2<=sizeLine;decide,fun p hp=>⟨by show 1<=sizeLine;decide,fun g0 hg0=>?_⟩⟩
 have sp:=Qc hp (.lst [.str "days",.int n])
 have sg:=Qc hg0 (.lst [.ref p])
 have hp0:=sg _ _ (upd_same (H:=H) (a:=p) (o:=.lst ((BR.days n).cells.map kV)))
 have s0:=sp.trans sg
 have hgg:upd (upd H p (.lst [.str "days",.int n])) g0 (.lst [.ref p]) g0=some (.lst [.ref p]):=upd_same
 have hB0:RowsB (upd (upd H p (.lst [.str "days",.int n])) g0 (.lst [.ref p])) [.ref p] [.days n]:=RowsB.snoc (vs:=[]) (B:=[]) .nil hp0
 generalize upd (upd H p (.lst [.str "days",.int n])) g0 (.lst [.ref p])=H0 at s0 hgg hB0 ⊢
 have hD1:=hD0.same s0
 obtain ⟨d2,ed2,d20,d21⟩:=hD1.at44 h44 (0 + 2)
 obtain ⟨d1,ed1,d10,d11⟩:=hD1.at44 h44 (0 + 1)
 have q0:=zJ d2 (show (3:Int) ≠ 0 by decide)
 have q1:=zY d2 (show (0:Int) < 3 by decide)
 refine ⟨_,rfl,_,rfl,_,_,rfl,rfl,l,_,_,_,rfl,rfl,hD1.lst,ed2,_,_,rfl,rfl,(by show (0:Int) < _;decide +kernel),d2 % 3,rfl,by omega,by omega,fun E1 hE1=>Qkv (z:=d1) (c:=1) (k:=(d2 % 3).toNat) (cs:=[some (.ref l),some (.int 0)]) rfl (by omega) (.inl rfl) hE1 (fun i Ha P s' h=>?_) (fun nm1 H1 ln1 nd1 hM1 s1'=>?_)⟩
 ·exact ⟨_,rfl,_,rfl,_,rfl,_,_,rfl,rfl,l,_,_,_,rfl,rfl,(hD1.same s').lst,ed1,_,_,rfl,fun x hx hxl=>h x (by rw [hx,show (0:Int) + (i:Int)=1 * (i:Int) by omega])⟩
 have hD2:=hD1.same s1'
 obtain ⟨d8,ed8,d80,d81⟩:=hD2.at44 h44 (0 + 8)
 obtain ⟨d7,ed7,d70,d71⟩:=hD2.at44 h44 (0 + 7)
 have r0:=zJ d8 (show (3:Int) ≠ 0 by decide)
 have r1:=zY d8 (show (0:Int) < 3 by decide)
 refine ⟨_,rfl,_,rfl,_,_,rfl,rfl,l,_,_,_,rfl,rfl,hD2.lst,ed8,_,_,rfl,rfl,(by show (0:Int) < _;decide +kernel),d8 % 3,rfl,by omega,by omega,fun E2 hE2=>Qkv (z:=d7) (c:=7) (k:=(d8 % 3).toNat) (cs:=[some (.ref l),some (.int 0)]) rfl (by omega) (.inr rfl) hE2 (fun i Ha P s' h=>?_) (fun nm2 H2 ln2 nd2 hM2 s2'=>?_)⟩
 ·exact ⟨_,rfl,_,_,rfl,rfl,.inl ⟨by decide,by decide⟩,_,rfl,_,rfl,_,_,rfl,rfl,l,_,_,_,rfl,rfl,(hD2.same s').lst,ed7,_,_,rfl,fun x hx hxl=>h x (by rw [hx,show (0:Int) + (i:Int)=(i:Int) by omega])⟩
 have hD3:=hD2.same s2'
 refine ⟨_,rfl,_,rfl,_,rfl,_,rfl,_,rfl,_,rfl,l,E1,E2,ds,n,nm1,nm2,rfl,hD3,h44,hn1,hn12,Qb (s2' _ _ hM1),Qb hM2,by omega,by omega,nd1,nd2,fun g3 v3 T3 H3 s3 g3n hg3 hB3 hT3 l3=>?_⟩
 have s03:=(s1'.trans s2').trans s3
 have sH3:=s0.trans s03
 have lv3:=hB3.length
 refine ⟨g0,g3,_,v3,rfl,rfl,s03 _ _ hgg,hg3,by show 1 + v3.length<=sizeLine;omega,fun g4 hg4=>?_⟩
 have sg4:=Qc hg4 (.lst ([.ref p] ++ v3))
 have hgb:upd H3 g4 (.lst ([.ref p] ++ v3)) g4=some (.lst ([.ref p] ++ v3)):=upd_same
 have sH4:=sH3.trans sg4
 have hBb:RowsB (upd H3 g4 (.lst ([.ref p] ++ v3))) ([.ref p] ++ v3) (.days n :: T3):=RowsB.same (RowsB.app (B:=[.days n]) (hB0.same s03) hB3) sg4
 have e14:=sg4 _ _ (s3 _ _ (s2' _ _ hM1))
 have e24:=sg4 _ _ (s3 _ _ hM2)
 have n41:g4 ≠ E1:=fun z=>by rw [z,s3 _ _ (s2' _ _ hM1)] at hg4;cases hg4
 have n42:g4 ≠ E2:=fun z=>by rw [z,s3 _ _ hM2] at hg4;cases hg4
 have f4:H g4=none:=by
  cases e:H g4 with
  | none=>rfl
  | some o=>rw [sH3 _ _ e] at hg4;cases hg4
 generalize upd H3 g4 (.lst ([.ref p] ++ v3))=H4 at hgb sH4 hBb e14 e24 ⊢
 have hD4:=hD0.same sH4
 obtain ⟨d11',ed11,d110,d111⟩:=hD4.at44 h44 (0 + 11)
 obtain ⟨d10',ed10,d100,d101⟩:=hD4.at44 h44 (0 + 10)
 have w0:=zJ d11' (show many + 1 ≠ 0 by omega)
 have w1:=zY d11' (show 0 < many + 1 by omega)
 refine ⟨_,rfl,_,rfl,_,_,rfl,rfl,l,_,_,_,rfl,rfl,hD4.lst,ed11,_,rfl,_,_,rfl,rfl,_,_,rfl,rfl,by omega,d11' % (many + 1),rfl,by omega,by omega,fun E5 hE5=>Qkv (z:=d10') (c:=1) (k:=(d11' % (many + 1)).toNat) (cs:=[some (.ref l),some (.int 0)]) rfl (by omega) (.inl rfl) hE5 (fun i Ha P s' h=>?_) (fun nm5 H5 ln5 nd5 hM5 s5'=>?_)⟩
 ·exact ⟨_,rfl,_,rfl,_,rfl,_,_,rfl,rfl,l,_,_,_,rfl,rfl,(hD4.same s').lst,ed10,_,_,rfl,fun x hx hxl=>h x (by rw [hx,show (0:Int) + (i:Int)=1 * (i:Int) by omega])⟩
 have sH5:=sH4.trans s5'
 have hgb5:=s5' _ _ hgb
 have hBb5:=hBb.same s5'
 have n45:g4 ≠ E5:=fun z=>by rw [z] at hgb;rw [hgb] at hE5;cases hE5
 refine ⟨by show 0<=sizeLine;decide,fun L0 hL0=>?_⟩
 have sL:=Qc hL0 (.lst [])
 obtain ⟨gd0,kd0⟩:=Qnd hT3
 have I0:BkI H (upd H5 L0 (.lst [])) E1 E2 E5 g4 L0 (nm1.map V.str) (nm2.map V.str) (nm5.map V.str) ([.ref p] ++ v3) [] (.days n :: T3) [] :=
  ⟨sL _ _ (s5' _ _ e14),sL _ _ (s5' _ _ e24),sL _ _ hM5,sL _ _ hgb5,upd_same,hBb5.same sL,.nil,f4,n41,n42,n45,(fun z=>by rw [z] at hgb5;rw [hgb5] at hL0;cases hL0),sH5.trans sL⟩
 generalize upd H5 L0 (.lst [])=H6 at I0 ⊢
 have l5m:(nm5.map V.str).length=nm5.length:=jX ..
 have l5:nm5.length<=3:=by omega
 let Pv11:Nat->St->Hp->Prop:=fun k σ Hq=>∃ (gb gl:Addr) (v10 v11 v12 v13:Option V) (bs ls:List V) (B L:List BR),σ=[some (.ref l),some (.int 0),some (.int most),some (.int many),some (.int n),some (.ref gb),some (.ref E1),some (.ref E2),some (.ref E5),some (.ref gl),v10,v11,v12,v13,none]/\BkI H Hq E1 E2 E5 gb gl (nm1.map V.str) (nm2.map V.str) (nm5.map V.str) bs ls B L/\Gd n (nm5.take (k)) (B ++ L)/\(∀ r ∈ B ++ L,r.kind < 9)/\B[0]?=some (.days n)/\B.length + L.length<=9 + 15 * k
 refine ⟨_,rfl,E5,rfl,⟨_,Qb I0.h5⟩,Ks (K:=K) (m:=true) (a:=E5) (xs:=nm5.map V.str) Pv11 ⟨g4,L0,none,none,none,none,_,_,_,_,rfl,I0,by rw [zZ];exact gd0,by rw [zZ];exact fun r hr=>Nat.lt_trans (kd0 r hr) (by decide),rfl,by rw [xW];show T3.length + 1 + 0<=_;omega⟩ (fun k σ Hq _ h=>?_) ?_ ?_⟩
 ·obtain ⟨gb,gl,v10,v11,v12,v13,bs,ls,B,L,rfl,I,gd,kd,hd,hl⟩:=h
  exact Qb I.h5
 ·rintro k x σ Ha T e1 ⟨gb,gl,v10,v11,v12,v13,bs,ls,B,L,rfl,I,gd,kd,hd,hl⟩ hTn
  obtain ⟨w',ew,rfl⟩:=Ja e1
  have hk:k < nm5.length:=(kK.mp ew).1
  refine ⟨T,_,rfl,Qu upd_same,rfl,_,_,rfl,_,_,rfl,rfl,?_⟩
  have I1:=I.same (Qc hTn (.tup [.int (k:Nat),.str w']))
  generalize upd Ha T (.tup [.int (k:Nat),.str w'])=Hb at I1 ⊢
  refine ⟨_,rfl,.inl ⟨rfl,_,Qb I1.hb⟩,_,rfl,by show 2<=sizeLine;decide,fun p7 hp7=>?_⟩
  have I2:=I1.same (Qc hp7 (.lst [.str "work",.str w']))
  have hp8:upd Hb p7 (.lst [.str "work",.str w']) p7=some (.lst ((BR.work w').cells.map kV)):=upd_same
  generalize upd Hb p7 (.lst [.str "work",.str w'])=Hc at I2 hp8 ⊢
  have lb:=I2.rb.length
  refine ⟨gb,_,_,rfl,rfl,I2.hb,by omega,?_⟩
  have I3:=I2.put hp8
  generalize upd Hc gb (.lst (bs ++ [.ref p7]))=Hd at I3 ⊢
  have nw:w' ∉ nm5.take k:=fun z=>Zk nd5 ew z rfl
  have gd3:Gd n (nm5.take (k + 1)) (B ++ [.work w'] ++ L):=(gd.put (w:=w') (r:=.work w') True.intro (fun x hx=>Yk ew hx) (fun x hx=>by rw [jZ.mp hx];exact Yn ew) (fun x hx nx=>by
   rw [Ze ew] at hx
   rcases zQ.mp hx with y | y
   ·exact absurd y nx
   ·rw [jZ.mp y]) (jZ.mpr rfl) (fun q hq _ hw=>nw (gd.own q hq w' hw))).perm (Jx B L [.work w'])
  have kd3:∀ r ∈ B ++ [.work w'] ++ L,r.kind < 9:=fun r hr=>by
   rcases zQ.mp ((Jx B L [.work w']).mem_iff.mpr hr) with y | y
   ·exact kd r y
   ·rw [jZ.mp y];show (4:Nat) < 9;decide
  have hd3:(B ++ [BR.work w'])[0]?=some (.days n):=by rw [jQc (kK.mp hd).1];exact hd
  have hl3:(B ++ [BR.work w']).length + L.length<=9 + 15 * k + 1:=by rw [jY];show B.length + 1 + L.length<=_;omega
  have hDd:=hD0.same I3.sm
  obtain ⟨d12,ed12,d120,d121⟩:=hDd.get (0 + 12 + (k:Int)) (by omega) (by omega)
  obtain ⟨dz,edz,dz0,dz1⟩:=hD0.get (0 + 15 + 6 * (k:Int)) (by omega) (by omega)
  have fv0:FV dz w' 0 (B ++ [.work w'] ++ L):=FV.zero_work gd nw
  have j0:=zJ d12 (show (3:Int) ≠ 0 by decide)
  have j1:=zY d12 (show (0:Int) < 3 by decide)
  let Pv12:Nat->St->Hp->Prop:=fun j σ Hq=>∃ (gb gl:Addr) (v12 v13:Option V) (bs ls:List V) (B L:List BR),σ=[some (.ref l),some (.int 0),some (.int most),some (.int many),some (.int n),some (.ref gb),some (.ref E1),some (.ref E2),some (.ref E5),some (.ref gl),some (.int (k:Nat)),some (.str w'),v12,v13,none]/\BkI H Hq E1 E2 E5 gb gl (nm1.map V.str) (nm2.map V.str) (nm5.map V.str) bs ls B L/\Gd n (nm5.take (k + 1)) (B ++ L)/\(∀ r ∈ B ++ L,r.kind < 9)/\B[0]?=some (.days n)/\B.length + L.length<=9 + 15 * k + 1 + 7 * j/\FV dz w' j (B ++ L)
  refine ⟨_,rfl,_,rfl,_,_,rfl,rfl,_,rfl,_,_,rfl,rfl,l,_,_,_,rfl,rfl,hDd.lst,ed12,_,_,rfl,rfl,(by show (0:Int) < _;decide +kernel),d12 % 3,rfl,by omega,by omega,Xs (lo:=0) (n:=(d12 % 3).toNat) Pv12 ⟨gb,gl,v12,v13,_,_,_,_,rfl,I3,gd3,kd3,hd3,by omega,fv0⟩ ?_ ?_⟩
  ·rintro j σ Ha hj ⟨gb,gl,v12,v13,bs,ls,B,L,rfl,I,gd,kd,hd,hl,fv⟩
   have hj2:j<=1:=by omega
   rw [show (0:Int) + (j:Int)=((j:Nat):Int) by omega]
   have hDa:=hD0.same I.sm
   refine ⟨_,rfl,_,rfl,_,_,rfl,rfl,_,rfl,_,_,rfl,rfl,.inl ⟨by decide,by decide⟩,_,_,rfl,rfl,_,rfl,_,_,rfl,rfl,.inl ⟨by decide,by decide⟩,_,_,rfl,rfl,_,rfl,_,rfl,_,rfl,_,rfl,_,rfl,l,E1,E2,ds,_,_,n,w',nm1,nm2,rfl,hDa,by omega,by omega,by omega,by omega,hn1,hn12,Qb I.h1,Qb I.h2,by omega,by omega,nd1,nd2,fun g6 vs6 R6 v H7 s7 f6 hg6 hB6 hv vl hW lR=>?_⟩
   have hv':=hv dz (by rw [show (0:Int) + 15 + 6 * ((k:Nat):Int) + 3 * ((j:Nat):Int) - 3 * ((j:Nat):Int)=0 + 15 + 6 * (k:Int) by omega];exact edz)
   obtain ⟨gdw,fvw⟩:=gd.way (Yn ew) hW fv hj2 hv'
   have kw:∀ r ∈ B ++ L ++ R6,r.kind < 9:=fun r hr=>by
    rcases zQ.mp hr with y | y
    ·exact kd r y
    ·have:=(Qgo hW r y).2.2.1;omega
   have I7:=I.same s7
   have hD7:=hD0.same I7.sm
   have lb:=I7.rb.length
   have ll:=I7.rl.length
   have l6:=hB6.length
   obtain ⟨d43,ed43,d430,d431⟩:=hD7.at44 h44 (0 + 43)
   refine ⟨_,rfl,_,rfl,_,_,rfl,rfl,l,_,_,_,rfl,rfl,hD7.lst,ed43,_,rfl,_,_,rfl,rfl,_,rfl,_,_,rfl,rfl,.inl ⟨by decide,by decide⟩,_,_,rfl,rfl,_,_,rfl,rfl,Qpd (by omega) (by omega),_,_,rfl,rfl,(by show (0:Int) < _;decide +kernel),rfl,_,rfl,ite2 (fun _=>?_) (fun _=>?_)⟩
   ·refine ⟨_,rfl,_,rfl,g6,gl,vs6,ls,rfl,rfl,hg6,I7.hl,by omega,fun g7 hg7=>?_⟩
    exact ⟨gb,g7,_,_,_,_,_,_,rfl,I7.late hg7 hB6,gdw.perm (Qaa B L R6),fun r hr=>kw r ((Qaa B L R6).mem_iff.mpr hr),hd,by rw [jY];omega,fvw.perm (Qaa B L R6)⟩
   ·refine ⟨_,rfl,_,rfl,gb,g6,bs,vs6,rfl,rfl,I7.hb,hg6,by omega,fun g7 hg7=>?_⟩
    exact ⟨g7,gl,_,_,_,_,_,_,rfl,I7.cat hg7 hB6,gdw.perm (Jx B L R6),fun r hr=>kw r ((Jx B L R6).mem_iff.mpr hr),by rw [jQc (kK.mp hd).1];exact hd,by rw [jY];omega,fvw.perm (Jx B L R6)⟩
  ·rintro σ Hq ⟨gb,gl,v12,v13,bs,ls,B,L,rfl,I,gd,kd,hd,hl,_⟩
   exact ⟨gb,gl,_,_,_,_,bs,ls,B,L,rfl,I,gd,kd,hd,by omega⟩
 rintro σ Ha ⟨gb,gl,v10,v11,v12,v13,bs,ls,B,L,rfl,I,gd,kd,hd,hl⟩
 rw [l5m] at gd hl
 rw [kW] at gd
 have lb:=I.rb.length
 have ll:=I.rl.length
 refine ⟨_,rfl,_,rfl,gb,gl,bs,ls,rfl,rfl,I.hb,I.hl,by omega,fun g8 hg8=>?_⟩
 have I8:=I.cat hg8 I.rl
 have hd8:(B ++ L)[0]?=some (.days n):=by rw [jQc (kK.mp hd).1];exact hd
 have hl8:(B ++ L).length<=54:=by rw [jY];omega
 generalize upd Ha g8 (.lst (bs ++ ls))=H8 at I8 ⊢
 generalize bs ++ ls=bs8 at I8
 generalize B ++ L=B8 at I8 gd kd hd8 hl8
 have at5:∀ (i:Nat) (x:Str),nm5[i]?=some x->atI (nm5.map V.str) ((i:Nat):Int)=some (.str x):=fun i x e=>Qka (by rw [yY,e];rfl)
 have pm:(0:Int) < (if n + 1 < 3 then n + 1 else 3):=by split <;> omega
 have pn:(if n + 1 < 3 then n + 1 else 3)<=n + 1:=by split <;> omega
 refine ⟨_,rfl,E5,_,rfl,.inl (Qb I8.h5),_,_,rfl,⟨by decide,by decide,by omega,by rw [l5m];omega⟩,Xs (lo:=1) (n:=((((nm5.map V.str).length:Nat):Int) - 1).toNat) (fun m σ Hq=>∃ (v10 v14:Option V) (bs:List V) (B:List BR),σ=[some (.ref l),some (.int 0),some (.int most),some (.int many),some (.int n),some (.ref g8),some (.ref E1),some (.ref E2),some (.ref E5),some (.ref gl),v10,v11,v12,v13,v14]/\BkI H Hq E1 E2 E5 g8 gl (nm1.map V.str) (nm2.map V.str) (nm5.map V.str) bs ls B L/\Gd n nm5 B/\(∀ r ∈ B,r.kind < 10)/\(∀ r ∈ B,r.kind=9->∀ w ∈ r.own,w ∈ nm5.take (m + 1))/\B[0]?=some (.days n)/\B.length<=54 + m) ⟨_,_,_,_,rfl,I8,gd,fun r hr=>Nat.lt_trans (kd r hr) (by decide),fun r hr e=>absurd (kd r hr) (by omega),hd8,hl8⟩ ?_ ?_⟩
 ·rintro m σ Ha hm ⟨v10,v14,bs,B,rfl,I,gd,kd,ka,hd,hl⟩
  have hm':m + 1 < nm5.length:=by rw [l5m] at hm;omega
  rw [show (1:Int) + (m:Int)=((m + 1:Nat):Int) by omega]
  obtain ⟨wk,ewk⟩:∃ x,nm5[m + 1]?=some x:=⟨_,gE hm'⟩
  obtain ⟨wp,ewp⟩:∃ x,nm5[m]?=some x:=⟨_,gE (by omega)⟩
  obtain ⟨wf,ewf⟩:∃ x,nm5[0]?=some x:=⟨_,gE (by omega)⟩
  have mp:wp ∈ nm5.take (m + 1):=Yn ewp
  have mf:wf ∈ nm5.take (m + 1):=kX (i:=0) (by rw [List.getElem?_take,if_pos (by omega)];exact ewf)
  have mk':wk ∈ nm5:=kX ewk
  have hDa:=hD0.same I.sm
  obtain ⟨z,ez,z0,z1⟩:=hDa.get (0 + 33 + ((m + 1:Nat):Int)) (by omega) (by omega)
  refine ⟨_,rfl,_,rfl,_,_,rfl,rfl,_,rfl,_,_,rfl,rfl,l,_,_,_,rfl,rfl,hDa.lst,ez,?_⟩
  refine Qgl (fun σ' Hq=>∃ (bs:List V) (B:List BR),σ'=[some (.ref l),some (.int 0),some (.int most),some (.int many),some (.int n),some (.ref g8),some (.ref E1),some (.ref E2),some (.ref E5),some (.ref gl),some (.int ((m + 1:Nat):Int)),v11,v12,v13,some (.int z)]/\BkI H Hq E1 E2 E5 g8 gl (nm1.map V.str) (nm2.map V.str) (nm5.map V.str) bs ls B L/\Gd n nm5 B/\(∀ r ∈ B,r.kind < 10)/\(∀ r ∈ B,r.kind=9->∀ w ∈ r.own,w ∈ nm5.take (m + 2))/\(z % 3=2->(∀ r ∈ B,r.kind=9->∀ w ∈ r.own,w ∈ nm5.take (m + 1))/\B.length<=54 + m)/\B[0]?=some (.days n)/\B.length<=54 + m + 1) ?_ fun REST=>?_
  ·clear I gd kd ka hd hl hDa
   rintro σ' Ha ⟨bs,B,rfl,I,gd,kd,ka,kz,hd,hl⟩
   refine ⟨_,rfl,_,_,rfl,rfl,(by show (0:Int) < _;decide +kernel),rfl,_,rfl,ite2 (fun c2=>?_) (fun _=>⟨_,_,bs,B,rfl,I,gd,kd,ka,hd,by omega⟩)⟩
   have c2':z % 3=2:=by
    have:=jJ c2
    injection this
   obtain ⟨ka1,hl1⟩:=kz c2'
   refine ⟨_,rfl,.inl ⟨rfl,_,Qb I.hb⟩,_,rfl,_,rfl,E5,_,_,_,rfl,rfl,Qb I.h5,at5 _ _ ewk,_,rfl,E5,_,_,_,rfl,rfl,Qb I.h5,at5 0 _ ewf,_,rfl,_,_,rfl,rfl,⟨by decide,by decide⟩,_,rfl,_,_,rfl,rfl,_,_,rfl,_,_,rfl,rfl,pm,by show 4<=sizeLine;decide,fun p7 hp7=>?_⟩
   have f0:=zJ (z / 3) (Int.ne_of_gt pm)
   have f1:=zY (z / 3) pm
   have I2:=I.same (Qc hp7 (.lst [.str "after",.str wk,.str wf,.int (z / 3 % (if n + 1 < 3 then n + 1 else 3))]))
   have hp8:upd Ha p7 (.lst [.str "after",.str wk,.str wf,.int (z / 3 % (if n + 1 < 3 then n + 1 else 3))]) p7=some (.lst ((BR.after wk wf (z / 3 % (if n + 1 < 3 then n + 1 else 3))).cells.map kV)):=upd_same
   generalize upd Ha p7 (.lst [.str "after",.str wk,.str wf,.int (z / 3 % (if n + 1 < 3 then n + 1 else 3))])=Hc at I2 hp8 ⊢
   have lb2:=I2.rb.length
   have ok:(BR.after wk wf (z / 3 % (if n + 1 < 3 then n + 1 else 3))).ok n:=⟨Ne.symm (Zk nd5 ewk mf),f0,by omega⟩
   refine ⟨g8,_,_,rfl,rfl,I2.hb,by omega,_,_,_,_,rfl,I2.put hp8,gd.put (w:=wk) ok (fun x hx=>hx) (fun x hx=>?_) (fun x hx nx=>absurd hx nx) kZ (fun q hq e hw=>Zk nd5 ewk (ka1 q hq e wk hw) rfl),fun r hr=>?_,fun r hr e w hw=>?_,by rw [jQc (kK.mp hd).1];exact hd,by rw [jY];show B.length + 1<=_;omega⟩
   ·rcases yX.mp hx with y | y
    ·rw [y];exact mk'
    ·rw [jZ.mp y];exact jKb mf
   ·rcases zQ.mp hr with y | y
    ·exact kd r y
    ·rw [jZ.mp y];show (9:Nat) < 10;decide
   ·rcases zQ.mp hr with y | y
    ·exact ka r y e w hw
    ·rw [jZ.mp y] at hw
     rcases yX.mp hw with y | y
     ·rw [y];exact Yn ewk
     ·rw [jZ.mp y];exact Yk ewk mf
  ·have wide:∀ r ∈ B,r.kind=9->∀ w ∈ r.own,w ∈ nm5.take (m + 2):=fun r hr e w hw=>Yk ewk (ka r hr e w hw)
   refine ⟨_,rfl,_,_,rfl,rfl,(by show (0:Int) < _;decide +kernel),rfl,_,rfl,ite2 (fun c1=>?_) (fun _=>REST _ _ ⟨bs,B,rfl,I,gd,kd,wide,fun _=>⟨ka,by omega⟩,hd,by omega⟩)⟩
   have c1':z % 3=1:=by
    have:=jJ c1
    injection this
   refine ⟨_,rfl,.inl ⟨rfl,_,Qb I.hb⟩,_,rfl,_,rfl,_,_,rfl,rfl,E5,_,_,_,rfl,rfl,Qb I.h5,by rw [show ((m + 1:Nat):Int) - 1=((m:Nat):Int) by omega];exact at5 _ _ ewp,_,rfl,_,rfl,E5,_,_,_,rfl,rfl,Qb I.h5,at5 _ _ ewk,_,rfl,_,_,rfl,rfl,⟨by decide,by decide⟩,_,rfl,_,_,rfl,rfl,_,_,rfl,_,_,rfl,rfl,pm,by show 4<=sizeLine;decide,fun p7 hp7=>?_⟩
   have f0:=zJ (z / 3) (Int.ne_of_gt pm)
   have f1:=zY (z / 3) pm
   have I2:=I.same (Qc hp7 (.lst [.str "after",.str wp,.str wk,.int (z / 3 % (if n + 1 < 3 then n + 1 else 3))]))
   have hp8:upd Ha p7 (.lst [.str "after",.str wp,.str wk,.int (z / 3 % (if n + 1 < 3 then n + 1 else 3))]) p7=some (.lst ((BR.after wp wk (z / 3 % (if n + 1 < 3 then n + 1 else 3))).cells.map kV)):=upd_same
   generalize upd Ha p7 (.lst [.str "after",.str wp,.str wk,.int (z / 3 % (if n + 1 < 3 then n + 1 else 3))])=Hc at I2 hp8 ⊢
   have lb2:=I2.rb.length
   have ok:(BR.after wp wk (z / 3 % (if n + 1 < 3 then n + 1 else 3))).ok n:=⟨Zk nd5 ewk mp,f0,by omega⟩
   refine ⟨g8,_,_,rfl,rfl,I2.hb,by omega,REST _ _ ⟨_,_,rfl,I2.put hp8,gd.put (w:=wk) ok (fun x hx=>hx) (fun x hx=>?_) (fun x hx nx=>absurd hx nx) (yZ _ kZ) (fun q hq e hw=>Zk nd5 ewk (ka q hq e wk hw) rfl),fun r hr=>?_,fun r hr e w hw=>?_,fun c=>absurd c (by omega),by rw [jQc (kK.mp hd).1];exact hd,by rw [jY];show B.length + 1<=_;omega⟩⟩
   ·rcases yX.mp hx with y | y
    ·rw [y];exact jKb mp
    ·rw [jZ.mp y];exact mk'
   ·rcases zQ.mp hr with y | y
    ·exact kd r y
    ·rw [jZ.mp y];show (9:Nat) < 10;decide
   ·rcases zQ.mp hr with y | y
    ·exact wide r y e w hw
    ·rw [jZ.mp y] at hw
     rcases yX.mp hw with y | y
     ·rw [y];exact Yk ewk mp
     ·rw [jZ.mp y];exact Yn ewk
 rintro σ H9 ⟨v10,v14,bs9,B9,rfl,I9,gd9,kd9,_,hd9,hl9⟩
 have hl9:B9.length<=54 + 2:=by rw [l5m] at hl9;omega
 let Pv13:Nat->St->Hp->Prop:=fun k σ Hq=>∃ (v10 v11 v14:Option V) (bs:List V) (B:List BR),σ=[some (.ref l),some (.int 0),some (.int most),some (.int many),some (.int n),some (.ref g8),some (.ref E1),some (.ref E2),some (.ref E5),some (.ref gl),v10,v11,v12,v13,v14]/\BkI H Hq E1 E2 E5 g8 gl (nm1.map V.str) (nm2.map V.str) (nm5.map V.str) bs ls B L/\Gd n nm5 B/\(∀ r ∈ B,r.kind=10->∀ w ∈ r.own,w ∈ nm5.take k)/\B[0]?=some (.days n)/\B.length<=56 + k
 refine ⟨_,rfl,E5,rfl,⟨_,Qb I9.h5⟩,Ks (K:=K) (m:=true) (a:=E5) (xs:=nm5.map V.str) Pv13 ⟨_,_,_,_,_,rfl,I9,gd9,fun r hr e=>absurd (kd9 r hr) (by omega),hd9,by omega⟩ (fun k σ Hq _ h=>?_) ?_ ?_⟩
 ·obtain ⟨v10,v11,v14,bs,B,rfl,I,gd,kd,hd,hl⟩:=h
  exact Qb I.h5
 ·rintro k x σ Ha T e1 ⟨v10,v11,v14,bs,B,rfl,I,gd,kd,hd,hl⟩ hTn
  obtain ⟨w',ew,rfl⟩:=Ja e1
  have hk:k < nm5.length:=(kK.mp ew).1
  refine ⟨T,_,rfl,Qu upd_same,rfl,_,_,rfl,_,_,rfl,rfl,?_⟩
  have I1:=I.same (Qc hTn (.tup [.int (k:Nat),.str w']))
  generalize upd Ha T (.tup [.int (k:Nat),.str w'])=Hb at I1 ⊢
  have hDb:=hD0.same I1.sm
  obtain ⟨z,ez,z0,z1⟩:=hDb.get (0 + 36 + (k:Int)) (by omega) (by omega)
  refine ⟨_,rfl,_,rfl,_,_,rfl,rfl,_,rfl,_,_,rfl,rfl,l,_,_,_,rfl,rfl,hDb.lst,ez,?_⟩
  refine ⟨_,rfl,_,_,rfl,rfl,(by show (0:Int) < _;decide +kernel),rfl,_,rfl,ite2 (fun _=>?_) (fun _=>⟨_,_,_,bs,B,rfl,I1,gd,fun r hr e w hw=>Yk ew (kd r hr e w hw),hd,by omega⟩)⟩
  refine ⟨_,rfl,.inl ⟨rfl,_,Qb I1.hb⟩,_,rfl,_,rfl,_,_,rfl,rfl,⟨by decide,by decide⟩,_,rfl,_,_,rfl,rfl,_,_,rfl,rfl,by omega,_,rfl,_,_,rfl,rfl,⟨by decide,by decide⟩,_,_,rfl,rfl,(by show (0:Int) < _;decide +kernel),_,_,rfl,rfl,by show 4<=sizeLine;decide,fun p7 hp7=>?_⟩
  have f0:=zJ (z / 2) (show n + 1 ≠ 0 by omega)
  have f1:=zY (z / 2) (show 0 < n + 1 by omega)
  have f2:=zJ (z / 24) (show (9:Int) ≠ 0 by decide)
  have f3:=zY (z / 24) (show (0:Int) < 9 by decide)
  have I2:=I1.same (Qc hp7 (.lst [.str "late",.str w',.int (z / 2 % (n + 1)),.int (1 + z / 24 % 9)]))
  have hp8:upd Hb p7 (.lst [.str "late",.str w',.int (z / 2 % (n + 1)),.int (1 + z / 24 % 9)]) p7=some (.lst ((BR.late w' (z / 2 % (n + 1)) (1 + z / 24 % 9)).cells.map kV)):=upd_same
  generalize upd Hb p7 (.lst [.str "late",.str w',.int (z / 2 % (n + 1)),.int (1 + z / 24 % 9)])=Hc at I2 hp8 ⊢
  have lb2:=I2.rb.length
  have ok:(BR.late w' (z / 2 % (n + 1)) (1 + z / 24 % 9)).ok n:=⟨f0,by omega,by omega,by omega⟩
  have mw:w' ∈ nm5:=kX ew
  refine ⟨g8,_,_,rfl,rfl,I2.hb,by omega,_,_,_,_,_,rfl,I2.put hp8,gd.put (w:=w') ok (fun x hx=>hx) (fun x hx=>by rw [jZ.mp hx];exact mw) (fun x hx nx=>absurd hx nx) (jZ.mpr rfl) (fun q hq e hw=>Zk nd5 ew (kd q hq e w' hw) rfl),fun r hr e w hw=>?_,by rw [jQc (kK.mp hd).1];exact hd,by rw [jY];show B.length + 1<=_;omega⟩
  rcases zQ.mp hr with y | y
  ·exact Yk ew (kd r y e w hw)
  ·rw [jZ.mp y] at hw;rw [jZ.mp hw];exact Yn ew
 ·rintro σ Hq ⟨v10,v11,v14,bs,B,rfl,I,gd,kd,hd,hl⟩
  rw [l5m] at hl
  exact ⟨_,rfl,qq g8 bs n B Hq I.sm I.fb I.hb I.rb ⟨hn1,hn12,gd.wb (by omega) (by omega),hd,gd.wy⟩⟩
end
end Nb
namespace L2
open PySem PySem.Spec PyProof.Rows
theorem is_kV {P:Program} {w:World} {k:Key} {u:Value} (h:(Xl P w).is k u=true):RelV (kV k) u:=by
 rw [Qhr] at h
 rcases Ye h with ⟨i,t,rfl,rfl⟩ | ⟨x,t,rfl,rfl⟩
 ·exact ⟨t,rfl⟩
 ·exact ⟨t,rfl⟩
section
variable {X:Cx} {pins:List (Addr × Obj)} {σ:St} {H:Hp} {s:Shared} {d:Addr} {kvs:List (Key × V)} {o:Obj}
def NF (X:Cx) (d:Addr):Prop:=∀ o u,X.H₀ d ≠ some (.frz o u)
theorem Inv.nf (I:Inv X pins σ H s) (e:H d=some (.dK kvs)):NF X d:=fun o u z=>by
 have:=I.base.frzs d o u z
 rw [e] at this
 cases this
theorem Inv.freeze (I:Inv X pins σ H s) (e:H d=some (.dK kvs)):∃ o,s.heap.get? d=some o/\Inv X pins σ (upd H d (.frz o (.dK kvs))) s:=by
 obtain ⟨z,hd,vs,rel,dd⟩:=Qan I.hok e
 obtain ⟨o,es,ep,h1,h2⟩:=id dd
 exact ⟨o,h1,Ki (t':=s.toks) I (by rw [e];exact True.intro) (Heap.SameBut.refl _ _) ⟨o,h1⟩ ⟨h1,z,hd,vs,rel,dd⟩⟩
theorem Inv.thaw (I:Inv X pins σ H s) (nf:NF X d) (e:H d=some (.frz o (.dK kvs))):Inv X pins σ (upd H d (.dK kvs)) s:=by
 have ne:∀ b,H b=none->b ≠ d:=fun b n z=>by rw [z,e] at n;cases n
 have ok:ObjOk X.prog X.w H s.heap d (.frz o (.dK kvs)):=I.hok d _ e
 obtain ⟨_,z,hd,vs,rel,dd⟩:=ok
 refine ⟨I.ok,I.os,I.bare,⟨I.base.keep,I.base.slot,fun b q e1 n hx=>?_,I.base.there,fun b xs q=>?_,fun b o' u q=>?_,fun b ps q=>?_⟩,I.loc,I.cell,?_,fun x c q=>?_,fun p hp=>?_,fun b u q=>?_,I.len⟩
 ·have n1:=I.base.free b q e1 n hx
  rw [Qi (ne b n1)];exact n1
 ·have q1:=I.base.tups b xs q
  rw [Qi (Yp q1 e (by intro z;cases z))];exact q1
 ·have q1:=I.base.frzs b o' u q
  rw [Qi (fun z=>by subst z;exact nf _ _ q)];exact q1
 ·obtain ⟨m,q1⟩:=I.base.tbls b ps q
  exact ⟨m,by rw [Qi (Yp q1 e (by intro z;cases z))];exact q1⟩
 ·rw [Qi (ne _ I.free)];exact I.free
 ·have n1:=I.freeC x c q
  rw [Qi (ne _ n1)];exact n1
 ·obtain ⟨a1,a2,a3⟩:=I.pin p hp
  exact ⟨a1,by rw [Qi (ne _ a2)];exact a2,a3⟩
 ·by_cases hb:b=d
  ·subst hb
   rw [upd_same] at q
   cases q
   exact ⟨z,hd,vs,rel,dd⟩
  ·rw [Qi hb] at q
   exact (I.hok b u q).stay (fun _ _ _ r=>r) (fun c r=>by rw [Qi (Yp r e (by intro z;cases z))];exact r) fun c xs r=>by rw [Qi (Yp r e (by intro z;cases z))];exact r
end
theorem Qkw {P:Program} {w:World} {H:Hp} {h:Heap} {d:Addr} {o:Obj} {kvs:List (Key × V)} {es:Array DictEntry} {ep:Nat} (ok:HOk P w H h) (e:H d=some (.frz o (.dK kvs))) (hd:o.data=.dict es ep):∃ vs,KV kvs vs/\h.DictAt (Xl P w) d vs ep:=by
 obtain ⟨h0,z,hn,vs,rel,ob,es',ep',h1,h2,h3,h4⟩:=(show ObjOk P w H h d (.frz o (.dK kvs)) from ok d _ e)
 rw [h0] at h1
 cases h1
 rw [hd] at h3
 cases h3
 exact ⟨vs,rel,o,es,h0,h2,hd,h4⟩
section
variable {X:Cx}
def Thw (F:Addr->Prop) (D:Ends):Ends where
 nx:=fun σ H=>∃ d o kvs,F d/\H d=some (.frz o (.dK kvs))/\D.nx σ (upd H d (.dK kvs))
 rt:=fun v H=>∃ d o kvs,F d/\H d=some (.frz o (.dK kvs))/\D.rt v (upd H d (.dK kvs))
 bk:=fun σ H=>∃ d o kvs,F d/\H d=some (.frz o (.dK kvs))/\D.bk σ (upd H d (.dK kvs))
 ct:=fun σ H=>∃ d o kvs,F d/\H d=some (.frz o (.dK kvs))/\D.ct σ (upd H d (.dK kvs))
def tThw (F:Addr->Prop) (t:TS):TS:=fun D σ H=>t (Thw F D) σ H
theorem Qqn {st:Stmt} {t:TS} (h:PS X st t):PS X st (tThw (NF X) t):=by
 intro pins s σ H D I q
 refine thn (h pins s σ H _ I q) fun f s' p=>?_
 cases f with
 | next=>obtain ⟨σ',H',I',d,o,kvs,nf,e,r⟩:=p;exact ⟨σ',_,I'.thaw nf e,r⟩
 | brk=>obtain ⟨σ',H',I',d,o,kvs,nf,e,r⟩:=p;exact ⟨σ',_,I'.thaw nf e,r⟩
 | cont=>obtain ⟨σ',H',I',d,o,kvs,nf,e,r⟩:=p;exact ⟨σ',_,I'.thaw nf e,r⟩
 | ret u=>obtain ⟨v,σ',H',I',rv,d,o,kvs,nf,e,r⟩:=p;exact ⟨v,σ',_,I'.thaw nf e,rv,r⟩
end
end L2
namespace L2
open PySem PySem.Spec PyProof.Rows PySem.SeqAt
end L2
namespace Nb
open PySem L2
def flB:BR->Nat
 | .bench b _=>fl b
 | _=>0
def flS:BR->Nat
 | .store s _ _=>fl s
 | _=>0
theorem eqS {a b:Str} (h:decide (V.str a=V.str b)=true):a=b:=by
 have:=jJ h
 injection this
theorem yesS (a:Str):decide (V.str a=V.str a)=true:=kQ rfl
theorem Qil {α:Type} {R:α->α->Prop}:∀ {l:List α} {i j:Nat} {x y:α},l.Pairwise R->i < j->l[i]?=some x->l[j]?=some y->R x y
 | a :: l,0,j + 1,x,y,h,_,e1,e2=>by
  cases e1
  exact (jZe.mp h).1 y (kX (show l[j]?=some y from e2))
 | a :: l,i + 1,j + 1,x,y,h,hij,e1,e2=>Qil (jZe.mp h).2 (by omega) (show l[i]?=some x from e1) (show l[j]?=some y from e2)
 | [],_,_,_,_,_,_,e1,_=>nomatch e1
 | _ :: _,_,0,_,_,_,h,_,_=>absurd h (kZe _)
theorem Qnf (ks:List Key) (lo hi:Option Int):∃ ls:List Key,cutV (ks.map kV) lo hi=ls.map kV:=by
 unfold cutV
 rw [jX]
 exact ⟨(ks.drop (HT.sIx ks.length 0 lo)).take (HT.sIx ks.length ks.length hi - HT.sIx ks.length 0 lo),by rw [List.map_take,List.map_drop]⟩
theorem Wa {X:Cx} {K:Fg} (hK:X.K=K):SlR X (rSlL K):=by subst hK;exact Qjj
def isWay (w:Str):BR->Bool
 | .way w' _ _ _=>decide (w'=w)
 | _=>false
theorem Zi {α:Type} {B:List α} {i:Nat} {r:α} (p:α->Bool) (h:B[i]?=some r):(B.take (i + 1)).filter p=(B.take i).filter p ++ (if p r=true then [r] else []):=by
 rw [Ze h,wX]
 by_cases c:p r=true
 ·rw [if_pos c,kQd c,List.filter_nil]
 ·rw [if_neg c,kQe c,List.filter_nil]
def lenOf (w v:Str):BR->Option Int
 | .way w' v' l _=>if w'=w/\v'=v then some l else none
 | _=>none
theorem lenOf_some {w v:Str} {r:BR} {x:Int}:lenOf w v r=some x ↔ ∃ c,r=.way w v x c:=by
 constructor
 ·intro h
  cases r with
  | way w' v' l c =>
   have h':(if w'=w/\v'=v then some l else none)=some x:=h
   by_cases e:w'=w/\v'=v
   ·rw [if_pos e] at h'
    cases h'
    rw [e.1,e.2]
    exact ⟨c,rfl⟩
   ·rw [if_neg e] at h';cases h'
  | _=>cases h
 ·rintro ⟨c,rfl⟩
  exact if_pos ⟨rfl,rfl⟩
theorem Yd {α β:Type} {B:List α} {i:Nat} {r:α} (p:α->Option β) (h:B[i]?=some r):(B.take (i + 1)).filterMap p=(B.take i).filterMap p ++ (p r).toList:=by
 rw [Ze h,List.filterMap_append]
 congr 1
theorem WB.uniq {n:Int} {B:List BR} (h:WB n B) {r q:BR} (hr:r ∈ B) (hq:q ∈ B) (hk:r.key=q.key) (hs:r.word ≠ "shut"):r=q:=by
 obtain ⟨i,ei⟩:=jYa.mp hr
 obtain ⟨j,ej⟩:=jYa.mp hq
 have hs':q.word ≠ "shut":=by
  have h1:((Sum.inr r.word:Key) :: r.names.map Sum.inr)=Sum.inr q.word :: q.names.map Sum.inr:=hk
  injection h1 with h2
  rw [← Sum.inr.inj h2];exact hs
 rcases Nat.lt_trichotomy i j with c | c | c
 ·rcases Qil h.nd c ei ej with z | z | z
  ·exact absurd z hs
  ·exact absurd z hs'
  ·exact absurd hk z
 ·subst c
  exact Option.some.inj (ei.symm.trans ej)
 ·rcases Qil h.nd c ej ei with z | z | z
  ·exact absurd z hs'
  ·exact absurd z hs
  ·exact absurd hk.symm z
theorem WB.way1 {n:Int} {B:List BR} (h:WB n B) {w v:Str} {l c l' c':Int} (h1:.way w v l c ∈ B) (h2:.way w v l' c' ∈ B):l=l'/\c=c':=by
 have:=h.uniq h1 h2 rfl (by show ¬ (("way":Str)="shut");decide +kernel)
 cases this
 exact ⟨rfl,rfl⟩
def Kd (k:Fin 3) (w v t:Str):BR->Option Int
 | .use k' w' v' t' m=>if k'=k/\w'=w/\v'=v/\t'=t then some m else none
 | _=>none
def Yx (B:List BR) (k:Fin 3) (w v t:Str):Int:=(B.filterMap (Kd k w v t)).sum
theorem Qgq {r:BR} {k:Fin 3} (h:r.word=useW k):∃ w v t m,r=.use k w v t m:=by
 have hk:r.kind=6 + k.val:=by
  have e:useW k=wordOf (6 + k.val):=by match k with | 0=>rfl | 1=>rfl | 2=>rfl
  exact (Zy r (by have:=k.isLt;omega)).mp (h.trans e)
 cases r with
 | use k' w v t m =>
  have e:6 + k'.val=6 + k.val:=hk
  have e2:k'=k:=Fin.ext (by omega)
  subst e2
  exact ⟨w,v,t,m,rfl⟩
 | days n=>exact absurd (show (0:Nat)=6 + k.val from hk) (by omega)
 | bench b r=>exact absurd (show (1:Nat)=6 + k.val from hk) (by omega)
 | shut b f t=>exact absurd (show (2:Nat)=6 + k.val from hk) (by omega)
 | store b m f=>exact absurd (show (3:Nat)=6 + k.val from hk) (by omega)
 | work w=>exact absurd (show (4:Nat)=6 + k.val from hk) (by omega)
 | way w v l c=>exact absurd (show (5:Nat)=6 + k.val from hk) (by omega)
 | after w x g=>exact absurd (show (9:Nat)=6 + k.val from hk) (by have:=k.isLt;omega)
 | late w d c=>exact absurd (show (10:Nat)=6 + k.val from hk) (by have:=k.isLt;omega)
theorem manyOf_some {k:Fin 3} {w v t:Str} {r:BR} {x:Int}:Kd k w v t r=some x ↔ r=.use k w v t x:=by
 constructor
 ·intro h
  cases r with
  | use k' w' v' t' m =>
   have h':(if k'=k/\w'=w/\v'=v/\t'=t then some m else none)=some x:=h
   by_cases e:k'=k/\w'=w/\v'=v/\t'=t
   ·rw [if_pos e] at h'
    cases h'
    obtain ⟨rfl,rfl,rfl,rfl⟩:=e
    rfl
   ·rw [if_neg e] at h';cases h'
  | _=>cases h
 ·rintro rfl
  exact if_pos ⟨rfl,rfl,rfl,rfl⟩
def Xz:BR->Option Str
 | .work w=>some w
 | _=>none
def wks (B:List BR):List Str:=B.filterMap Xz
theorem Kv {r:BR} (h:r.word ≠ "work"):Xz r=none:=by
 cases r with
 | work w=>exact absurd rfl h
 | _=>rfl
theorem wks_mem {B:List BR} {w:Str}:w ∈ wks B ↔ BR.work w ∈ B:=by
 unfold wks
 rw [yJ]
 constructor
 ·rintro ⟨r,hr,e⟩
  cases r with
  | work w'=>cases e;exact hr
  | _=>cases e
 ·exact fun h=>⟨_,h,rfl⟩
theorem Qdr {n:Int} {B:List BR} (h:WB n B):(wks B).Nodup:=by
 unfold wks List.Nodup
 rw [kQf]
 refine h.nd.imp fun {r q} ha w hw w' hw' e=>?_
 cases r with
 | work x =>
  cases hw
  cases q with
  | work y =>
   cases hw'
   subst e
   rcases ha with z | z | z
   ·exact absurd z (by show ¬ (("work":Str)="shut");decide +kernel)
   ·exact absurd z (by show ¬ (("work":Str)="shut");decide +kernel)
   ·exact z rfl
  | _=>cases hw'
 | _=>cases hw
theorem PlanAt.same {K:Fg} {H H':Hp} {d:Addr} {pl:List (Str × Str × Int)} (h:PlanAt K H d pl) (s:Same H H'):PlanAt K H' d pl:=by
 obtain ⟨kvs,h1,h2⟩:=h
 exact ⟨kvs,s _ _ h1,Paired.mapP h2 fun _ _ ⟨e,t,e2,z⟩=>⟨e,t,e2,s.tup z⟩⟩
structure PlanFor (n:Int) (B:List BR) (pl:List (Str × Str × Int)):Prop where
 keys:pl.map (·.1)=wks B
 good:∀ p ∈ pl,∃ l c,BR.way p.1 p.2.1 l c ∈ B/\0<=p.2.2/\p.2.2 + l<=n
theorem Je {K:Fg} {H:Hp} {kvs:List (Key × V)} {pl:List (Str × Str × Int)} (h:Paired (fun (p:Key × V) (q:Str × Str × Int)=>p.1=Sum.inr q.1/\∃ t,p.2=.ref t/\SqT K H t [.str q.2.1,.int q.2.2]) kvs pl):kvs.map (·.1)=(pl.map (·.1)).map Sum.inr:=by
 induction h with
 | nil=>rfl
 | cons z _ ih=>rw [yQ,yQ,yQ,ih,z.1]
def lenB (B:List BR) (w v:Str):Int:=(B.filterMap (lenOf w v)).headD 0
def Zc (b:Str) (day:Int):BR->Bool
 | .shut b' f t=>decide (b'=b/\f<=day/\day < t)
 | _=>false
theorem Qkx {b:Str} {day:Int} {r:BR} (h:r.word ≠ "shut"):Zc b day r=false:=by
 cases r with
 | shut b' f t=>exact absurd rfl h
 | _=>rfl
theorem Qds {r:BR} (h:r.word="shut"):∃ b f t,r=.shut b f t:=by
 have hk:r.kind=2:=(Zy r (k:=2) (by decide)).mp h
 cases r with
 | shut b f t=>exact ⟨b,f,t,rfl⟩
 | use k _ _ _ _=>exact absurd (show 6 + k.val=2 from hk) (by omega)
 | _=>exact nomatch hk
def Kw (B:List BR) (b:Str) (r day:Int):Int:=if (B.filter (Zc b day)).length=0 then r else 0
def useR (B:List BR) (b:Str) (day:Int) (p:Str × Str × Int):Int:=if p.2.2<=day/\day < p.2.2 + lenB B p.1 p.2.1 then Yx B 0 p.1 p.2.1 b else 0
def Qao (B:List BR) (pl:List (Str × Str × Int)) (b:Str) (r day:Int):Int:=Kw B b r day - (pl.map (useR B b day)).sum
def Qgr (n:Int) (B:List BR) (pl:List (Str × Str × Int)):Prop:=∀ p ∈ pl,∃ l c,BR.way p.1 p.2.1 l c ∈ B/\0<=p.2.2/\p.2.2 + l<=n
theorem Zn {n:Int} {B:List BR} (wb:WB n B) {w v:Str} {l c:Int} (h:BR.way w v l c ∈ B):lenB B w v=l:=by
 have hx:∀ x ∈ B.filterMap (lenOf w v),x=l:=fun x hx=>by
  obtain ⟨r,hr,e⟩:=yJ.mp hx
  obtain ⟨c',rfl⟩:=lenOf_some.mp e
  exact (wb.way1 hr h).1
 have hne:l ∈ B.filterMap (lenOf w v):=yJ.mpr ⟨_,h,lenOf_some.mpr ⟨c,rfl⟩⟩
 unfold lenB
 cases e:B.filterMap (lenOf w v) with
 | nil=>rw [e] at hne;exact nomatch hne
 | cons a b=>exact hx a (by rw [e];exact kZ)
def chP (B:List BR) (st:Str) (day:Int) (p:Str × Str × Int):Int:=(if p.2.2 + lenB B p.1 p.2.1=day then Yx B 2 p.1 p.2.1 st else 0) - (if p.2.2=day then Yx B 1 p.1 p.2.1 st else 0)
def chR (B:List BR) (pl:List (Str × Str × Int)) (st:Str) (day:Int):Int:=(pl.map (chP B st day)).sum
def Zo (B:List BR) (pl:List (Str × Str × Int)) (st:Str) (f:Int) (day:Nat):Int:=f + ((List.range (day + 1)).map fun dd:Nat=>chR B pl st dd).sum
theorem Yy (f:Nat->Int) (i:Nat):((List.range (i + 1)).map f).sum=((List.range i).map f).sum + f i:=by
 rw [jKa,kJ,kYc]
 show _ + (f i + 0)=_
 omega
def hasK (pl:List (Str × Str × Int)) (w:Str):Bool:=pl.any fun p=>decide (p.1=w)
theorem Qky {K:Fg} {H:Hp} {kvs:List (Key × V)} {pl:List (Str × Str × Int)} {w:Str} (h:Paired (fun (p:Key × V) (q:Str × Str × Int)=>p.1=Sum.inr q.1/\∃ t,p.2=.ref t/\SqT K H t [.str q.2.1,.int q.2.2]) kvs pl):(valV kvs (Sum.inr w)).isSome=hasK pl w:=by
 induction h with
 | nil=>rfl
 | @cons p q ps qs z _ ih =>
  unfold hasK at ih ⊢
  rw [kXc]
  by_cases e:q.1=w
  ·rw [Yv (z.1.trans (by rw [e])),kQ e]
   rfl
  ·rw [Yw (fun h=>e (Sum.inr.inj (z.1.symm.trans h))),xJ e,ih]
   rfl
theorem hasK_iff {pl:List (Str × Str × Int)} {w:Str}:hasK pl w=true ↔ w ∈ pl.map (·.1):=by
 unfold hasK
 rw [jXc]
 constructor
 ·rintro ⟨p,hp,e⟩
  exact xQ.mpr ⟨p,hp,jJ e⟩
 ·intro h
  obtain ⟨p,hp,e⟩:=xQ.mp h
  exact ⟨p,hp,kQ e⟩
def look (pl:List (Str × Str × Int)) (w:Str):Str × Int:=((pl.find? fun p=>decide (p.1=w)).map (·.2)).getD ("",0)
theorem Vh {pl:List (Str × Str × Int)} {w v:Str} {b:Int} (nd:(pl.map (·.1)).Nodup) (h:(w,v,b) ∈ pl):look pl w=(v,b):=by
 have e:pl.find? (fun p=>decide (p.1=w))=some (w,v,b):=by
  induction pl with
  | nil=>exact nomatch h
  | cons p pl ih =>
   have nd':(p.1 :: pl.map (·.1)).Nodup:=nd
   obtain ⟨n1,n2⟩:=jYc.mp nd'
   rcases yX.mp h with e | e
   ·rw [List.find?_cons_of_pos (by rw [← e];exact kQ rfl),e]
   ·have ne:¬ p.1=w:=fun z=>n1 (by rw [z];exact xQ.mpr ⟨_,e,rfl⟩)
    rw [List.find?_cons_of_neg (by simpa using ne)]
    exact ih n2 e
 unfold look
 rw [e]
 rfl
theorem PlanFor.nd {n:Int} {B:List BR} {pl:List (Str × Str × Int)} (h:PlanFor n B pl) (wb:WB n B):(pl.map (·.1)).Nodup:=by
 rw [h.keys]
 exact Qdr wb
theorem PlanFor.get {n:Int} {B:List BR} {pl:List (Str × Str × Int)} (h:PlanFor n B pl) (wb:WB n B) {w:Str} (hw:hasK pl w=true):∃ l c,(w,(look pl w).1,(look pl w).2) ∈ pl/\BR.way w (look pl w).1 l c ∈ B/\0<=(look pl w).2/\(look pl w).2 + l<=n:=by
 obtain ⟨⟨w',v,b⟩,hp,e⟩:=xQ.mp (hasK_iff.mp hw)
 have e':w'=w:=e
 subst e'
 rw [Vh (h.nd wb) hp]
 obtain ⟨l,c,h1,h2,h3⟩:=h.good _ hp
 exact ⟨l,c,hp,h1,h2,h3⟩
theorem Kj {α β:Type} {R:α->β->Prop} {xs:List α} {ys:List β} (h:Paired R xs ys):∀ {i:Nat} {y:β},ys[i]?=some y->∃ x,xs[i]?=some x/\R x y:=by
 induction h with
 | nil=>intro i x e;exact nomatch e
 | cons z _ ih =>
  intro i x e
  match i with
  | 0=>cases e;exact ⟨_,rfl,z⟩
  | i + 1=>exact ih (show _=some x from e)
theorem Qng {K:Fg} {H:Hp} {P:Addr} {pl:List (Str × Str × Int)} {w v:Str} {b:Int} (h:PlanAt K H P pl) (nd:(pl.map (·.1)).Nodup) (hm:(w,v,b) ∈ pl):∃ t,DGet H P (.str w) (some (.ref t))/\SqT K H t [.str v,.int b]:=by
 obtain ⟨kvs,h1,h2⟩:=h
 obtain ⟨i,ei⟩:=jYa.mp hm
 obtain ⟨⟨k,x⟩,ex,ek,t,et,hT⟩:=Kj h2 ei
 have ek':k=Sum.inr w:=ek
 have et':x=.ref t:=et
 subst ek' et'
 have ndk:(kvs.map (·.1)).Nodup:=by
  rw [Je h2]
  exact List.Pairwise.map Sum.inr (fun a b (hab:a ≠ b) e=>hab (Sum.inr.inj e)) nd
 have hv:valV kvs (Sum.inr w)=some (.ref t):=Qdn ndk ex
 have hg:=DGet.k (k:=Sum.inr w) h1
 rw [hv] at hg
 exact ⟨t,hg,hT⟩
def gW (pl:List (Str × Str × Int)):BR->List (List Key)
 | .work w=>if hasK pl w=true then [] else [[Sum.inr ("work":Str),Sum.inr w]]
 | _=>[]
def Jm (f:Int->Prop) [DecidablePred f] (N:Nat):List Nat:=(List.range N).filter fun d=>decide (f d)
def gR (n:Int) (B:List BR) (pl:List (Str × Str × Int)):BR->List (List Key)
 | .bench b r=>(Jm (fun day=>Qao B pl b r day < 0) n.toNat).map fun d:Nat=>[Sum.inr ("room":Str),Sum.inr b,Sum.inl (d:Int)]
 | _=>[]
def gS (n:Int) (B:List BR) (pl:List (Str × Str × Int)):BR->List (List Key)
 | .store st mo fi=>(Jm (fun day=>Zo B pl st fi day.toNat < 0\/mo < Zo B pl st fi day.toNat) (n.toNat + 1)).map fun d:Nat=>[Sum.inr ("store":Str),Sum.inr st,Sum.inl (d:Int)]
 | _=>[]
def gA (B:List BR) (pl:List (Str × Str × Int)):BR->List (List Key)
 | .after w x g=>if (look pl x).2 - (look pl w).2 - lenB B w (look pl w).1 < g then [[Sum.inr ("after":Str),Sum.inr w,Sum.inr x]] else []
 | _=>[]
def dueF (n:Int) (B:List BR) (pl:List (Str × Str × Int)):Option (List Key):=(B.flatMap (gW pl) ++ (B.flatMap (gR n B pl) ++ (B.flatMap (gS n B pl) ++ B.flatMap (gA B pl)))).head?
def DueIs (H:Hp):Option (List Key)->V->Prop
 | none,v=>v=.non
 | some ks,v=>∃ T,v=.ref T/\H T=some (.tup (ks.map kV))
theorem Qcd {α β:Type} {B:List α} {i:Nat} {r:α} (g:α->List β) (h:B[i]?=some r):(B.take (i + 1)).flatMap g=(B.take i).flatMap g ++ g r:=by
 rw [Ze h,jKe]
 congr 1
 show g r ++ []=_
 rw [zZ]
theorem Jy {B:List BR} {pl:List (Str × Str × Int)} (h:B.flatMap (gW pl)=[]) {w:Str} (hw:BR.work w ∈ B):hasK pl w=true:=by
 have h1:=jQf.mp h _ hw
 have h2:(if hasK pl w=true then [] else [[(Sum.inr ("work":Str):Key),Sum.inr w]])=[]:=h1
 by_cases e:hasK pl w=true
 ·exact e
 ·rw [if_neg e] at h2;cases h2
theorem gS_no {n:Int} {B:List BR} {pl:List (Str × Str × Int)} {r:BR} (h:r.word ≠ "store"):gS n B pl r=[]:=by
 cases r with
 | store b m f=>exact absurd rfl h
 | _=>rfl
theorem gA_no {B:List BR} {pl:List (Str × Str × Int)} {r:BR} (h:r.word ≠ "after"):gA B pl r=[]:=by
 cases r with
 | after w x g=>exact absurd rfl h
 | _=>rfl
theorem Qav {r:BR} (h:r.word="bench"):∃ b c,r=.bench b c:=by
 have hk:r.kind=1:=(Zy r (k:=1) (by decide)).mp h
 cases r with
 | bench b c=>exact ⟨b,c,rfl⟩
 | use k _ _ _ _=>exact absurd (show 6 + k.val=1 from hk) (by omega)
 | _=>exact nomatch hk
theorem Jz {r:BR} (h:r.word="store"):∃ b m f,r=.store b m f:=by
 have hk:r.kind=3:=(Zy r (k:=3) (by decide)).mp h
 cases r with
 | store b m f=>exact ⟨b,m,f,rfl⟩
 | use k _ _ _ _=>exact absurd (show 6 + k.val=3 from hk) (by omega)
 | _=>exact nomatch hk
def spDue (K:Fg):Sp:=fun vs H Q _=>∃ (d P:Addr) (n:Int) (us:List V) (B:List BR) (pl:List (Str × Str × Int)),vs=[.ref d,.ref P]/\H d=some (.lst us)/\RowsB H us B/\BookOk n B/\PlanAt K H P pl/\PlanFor n B pl/\∀ (v:V) (H':Hp),Same H H'->DueIs H' (dueF n B pl) v->Q v H'
abbrev Qnh:Stmt:=top 5
abbrev Vi:Stmt:=inClass (top 7) 0
abbrev Qdt:Stmt:=inClass (top 7) 4
def Qce (fN:Str->Option Value):Prop:=∀ r:BR,∃ t,fN r.word=some (.int ((r.names.length:Nat):Int) t)
theorem Qqo (r:BR):r.key.length=1 + r.names.length:=by
 unfold BR.key
 rw [xW,jX]
 omega
theorem Qqp (r:BR):cutV (r.cells.map kV) none (some (1 + ((r.names.length:Nat):Int)))=r.key.map kV:=by
 unfold cutV
 have h1:(1:Int) + ((r.names.length:Nat):Int)=((r.key.length:Nat):Int):=by rw [Qqo];omega
 have h2:r.key.length<=r.cells.length:=by unfold BR.cells;rw [jY];omega
 rw [HT.sIx_none,List.drop_zero,Nat.sub_zero,h1,HT.sIx_nat,jX,kYa h2,← List.map_take]
 unfold BR.cells
 rw [List.take_left']
 rfl
theorem Qni (r:BR):cutV (r.cells.map kV) (some (((r.key.map kV).length:Nat):Int)) none=r.nums.map V.int:=by
 unfold cutV
 have h2:r.key.length<=r.cells.length:=by unfold BR.cells;rw [jY];omega
 rw [HT.sIx_none,HT.sIx_nat,jX,jX,kYa h2,← List.map_drop]
 unfold BR.cells
 rw [List.drop_left',jY,Nat.add_sub_cancel_left,jKc,jXb (by rw [jX,jX];exact jK _)]
 ·rfl
 ·rfl
def Qpe:Sp:=fun vs H Q _=>∃ (l:Addr) (r:BR),vs=[.ref l]/\H l=some (.lst (r.cells.map kV))/\∀ (t:Addr) (H':Hp),Same H H'->H t=none->H' t=some (.tup (r.key.map kV))->Q (.ref t) H'
structure FcTxt (K:Fg) (mg:Str->Option Value) (C:Addr):Prop where
 cl:Cls K C
 nD:NoAttr K C "days"
 nW:NoAttr K C "works"
 nB:NoAttr K C "benches"
 nH:NoAttr K C "shuts"
 nS:NoAttr K C "stores"
 nA:NoAttr K C "afters"
 nI:NoAttr K C "said"
 mgC:mg "Facts"=some (.ref C)
def FrP (p:Addr) (H H':Hp):Prop:=∀ b o,H b=some o->b ≠ p->H' b=some o
theorem RowsB.frP {p:Addr} {H H':Hp} {vs:List V} {B:List BR} {C dx:Addr} {fs:List (Str × V)} (h:RowsB H vs B) (f:FrP p H H') (hp:H p=some (.ins C dx fs)):RowsB H' vs B:=h.imp fun l r _ z=>f _ _ z (Yp z hp (by intro e;cases e))
theorem Qnj {K:Fg} {H:Hp} {P t C dx C' dx':Addr} {fs fs':List (Str × V)} {xs:List V} (hP:H P=some (.ins C dx fs)) (h:SqT K H t xs):SqT K (upd H P (.ins C' dx' fs')) t xs:=by
 rcases h with (h | ⟨p,h⟩) | h
 ·exact .inl (.inl (by rw [Qi (Yp h hP (by intro z;cases z))];exact h))
 ·exact .inl (.inr ⟨p,by rw [Qi (Yp h hP (by intro z;cases z))];exact h⟩)
 ·exact .inr h
def SaidOk (K:Fg) (H:Hp) (kvs:List (List Key × V)) (B:List BR):Prop :=
 (∀ r ∈ B,r.word ≠ "shut"->∃ t,valV kvs r.key=some (.ref t)/\SqT K H t (r.nums.map V.int))/\∀ k:List Key,(∀ r ∈ B,r.key ≠ k)->valV kvs k=none
def Qkz (K:Fg) (H:Hp):List (List Key × V)->List BR->Prop:=Paired fun p r=>p.1=r.key/\∃ t,p.2=.ref t/\SqT K H t (r.nums.map V.int)
theorem Qdu {ps:List (List Key × V)} {k:List Key} (h:∀ p ∈ ps,p.1 ≠ k):∀ m,m<=ps.length->valV (Xg (ps.take m)) k=none:=by
 intro m
 induction m with
 | zero=>intro _;rfl
 | succ m ih =>
  intro hm
  have e:ps[m]?=some ps[m]:=gE hm
  rw [Zx e,Vx,if_neg (fun z=>h _ (kX e) z.symm)]
  exact ih (by omega)
theorem Qdv {ps:List (List Key × V)} {k:List Key} {v:V} {i:Nat} (hi:ps[i]?=some (k,v)) (hu:∀ j p,ps[j]?=some p->p.1=k->j=i):∀ m,i < m->m<=ps.length->valV (Xg (ps.take m)) k=some v:=by
 intro m
 induction m with
 | zero=>intro h;exact absurd h (kZe _)
 | succ m ih =>
  intro h1 hm
  have e:ps[m]?=some ps[m]:=gE hm
  rw [Zx e,Vx]
  by_cases c:m=i
  ·subst c
   have e2:ps[m]=(k,v):=Option.some.inj (e.symm.trans hi)
   rw [e2,if_pos rfl]
  ·rw [if_neg (fun z=>c (hu m _ e z.symm))]
   exact ih (by omega) (by omega)
theorem Qqq {K:Fg} {H:Hp} {ps:List (List Key × V)} {n:Int} {B:List BR} (h:Qkz K H ps B) (wb:WB n B):SaidOk K H (Xg ps) B:=by
 have hl:=Paired.length h
 refine ⟨fun r hr hs=>?_,fun k hk=>?_⟩
 ·obtain ⟨i,ei⟩:=jYa.mp hr
  obtain ⟨⟨k,v⟩,ex,e1,t,e2,hT⟩:=Kj h ei
  have e1':k=r.key:=e1
  have e2':v=.ref t:=e2
  subst e1' e2'
  have il:=(kK.mp ex).1
  have hv:=Qdv ex (fun j p ep hp=>?_) ps.length il (jK _)
  ·rw [kW] at hv
   exact ⟨t,hv,hT⟩
  ·obtain ⟨q,eq,e3,_⟩:=Qr h ep
   have hk:r.key=q.key:=hp.symm.trans e3
   rcases Nat.lt_trichotomy i j with c | c | c
   ·rcases Qil wb.nd c ei eq with z | z | z
    ·exact absurd z hs
    ·have h1:((Sum.inr r.word:Key) :: r.names.map Sum.inr)=Sum.inr q.word :: q.names.map Sum.inr:=hk
     injection h1 with h2
     exact absurd ((Sum.inr.inj h2).trans z) hs
    ·exact absurd hk z
   ·exact c.symm
   ·rcases Qil wb.nd c eq ei with z | z | z
    ·have h1:((Sum.inr r.word:Key) :: r.names.map Sum.inr)=Sum.inr q.word :: q.names.map Sum.inr:=hk
     injection h1 with h2
     exact absurd ((Sum.inr.inj h2).trans z) hs
    ·exact absurd z hs
    ·exact absurd hk.symm z
 ·have hv:=Qdu (ps:=ps) (k:=k) (fun p hp=>?_) ps.length (jK _)
  ·rw [kW] at hv
   exact hv
  ·obtain ⟨i,ei⟩:=jYa.mp hp
   obtain ⟨q,eq,e3,_⟩:=Qr h ei
   rw [e3]
   exact hk q (kX eq)
def wayK (k:List Key):Bool:=decide (k.head?=some (Sum.inr ("way":Str)))
open Classical in
theorem Qnk {kvs:List (List Key × V)} {k:List Key} {v:V}:(putK kvs k v).map (·.1)=if k ∈ kvs.map (·.1) then kvs.map (·.1) else kvs.map (·.1) ++ [k]:=by
 unfold putK
 by_cases h:(kvs.any fun kv=>decide (kv.1=k))=true
 ·rw [if_pos h,if_pos (by
   obtain ⟨x,hx,e⟩:=jXc.mp h
   exact xQ.mpr ⟨x,hx,jJ e⟩),jKc]
  refine wK fun x _=>?_
  show (if x.1=k then (x.1,v) else x).1=x.1
  split <;> rfl
 ·rw [if_neg h,if_neg (fun z=>h (by
   obtain ⟨x,hx,e⟩:=xQ.mp z
   exact jXc.mpr ⟨x,hx,kQ e⟩)),kJ]
  rfl
theorem Qap {ps:List (List Key × V)} {p:List Key->Bool} (hu:∀ (i j:Nat) a b,i < j->ps[i]?=some a->ps[j]?=some b->a.1=b.1->p b.1=false):∀ m,m<=ps.length->((Xg (ps.take m)).map (·.1)).filter p=((ps.take m).map (·.1)).filter p/\∀ x ∈ (Xg (ps.take m)).map (·.1),x ∈ (ps.take m).map (·.1):=by
 intro m
 induction m with
 | zero=>intro _;exact ⟨rfl,fun x hx=>hx⟩
 | succ m ih =>
  intro hm
  have e:ps[m]?=some ps[m]:=gE hm
  obtain ⟨i1,i2⟩:=ih (by omega)
  rw [Zx e,Qnk,Ze e,kJ,wX]
  by_cases c:(ps[m]).1 ∈ (Xg (ps.take m)).map (·.1)
  ·rw [if_pos c]
   obtain ⟨a,ha,ea⟩:=xQ.mp (i2 _ c)
   obtain ⟨i,ei⟩:=jYa.mp ha
   have il:=(kK.mp ei).1
   rw [zK] at il
   rw [List.getElem?_take,if_pos (by omega)] at ei
   have hp:=hu i m a _ (by omega) ei e ea
   refine ⟨?_,fun x hx=>wY _ (i2 x hx)⟩
   rw [i1,show ([ps[m]].map (·.1)).filter p=[] by
    show List.filter p [(ps[m]).1]=[]
    rw [jXd,hp];rfl,zZ]
  ·rw [if_neg c,wX,i1]
   refine ⟨rfl,fun x hx=>?_⟩
   rcases zQ.mp hx with z | z
   ·exact wY _ (i2 x z)
   ·exact xZ _ z
theorem Qim {K:Fg} {H:Hp} {ps:List (List Key × V)} {n:Int} {B:List BR} (h:Qkz K H ps B) (wb:WB n B):((Xg ps).map (·.1)).filter wayK=(B.map BR.key).filter wayK:=by
 have hk:ps.map (·.1)=B.map BR.key:=by
  clear wb
  induction h with
  | nil=>rfl
  | cons z _ ih=>rw [yQ,yQ,z.1,ih]
 have:=(Qap (ps:=ps) (p:=wayK) (fun i j a b hij ea eb e=>?_) ps.length (jK _)).1
 ·rw [kW,hk] at this
  exact this
 ·obtain ⟨r,er,e1,_⟩:=Qr h ea
  obtain ⟨q,eq,e2,_⟩:=Qr h eb
  have hsh:∀ t:BR,t.word="shut"->wayK t.key=false:=fun t ht=>by
   refine xJ fun z=>?_
   have z2:some (Sum.inr t.word:Key)=some (Sum.inr ("way":Str)):=z
   have:=Sum.inr.inj (Option.some.inj z2)
   rw [ht] at this
   exact absurd this (by decide +kernel)
  rw [e2]
  rcases Qil wb.nd hij er eq with z | z | z
  ·rw [← e2,← e,e1];exact hsh r z
  ·exact hsh q z
  ·exact absurd (e1.symm.trans (e.trans e2)) z
def Qfg:BR->Option Str
 | .bench b _=>some b
 | _=>none
def bns (B:List BR):List Str:=B.filterMap Qfg
theorem Qin {r:BR} (h:r.word ≠ "bench"):Qfg r=none:=by
 cases r with
 | bench b c=>exact absurd rfl h
 | _=>rfl
def selW (w:Str) (r:BR):Bool:=decide (r.word=w)
def TupsOf (K:Fg) (H:Hp):List V->List BR->Prop:=Paired fun v r=>∃ t,v=.ref t/\SqT K H t ((r.cells.drop 1).map kV)
theorem Qqr (r:BR):cutV (r.cells.map kV) (some 1) none=(r.cells.drop 1).map kV:=by
 unfold cutV
 have h2:1<=r.cells.length:=by unfold BR.cells BR.key;rw [jY,xW];omega
 rw [HT.sIx_none,show (1:Int)=((1:Nat):Int) from rfl,HT.sIx_nat,jX,kYa h2,← List.map_drop,jXb (by rw [jX,kYf];exact jK _)]
theorem FrP.trans {p:Addr} {H H1 H2:Hp} (a:FrP p H H1) (b:FrP p H1 H2):FrP p H H2:=fun c o e hc=>b c o (a c o e hc) hc
theorem Qqs {K:Fg} {H H':Hp} {p t C dx:Addr} {fs:List (Str × V)} {xs:List V} (h:SqT K H t xs) (f:FrP p H H') (hp:H p=some (.ins C dx fs)):SqT K H' t xs:=by
 rcases h with (h | ⟨q,h⟩) | h
 ·exact .inl (.inl (f _ _ h (Yp h hp (by intro z;cases z))))
 ·exact .inl (.inr ⟨q,f _ _ h (Yp h hp (by intro z;cases z))⟩)
 ·exact .inr h
theorem TupsOf.frP {K:Fg} {H H':Hp} {p C dx:Addr} {fs:List (Str × V)} {ys:List V} {B:List BR} (h:TupsOf K H ys B) (f:FrP p H H') (hp:H p=some (.ins C dx fs)):TupsOf K H' ys B:=Paired.mapP h fun _ _ ⟨t,e,z⟩=>⟨t,e,Qqs z f hp⟩
theorem TupsOf.same {K:Fg} {H H':Hp} {ys:List V} {B:List BR} (h:TupsOf K H ys B) (s:Same H H'):TupsOf K H' ys B:=Paired.mapP h fun _ _ ⟨t,e,z⟩=>⟨t,e,s.tup z⟩
theorem SaidOk.same {K:Fg} {H H':Hp} {kvs:List (List Key × V)} {B:List BR} (h:SaidOk K H kvs B) (s:Same H H'):SaidOk K H' kvs B:=⟨fun r hr hs=>(let ⟨t,a,b⟩:=h.1 r hr hs;⟨t,a,s.tup b⟩),h.2⟩
theorem Xv {H0 H:Hp} {g:Addr} {o:HO} (s:Same H0 H) (h:H0 g=none):Same H0 (upd H g o):=fun b u e=>by
 rw [Qi (Qk e h)];exact s _ _ e
theorem Qdw {α:Type} {f:BR->Option α} (R:Hp->V->α->Prop) (Rs:∀ {H H' v x},Same H H'->R H v x->R H' v x) (Ru:∀ {H g ys zs v x},H g=some (.lst ys)->R H v x->R (upd H g (.lst zs)) v x)
  {K:Fg} {H:Hp} {d D:Addr} {us:List V} {B:List BR} {cs τ0:St} {tt:TT} {te:TE} {Q:Addr->Hp->Prop} (hτ:τ0=none :: cs) (h1:H d=some (.lst us)) (h2:RowsB H us B) (bl:B.length<=400) (hD:H D=none)
  (hs:∀ (r:BR) (lr:Addr) (H1:Hp),r ∈ B->Same H H1->H1 lr=some (.lst (r.cells.map kV))->∀ (P1:V->Hp->Prop) (P2:Hp->Prop),(∀ v H2 x,f r=some x->Same H1 H2->R H2 v x->P1 v H2)->(f r=none->∀ H2,Same H1 H2->P2 H2) ->
   tt (some (.ref lr) :: cs) H1 fun ok H3=>if ok=true then te (some (.ref lr) :: cs) H3 P1 else P2 H3)
  (hd:∀ ys H1,Same H H1->H1 D=some (.lst ys)->Paired (R H1) ys (B.filterMap f)->Q D H1) :
  LcW (Itl K d) D τ0 H (Vu 0) tt te Q:=by
 subst hτ
 have lu:=h2.length
 have hz:(20000:Nat) < sizeLine:=by decide
 let Pv14:Nat->St->List V->Hp->Prop:=fun i τ ys H1=>∃ v:Option V,τ=v :: cs/\Paired (R H1) ys ((B.take i).filterMap f)/\ys.length<=i/\H1 D=some (.lst ys)/\Same H H1
 refine Ym (n:=B.length) Pv14 ?_ (fun i τ ys H1 hi h=>?_) (fun i τ ys H1 hi h=>?_) (fun τ ys H1 h=>?_) ?_ ?_
 ·exact ⟨none,rfl,.nil,jK _,upd_same,Qc hD _⟩
 ·obtain ⟨v,rfl,hR,hl,hE,sv⟩:=h
  exact ⟨hE,by omega⟩
 ·obtain ⟨v,rfl,hR,hl,hE,sv⟩:=h
  exact ⟨us,_,Qb (sv _ _ h1),gE (by omega)⟩
 ·obtain ⟨v,rfl,hR,hl,hE,sv⟩:=h
  exact ⟨us,Qb (sv _ _ h1),by omega⟩
 ·rintro i τ ys H1 x H2 hi ⟨v,rfl,hR,hl,hE,sv⟩ ⟨rfl,e1⟩
  obtain ⟨r,lr,er,rfl,hr⟩:=(h2.same sv).get (e1 _ (Qb (sv _ _ h1)))
  refine hs r lr _ (kX er) sv hr _ _ (fun v H3 x e s3 hx=>⟨s3 _ _ hE,_,rfl,?_,by rw [jY];exact wJ hl,upd_same,Xv (sv.trans s3) hD⟩) (fun e H3 s3=>⟨_,rfl,?_,by omega,s3 _ _ hE,sv.trans s3⟩)
  ·rw [Yd f er,e]
   exact Paired.snoc (Paired.mapP hR fun _ _ z=>Ru (s3 _ _ hE) (Rs s3 z)) (Ru (s3 _ _ hE) hx)
  ·rw [Yd f er,e,jJd,zZ]
   exact Paired.mapP hR fun _ _ z=>Rs s3 z
 ·rintro τ ys H1 ⟨v,rfl,hR,hl,hE,sv⟩
  rw [kW] at hR
  exact hd ys H1 sv hE hR
theorem Jj:∀ {ys:List V} {xs:List Str},Paired (fun v x=>v=V.str x) ys xs->ys=xs.map V.str
 | _,_,.nil=>rfl
 | _,_,.cons e t=>by rw [e,Jj t,yQ]
abbrev fcFs (n:Int) (lw lb lh ls la ds:Addr):List (Str × V):=[("days",.int n),("works",.ref lw),("benches",.ref lb),("shuts",.ref lh),("stores",.ref ls),("afters",.ref la),("said",.ref ds)]
structure FcF (K:Fg) (C:Addr) (H:Hp) (p:Addr) (n:Int) (B:List BR) (dx lw lb lh ls la ds:Addr) (fs:List (Str × V)) (kvs:List (List Key × V)) (yh ys ya:List V):Prop where
 hp:H p=some (.ins C dx fs)
 fe:fs=fcFs n lw lb lh ls la ds
 hW:H lw=some (.lst ((wks B).map V.str))
 hB:H lb=some (.lst ((bns B).map V.str))
 hH:H lh=some (.lst yh)
 hS:H ls=some (.lst ys)
 hA:H la=some (.lst ya)
 tH:TupsOf K H yh (B.filter (selW "shut"))
 tS:TupsOf K H ys (B.filter (selW "store"))
 tA:TupsOf K H ya (B.filter (selW "after"))
 hI:H ds=some (.dT kvs)
 sd:SaidOk K H kvs B
 wo:(kvs.map (·.1)).filter wayK=(B.map BR.key).filter wayK
 kl:kvs.length<=400
def FcAt (K:Fg) (C:Addr) (H:Hp) (p:Addr) (n:Int) (B:List BR):Prop:=∃ dx lw lb lh ls la ds fs kvs yh ys ya,FcF K C H p n B dx lw lb lh ls la ds fs kvs yh ys ya
theorem FcAt.same {K:Fg} {C:Addr} {H H':Hp} {p:Addr} {n:Int} {B:List BR} (h:FcAt K C H p n B) (s:Same H H'):FcAt K C H' p n B:=by
 obtain ⟨dx,lw,lb,lh,ls,la,ds,fs,kvs,yh,ys,ya,h⟩:=h
 exact ⟨dx,lw,lb,lh,ls,la,ds,fs,kvs,yh,ys,ya,{ h with hp:=s _ _ h.hp,hW:=s _ _ h.hW,hB:=s _ _ h.hB,hH:=s _ _ h.hH,hS:=s _ _ h.hS,hA:=s _ _ h.hA,tH:=h.tH.same s,tS:=h.tS.same s,tA:=h.tA.same s,hI:=s _ _ h.hI,sd:=h.sd.same s }⟩
section
variable {K:Fg} {C:Addr} {H:Hp} {p:Addr} {n:Int} {B:List BR} {dx lw lb lh ls la ds:Addr} {fs:List (Str × V)} {kvs:List (List Key × V)} {yh ys ya:List V} (h:FcF K C H p n B dx lw lb lh ls la ds fs kvs yh ys ya)
include h
theorem FcF.fD:fs.lookup ("days":Str)=some (.int n):=h.fe ▸ rfl
theorem FcF.fW:fs.lookup ("works":Str)=some (.ref lw):=h.fe ▸ rfl
theorem FcF.fB:fs.lookup ("benches":Str)=some (.ref lb):=h.fe ▸ rfl
theorem FcF.fH:fs.lookup ("shuts":Str)=some (.ref lh):=h.fe ▸ rfl
theorem FcF.fS:fs.lookup ("stores":Str)=some (.ref ls):=h.fe ▸ rfl
theorem FcF.fA:fs.lookup ("afters":Str)=some (.ref la):=h.fe ▸ rfl
theorem FcF.fI:fs.lookup ("said":Str)=some (.ref ds):=h.fe ▸ rfl
theorem FcF.nE:fs.lookup ("end_of":Str)=none:=h.fe ▸ rfl
theorem FcF.nY:fs.lookup ("is_way":Str)=none:=h.fe ▸ rfl
theorem FcF.nL:fs.lookup ("last_begin":Str)=none:=h.fe ▸ rfl
theorem FcF.nM:fs.lookup ("many":Str)=none:=h.fe ▸ rfl
theorem FcF.nU:fs.lookup ("used_by":Str)=none:=h.fe ▸ rfl
theorem FcF.nG:fs.lookup ("gain_by":Str)=none:=h.fe ▸ rfl
theorem FcF.nR:fs.lookup ("room_of":Str)=none:=h.fe ▸ rfl
theorem FcF.nC:fs.lookup ("all_choices":Str)=none:=h.fe ▸ rfl
theorem FcF.nP:fs.lookup ("price_of":Str)=none:=h.fe ▸ rfl
end
theorem FrP.lst {p b C dx:Addr} {H H':Hp} {fs:List (Str × V)} {ys:List V} (f:FrP p H H') (hp:H p=some (.ins C dx fs)) (h:H b=some (.lst ys)):H' b=some (.lst ys):=f _ _ h (Yp h hp (by intro z;cases z))
theorem FrP.stage {p C dx:Addr} {H0 H H1:Hp} (sv:Same H H1) (fs':List (Str × V)) (g:FrP p H0 H):FrP p H1 (upd H1 p (.ins C dx fs'))/\FrP p H (upd H1 p (.ins C dx fs'))/\FrP p H0 (upd H1 p (.ins C dx fs'))/\upd H1 p (.ins C dx fs') p=some (.ins C dx fs'):=by
 have h1:FrP p H1 (upd H1 p (.ins C dx fs')):=fun b o e hb=>by rw [Qi hb];exact e
 have h2:FrP p H (upd H1 p (.ins C dx fs')):=fun b o e hb=>h1 b o (sv _ _ e) hb
 exact ⟨h1,h2,g.trans h2,upd_same⟩
theorem Vj {f:Str} {v:V} {fs:List (Str × V)} {k:Nat} (h:fs.length<=k):(putF f v fs).length<=k + 1:=jQd (Kf f v fs) (wJ h)
def TpV (K:Fg) (H:Hp) (v:V) (r:BR):Prop:=∃ t,v=.ref t/\SqT K H t ((r.cells.drop 1).map kV)
def SdV (K:Fg) (H:Hp) (v:V) (r:BR):Prop:=∃ t b t6,v=.ref t/\SqT K H t [.ref b,.ref t6]/\H b=some (.tup (r.key.map kV))/\SqT K H t6 (r.nums.map V.int)
theorem Qaw {K:Fg} {H:Hp}:∀ {ys:List V} {B:List BR},Paired (SdV K H) ys B->∃ ps,Qkj K H ys ps/\Qkz K H ps B
 | _,_,.nil=>⟨[],.nil,.nil⟩
 | _,_,.cons ⟨t,b,t6,e,h1,h2,h3⟩ r=>let ⟨ps,a,c⟩:=Qaw r;⟨(_,.ref t6) :: ps,.cons ⟨t,b,e,h1,h2⟩ a,.cons ⟨rfl,t6,rfl,h3⟩ c⟩
def Vk (K:Fg) (C:Addr):Sp:=fun vs H Q _=>∃ (p d dx:Addr) (n:Int) (us:List V) (B:List BR),vs=[.ref p,.ref d]/\H p=some (.ins C dx [])/\H d=some (.lst us)/\RowsB H us B/\BookOk n B /\
 ∀ H',FcAt K C H' p n B->FrP p H H'->Q .non H'
section
variable {P:Program} {w:World} {K:Fg} {mg:Str->Option Value} {base:Heap}
theorem scSaid:FnScope ["row"] ["row"] (Qg Qnh):=⟨rfl,rfl,rfl,by decide +kernel,rfl,by decide +kernel,by decide +kernel⟩
theorem okSaid {aN:Addr} {fN:Str->Option Value} (F:Fn K mg "said_by" Qnh) (M:Mg mg) (TN:Tab w K mg "NAMES" aN fN) (hN:Qce fN):Cal P w K mg base 1 "said_by" ["row"] Qpe:=by
 refine Xi F scSaid (fun _ _ _ _ _ _=>bind1 (fun _=>rfl)) (fun vs H Q E h=>?_) (fun f cdv A outer s H vs Q E hr h=>?_)
 ·obtain ⟨l,r,rfl,_⟩:=h
  rfl
 obtain ⟨l,r,rfl,hl,q⟩:=h
 refine ⟨_,(Qh (Qw (Xf Xu rfl M.tuple_ Yq (Qa (Za Qjj (pv 0) Zs (Zt (Qj Qs Qd (Qo (ix_tab TN) (Qpr (v:=.ref aN) rfl TN.bound rfl) (Qo Qm (pv 0) Qd (fun _ _=>rfl)) (fun _ _=>rfl))))) Qe)))),?_⟩
 obtain ⟨t,ht⟩:=hN r
 refine ⟨_,rfl,_,rfl,l,_,_,_,rfl,rfl,Qb hl,Ys r,_,_,.int ((r.names.length:Nat):Int),rfl,rfl,ht,⟨_,rfl⟩,_,_,rfl,rfl,_,rfl,l,_,rfl,Qb hl,fun p1 hp1=>?_⟩
 rw [Qqp]
 have s1:=Qc hp1 (.lst (r.key.map kV))
 refine ⟨p1,_,rfl,.inl ⟨Qb upd_same,fun t1 ht1=>?_⟩⟩
 refine q t1 _ (s1.trans (Qc ht1 _)) ?_ upd_same
 cases e5:H t1 with
 | none=>rfl
 | some o=>rw [s1 _ _ e5] at ht1;cases ht1
theorem scFcI:FnScope ["self","book"] ["self","book"] (Qg Vi):=⟨rfl,rfl,rfl,by decide +kernel,rfl,by decide +kernel,by decide +kernel⟩
theorem Qla {f C:Addr} {fd:FuncData} (F:Fun K "__init__" "Facts.__init__" Vi f fd) (M:Mg mg) (T:FcTxt K mg C) (c_said_by:Cal P w K mg base 1 "said_by" ["row"] Qpe):FnOk P w K mg base CX0 2 f fd ["self","book"] (Vk K C):=by
 refine F.ok scFcI (fun vs H Q E h=>?_) (fun cdv A outer s H vs Q E hr h=>?_)
 ·obtain ⟨p,d,dx,n,us,B,rfl,_⟩:=h
  rfl
 ·obtain ⟨p,d,dx,n,us,B,rfl,hp,hd,hB,bk,q⟩:=h
  have hz:(20000:Nat) < sizeLine:=by decide
  have lu:=hB.length
  have bl:=bk.wb.len
  have hu6:(A.deeper (PyProof.Rows.envOfC "Facts.__init__" (Qg Vi) s.heap.objs.size f cdv)).units + 6 < cLine:=zV (wQ (by decide) _) hr.un
  refine ⟨_,(Qf (Wj (pv 0) (Qo Qm (Qo Qm (pv 1) Qd (fun _ _=>rfl)) Qd (fun _ _=>rfl)) rfl)
  (Qf (Wj (pv 0) (Yr ["row"] [none] rfl (Qt (pv 1)) (fun _ _ _=>(Ql (i:=0) (show (["row"]:List Str).Nodup by decide +kernel) rfl (Or.inl rfl) (Or.inr rfl))) (fun _ _ _=>(Zu (Qn Yb (Qo (Yc (K:=K) rfl) (pv 0) Qd (fun _ _=>rfl)) Xa (Qq _)))) (fun _ _ _=>(Qo (Yc (K:=K) rfl) (pv 0) Qd (fun _ _=>rfl)))) rfl)
  (Qf (Wj (pv 0) (Yr ["row"] [none] rfl (Qt (pv 1)) (fun _ _ _=>(Ql (i:=0) (show (["row"]:List Str).Nodup by decide +kernel) rfl (Or.inl rfl) (Or.inr rfl))) (fun _ _ _=>(Zu (Qn Yb (Qo (Yc (K:=K) rfl) (pv 0) Qd (fun _ _=>rfl)) Xa (Qq _)))) (fun _ _ _=>(Qo (Yc (K:=K) rfl) (pv 0) Qd (fun _ _=>rfl)))) rfl)
  (Qf (Wj (pv 0) (Yr ["row"] [none] rfl (Qt (pv 1)) (fun _ _ _=>(Ql (i:=0) (show (["row"]:List Str).Nodup by decide +kernel) rfl (Or.inl rfl) (Or.inr rfl))) (fun _ _ _=>(Zu (Qn Yb (Qo (Yc (K:=K) rfl) (pv 0) Qd (fun _ _=>rfl)) Xa (Qq _)))) (fun _ _ _=>(Xf (Zj (K:=K) rfl) rfl M.tuple_ Yq (Qa (Za (Wa (K:=K) rfl) (pv 0) (Zt Qd) Zs) Qe)))) rfl)
  (Qf (Wj (pv 0) (Yr ["row"] [none] rfl (Qt (pv 1)) (fun _ _ _=>(Ql (i:=0) (show (["row"]:List Str).Nodup by decide +kernel) rfl (Or.inl rfl) (Or.inr rfl))) (fun _ _ _=>(Zu (Qn Yb (Qo (Yc (K:=K) rfl) (pv 0) Qd (fun _ _=>rfl)) Xa (Qq _)))) (fun _ _ _=>(Xf (Zj (K:=K) rfl) rfl M.tuple_ Yq (Qa (Za (Wa (K:=K) rfl) (pv 0) (Zt Qd) Zs) Qe)))) rfl)
  (Qf (Wj (pv 0) (Yr ["row"] [none] rfl (Qt (pv 1)) (fun _ _ _=>(Ql (i:=0) (show (["row"]:List Str).Nodup by decide +kernel) rfl (Or.inl rfl) (Or.inr rfl))) (fun _ _ _=>(Zu (Qn Yb (Qo (Yc (K:=K) rfl) (pv 0) Qd (fun _ _=>rfl)) Xa (Qq _)))) (fun _ _ _=>(Xf (Zj (K:=K) rfl) rfl M.tuple_ Yq (Qa (Za (Wa (K:=K) rfl) (pv 0) (Zt Qd) Zs) Qe)))) rfl)
  (Qh (Wj (pv 0) (Xf (Qbw (n:=6) (by decide) hu6 rfl) rfl M.dict_ Wt (Qa (Yr ["row"] [none] rfl (Qt (pv 1)) (fun _ _ _=>(Ql (i:=0) (show (["row"]:List Str).Nodup by decide +kernel) rfl (Or.inl rfl) (Or.inr rfl))) (fun _ _ _=>Yl) (fun _ _ _=>(Xd (Qa (Xj c_said_by (hr.mono (by decide)) (Qa (pv 0) Qe)) (Qa (Xf (Zj (K:=K) rfl) rfl M.tuple_ Yq (Qa (Za (Wa (K:=K) rfl) (pv 0) (Zt (Qy (Qbo (K:=K) rfl) rfl M.len Jq (Qa (Xj c_said_by (hr.mono (by decide)) (Qa (pv 0) Qe)) Qe))) Zs) Qe)) Qe))))) Qe)) rfl)))))))),?_⟩
  obtain ⟨u0,eu0⟩:∃ u0,us[0]?=some u0:=⟨_,gE (by
   rw [lu]
   exact (kK.mp bk.hd).1)⟩
  obtain ⟨r0,ld,er0,rfl,hr0⟩:=hB.get eu0
  rw [bk.hd] at er0
  cases er0
  have a0:atI us 0=some (.ref ld):=Qka (k:=0) eu0
  refine ⟨_,rfl,d,_,_,_,rfl,rfl,Qb hd,a0,ld,_,_,_,rfl,rfl,Qb hr0,(show atI ((BR.days n).cells.map kV) 1=some (.int n) from rfl),_,rfl,p,C,dx,[],rfl,hp,T.cl,T.nD,(by show 0 < 1000;decide),?_⟩
  obtain ⟨fs1,e1⟩:∃ fs,fs=putF "days" (.int n) []:=⟨_,rfl⟩
  have l1:fs1.length<=1:=e1 ▸ Vj (jK 0)
  rw [← e1]
  obtain ⟨_,_,g1,hp1⟩:=FrP.stage (C:=C) (dx:=dx) (Same.refl H) fs1 (fun b o e _=>e:FrP p H H)
  generalize upd H p (.ins C dx fs1)=H1 at g1 hp1 ⊢
  have hd1:=g1.lst hp hd
  have hB1:=hB.frP g1 hp
  refine ⟨_,rfl,d,rfl,⟨_,Qb hd1⟩,fun lw hD=>Qdw (f:=Xz) (fun _ v x=>v=.str x) (fun _ e=>e) (fun _ e=>e) (cs:=[]) rfl hd1 hB1 bl hD (fun r lr H1 hm s1 hr P1 P2 k1 k2=>?_) (fun ys X sv hE hi=>?_)⟩
  ·refine ⟨_,rfl,lr,_,_,_,rfl,rfl,Qb hr,Ys r,rfl,_,rfl,ite2 (fun y=>?_) (fun y=>k2 (Kv (fun e=>y (by rw [e];exact yesS _))) _ (Same.refl _))⟩
   obtain ⟨w,rfl⟩:=Kt (eqS y)
   exact ⟨_,rfl,lr,_,_,_,rfl,rfl,Qb hr,rfl,k1 _ _ _ rfl (Same.refl _) rfl⟩
  refine ⟨_,rfl,p,C,dx,_,rfl,sv _ _ hp1,T.cl,T.nW,zV l1 (by decide),?_⟩
  obtain ⟨fs2,e2⟩:∃ fs,fs=putF "works" (.ref lw) fs1:=⟨_,rfl⟩
  have l2:fs2.length<=2:=e2 ▸ Vj l1
  rw [← e2]
  obtain ⟨f2,s2,g2,hp2⟩:=FrP.stage (C:=C) (dx:=dx) sv fs2 g1
  generalize upd X p (.ins C dx fs2)=H2 at f2 s2 g2 hp2 ⊢
  have c2:=f2.lst (sv _ _ hp1) hE
  have hd2:=g2.lst hp hd
  have hB2:=hB.frP g2 hp
  have i2:=Jj hi
  clear hi sv
  refine ⟨_,rfl,d,rfl,⟨_,Qb hd2⟩,fun D3 hD=>Qdw (f:=Qfg) (fun _ v x=>v=.str x) (fun _ e=>e) (fun _ e=>e) (cs:=[]) rfl hd2 hB2 bl hD (fun r lr H1 hm s1 hr P1 P2 k1 k2=>?_) (fun ys X sv hE hi=>?_)⟩
  ·refine ⟨_,rfl,lr,_,_,_,rfl,rfl,Qb hr,Ys r,rfl,_,rfl,ite2 (fun y=>?_) (fun y=>k2 (Qin (fun e=>y (by rw [e];exact yesS _))) _ (Same.refl _))⟩
   obtain ⟨bb,cc,rfl⟩:=Qav (eqS y)
   exact ⟨_,rfl,lr,_,_,_,rfl,rfl,Qb hr,rfl,k1 _ _ _ rfl (Same.refl _) rfl⟩
  refine ⟨_,rfl,p,C,dx,_,rfl,sv _ _ hp2,T.cl,T.nB,zV l2 (by decide),?_⟩
  obtain ⟨fs3,e3⟩:∃ fs,fs=putF "benches" (.ref D3) fs2:=⟨_,rfl⟩
  have l3:fs3.length<=3:=e3 ▸ Vj l2
  rw [← e3]
  obtain ⟨f3,s3,g3,hp3⟩:=FrP.stage (C:=C) (dx:=dx) sv fs3 g2
  generalize upd X p (.ins C dx fs3)=H3 at f3 s3 g3 hp3 ⊢
  have c3:=f3.lst (sv _ _ hp2) hE
  have hd3:=g3.lst hp hd
  have hB3:=hB.frP g3 hp
  have i3:=Jj hi
  clear hi sv
  refine ⟨_,rfl,d,rfl,⟨_,Qb hd3⟩,fun D4 hD=>Qdw (f:=Option.guard (selW "shut")) (TpV K) (fun s ⟨t,e,z⟩=>⟨t,e,s.tup z⟩) (fun hg ⟨t,e,z⟩=>⟨t,e,Xc hg z⟩) (cs:=[]) rfl hd3 hB3 bl hD (fun r lr H1 hm s1 hr P1 P2 k1 k2=>?_) (fun y4 X sv hE hi=>?_)⟩
  ·refine ⟨_,rfl,lr,_,_,_,rfl,rfl,Qb hr,Ys r,rfl,_,rfl,ite2 (fun y=>?_) (fun y=>k2 (if_neg fun e=>y (by rw [jJ e];exact yesS _)) _ (Same.refl _))⟩
   exact ⟨_,rfl,_,rfl,lr,_,rfl,Qb hr,fun p1 hp1=>⟨p1,_,rfl,.inl ⟨Qb upd_same,fun t1 ht1=>k1 _ _ r (if_pos (kQ (eqS y))) ((Qc hp1 _).trans (Qc ht1 _)) ⟨t1,rfl,Qu (by rw [upd_same,Qqr])⟩⟩⟩⟩
  refine ⟨_,rfl,p,C,dx,_,rfl,sv _ _ hp3,T.cl,T.nH,zV l3 (by decide),?_⟩
  obtain ⟨fs4,e4⟩:∃ fs,fs=putF "shuts" (.ref D4) fs3:=⟨_,rfl⟩
  have l4:fs4.length<=4:=e4 ▸ Vj l3
  rw [← e4]
  obtain ⟨f4,s4,g4,hp4⟩:=FrP.stage (C:=C) (dx:=dx) sv fs4 g3
  generalize upd X p (.ins C dx fs4)=H4 at f4 s4 g4 hp4 ⊢
  have c4:=f4.lst (sv _ _ hp3) hE
  have t4:TupsOf K H4 y4 (B.filter (selW "shut")):=TupsOf.frP (by rw [← kYe];exact hi) f4 (sv _ _ hp3)
  have hd4:=g4.lst hp hd
  have hB4:=hB.frP g4 hp
  clear hi sv
  refine ⟨_,rfl,d,rfl,⟨_,Qb hd4⟩,fun D5 hD=>Qdw (f:=Option.guard (selW "store")) (TpV K) (fun s ⟨t,e,z⟩=>⟨t,e,s.tup z⟩) (fun hg ⟨t,e,z⟩=>⟨t,e,Xc hg z⟩) (cs:=[]) rfl hd4 hB4 bl hD (fun r lr H1 hm s1 hr P1 P2 k1 k2=>?_) (fun y5 X sv hE hi=>?_)⟩
  ·refine ⟨_,rfl,lr,_,_,_,rfl,rfl,Qb hr,Ys r,rfl,_,rfl,ite2 (fun y=>?_) (fun y=>k2 (if_neg fun e=>y (by rw [jJ e];exact yesS _)) _ (Same.refl _))⟩
   exact ⟨_,rfl,_,rfl,lr,_,rfl,Qb hr,fun p1 hp1=>⟨p1,_,rfl,.inl ⟨Qb upd_same,fun t1 ht1=>k1 _ _ r (if_pos (kQ (eqS y))) ((Qc hp1 _).trans (Qc ht1 _)) ⟨t1,rfl,Qu (by rw [upd_same,Qqr])⟩⟩⟩⟩
  refine ⟨_,rfl,p,C,dx,_,rfl,sv _ _ hp4,T.cl,T.nS,zV l4 (by decide),?_⟩
  obtain ⟨fs5,e5⟩:∃ fs,fs=putF "stores" (.ref D5) fs4:=⟨_,rfl⟩
  have l5:fs5.length<=5:=e5 ▸ Vj l4
  rw [← e5]
  obtain ⟨f5,s5,g5,hp5⟩:=FrP.stage (C:=C) (dx:=dx) sv fs5 g4
  generalize upd X p (.ins C dx fs5)=H5 at f5 s5 g5 hp5 ⊢
  have c5:=f5.lst (sv _ _ hp4) hE
  have t5:TupsOf K H5 y5 (B.filter (selW "store")):=TupsOf.frP (by rw [← kYe];exact hi) f5 (sv _ _ hp4)
  have hd5:=g5.lst hp hd
  have hB5:=hB.frP g5 hp
  clear hi sv
  refine ⟨_,rfl,d,rfl,⟨_,Qb hd5⟩,fun D6 hD=>Qdw (f:=Option.guard (selW "after")) (TpV K) (fun s ⟨t,e,z⟩=>⟨t,e,s.tup z⟩) (fun hg ⟨t,e,z⟩=>⟨t,e,Xc hg z⟩) (cs:=[]) rfl hd5 hB5 bl hD (fun r lr H1 hm s1 hr P1 P2 k1 k2=>?_) (fun y6 X sv hE hi=>?_)⟩
  ·refine ⟨_,rfl,lr,_,_,_,rfl,rfl,Qb hr,Ys r,rfl,_,rfl,ite2 (fun y=>?_) (fun y=>k2 (if_neg fun e=>y (by rw [jJ e];exact yesS _)) _ (Same.refl _))⟩
   exact ⟨_,rfl,_,rfl,lr,_,rfl,Qb hr,fun p1 hp1=>⟨p1,_,rfl,.inl ⟨Qb upd_same,fun t1 ht1=>k1 _ _ r (if_pos (kQ (eqS y))) ((Qc hp1 _).trans (Qc ht1 _)) ⟨t1,rfl,Qu (by rw [upd_same,Qqr])⟩⟩⟩⟩
  refine ⟨_,rfl,p,C,dx,_,rfl,sv _ _ hp5,T.cl,T.nA,zV l5 (by decide),?_⟩
  obtain ⟨fs6,e6⟩:∃ fs,fs=putF "afters" (.ref D6) fs5:=⟨_,rfl⟩
  have l6:fs6.length<=6:=e6 ▸ Vj l5
  rw [← e6]
  obtain ⟨f6,s6,g6,hp6⟩:=FrP.stage (C:=C) (dx:=dx) sv fs6 g5
  generalize upd X p (.ins C dx fs6)=H6 at f6 s6 g6 hp6 ⊢
  have c6:=f6.lst (sv _ _ hp5) hE
  have t6:TupsOf K H6 y6 (B.filter (selW "after")):=TupsOf.frP (by rw [← kYe];exact hi) f6 (sv _ _ hp5)
  have hd6:=g6.lst hp hd
  have hB6:=hB.frP g6 hp
  clear hi sv
  refine ⟨_,rfl,d,rfl,⟨_,Qb hd6⟩,fun D hD=>Qdw (f:=some) (SdV K) (fun s ⟨t,b,u,e,h1,h2,h3⟩=>⟨t,b,u,e,s.tup h1,s _ _ h2,s.tup h3⟩) (fun hg ⟨t,b,u,e,h1,h2,h3⟩=>⟨t,b,u,e,Xc hg h1,by rw [Qi (Yp h2 hg (by intro z;cases z))];exact h2,Xc hg h3⟩) (cs:=[]) rfl hd6 hB6 bl hD (fun r lr H1 hm s1 hr P1 P2 k1 k2=>?_) (fun ys X sv hE hi=>?_)⟩
  ·refine ⟨_,rfl,lr,r,rfl,hr,fun b1 H3 s3 fb1 hb1=>?_⟩
   refine ⟨_,rfl,_,rfl,lr,r,rfl,s3 _ _ hr,fun b2 H4 s4 fb2 hb2=>?_⟩
   refine ⟨b2,_,rfl,.inr (Qu hb2),_,rfl,lr,_,rfl,Qb (s4 _ _ (s3 _ _ hr)),fun p5 hp5=>?_⟩
   rw [Qni]
   refine ⟨p5,_,rfl,.inl ⟨Qb upd_same,fun t6 ht6=>⟨by show 2<=sizeLine;decide,fun t7 ht7=>?_⟩⟩⟩
   have s7:=Qc ht7 (.tup [.ref b1,.ref t6])
   have s46:=(s4.trans (Qc hp5 (.lst (r.nums.map V.int)))).trans (Qc ht6 (.tup (r.nums.map V.int)))
   exact k1 _ _ r rfl (s3.trans (s46.trans s7)) ⟨t7,b1,t6,rfl,Qu upd_same,(s46.trans s7) _ _ hb1,s7.tup (Qu upd_same)⟩
  rw [List.filterMap_some] at hi
  have ly:=Paired.length hi
  obtain ⟨ps,hq,hs⟩:=Qaw hi
  have lps:=Paired.length hs
  refine ⟨D,ys,ps,rfl,Qb hE,hq,by omega,fun ds hds=>?_⟩
  have s8:=Qc hds (.dT (Xg ps))
  have sv8:=sv.trans s8
  have hds8:upd X ds (.dT (Xg ps)) ds=some (.dT (Xg ps)):=upd_same
  have hsd:SaidOk K (upd X ds (.dT (Xg ps))) (Xg ps) B:=Qqq (Paired.mapP hs fun _ _ ⟨e,t,e2,z⟩=>⟨e,t,e2,s8.tup z⟩) bk.wb
  generalize upd X ds (.dT (Xg ps))=H8 at s8 sv8 hds8 hsd ⊢
  have hp8:=sv8 _ _ hp6
  refine ⟨_,rfl,p,C,dx,_,rfl,hp8,T.cl,T.nI,zV l6 (by decide),?_⟩
  obtain ⟨f7,s7,g7,hp7⟩:=FrP.stage (C:=C) (dx:=dx) sv8 (putF "said" (.ref ds) fs6) g6
  have u5:=s6.trans s7
  have u4:=s5.trans u5
  have u3:=s4.trans u4
  exact q _ ⟨dx,lw,D3,D4,D5,D6,ds,putF "said" (.ref ds) fs6,Xg ps,y4,y5,y6,{
   hp:=upd_same
   fe:=by subst e6 e5 e4 e3 e2 e1;rfl
   hW:=(s3.trans u3).lst hp2 (i2 ▸ c2)
   hB:=u3.lst hp3 (i3 ▸ c3)
   hH:=u4.lst hp4 c4
   hS:=u5.lst hp5 c5
   hA:=s7.lst hp6 c6
   tH:=t4.frP u4 hp4
   tS:=t5.frP u5 hp5
   tA:=t6.frP s7 hp6
   hI:=f7 _ _ hds8 (Yp hds8 hp8 (by intro z;cases z))
   sd:=⟨fun r hr hsh=>(let ⟨t,e1,e2⟩:=hsd.1 r hr hsh;⟨t,e1,Qnj hp8 e2⟩),hsd.2⟩
   wo:=Qim hs bk.wb
   kl:=jQd (Wx ps) (by omega) }⟩ g7
abbrev Kx:Stmt:=inClass (top 7) 1
abbrev Qab:Stmt:=inClass (top 7) 2
abbrev Qac:Stmt:=inClass (top 7) 6
theorem cut2 (a b c:V):cutV [a,b,c] none (some 2)=[a,b]:=by
 unfold cutV
 rw [HT.sIx_none,show (2:Int)=((2:Nat):Int) from rfl,HT.sIx_nat]
 rfl
theorem Qcf {K:Fg} {H:Hp} {kvs:List (List Key × V)} {B:List BR} (hs:SaidOk K H kvs B) {w v:Str} {l c:Int} (h:BR.way w v l c ∈ B) {ds t3:Addr} (hd:H ds=some (.dT kvs)) (h3:H t3=some (.tup [.str "way",.str w,.str v])):∃ t,DGet H ds (.ref t3) (some (.ref t))/\SqT K H t [.int l,.int c]:=by
 obtain ⟨t,e,hT⟩:=hs.1 _ h (by show ¬ (("way":Str)="shut");decide +kernel)
 have hg:=DGet.t (k:=(BR.way w v l c).key) hd h3
 rw [e] at hg
 exact ⟨t,hg,hT⟩
theorem Qqt {n:Int} {B:List BR} (wb:WB n B) (k:Fin 3) (w v t:Str):(B.filterMap (Kd k w v t)).Pairwise fun _ _=>False:=by
 rw [kQf]
 refine wb.nd.imp fun {r q} ha x hx y hy=>?_
 have e1:=manyOf_some.mp hx
 have e2:=manyOf_some.mp hy
 subst e1 e2
 have ns:¬ useW k="shut":=by
  match k with
  | 0=>decide +kernel
  | 1=>decide +kernel
  | 2=>decide +kernel
 rcases ha with z | z | z
 ·exact ns z
 ·exact ns z
 ·exact z rfl
theorem Qnl {n:Int} {B:List BR} (wb:WB n B) {k:Fin 3} {w v t:Str} {m:Int} (h:BR.use k w v t m ∈ B):Yx B k w v t=m:=by
 have hm:m ∈ B.filterMap (Kd k w v t):=yJ.mpr ⟨_,h,manyOf_some.mpr rfl⟩
 have hp:=Qqt wb k w v t
 unfold Yx
 revert hm hp
 generalize B.filterMap (Kd k w v t)=L
 intro hm hp
 match L,hm,hp with
 | [x],hm,_ =>
  rw [jZ.mp hm]
  show x + 0=x
  omega
 | x :: y :: L,_,hp=>exact absurd ((jZe.mp hp).1 y kZ) (fun z=>z)
theorem Qnm {B:List BR} {k:Fin 3} {w v t:Str} (h:∀ m,BR.use k w v t m ∉ B):Yx B k w v t=0:=by
 unfold Yx
 cases e:B.filterMap (Kd k w v t) with
 | nil=>rfl
 | cons x L =>
  have hx:x ∈ B.filterMap (Kd k w v t):=by rw [e];exact kZ
  obtain ⟨r,hr,e2⟩:=yJ.mp hx
  rw [manyOf_some.mp e2] at hr
  exact absurd hr (h _)
theorem Qnn {K:Fg} {H:Hp} {kvs:List (List Key × V)} {n:Int} {B:List BR} (wb:WB n B) (hs:SaidOk K H kvs B) {k:Fin 3} {w v t:Str} {t2:Addr} (h2:SqT K H t2 [.int 0]):∃ tl,(valV kvs [Sum.inr (useW k),Sum.inr w,Sum.inr v,Sum.inr t]).getD (.ref t2)=.ref tl/\SqT K H tl [.int (Yx B k w v t)]:=by
 by_cases hl:∃ m,BR.use k w v t m ∈ B
 ·obtain ⟨m,hl⟩:=hl
  have ns:¬ useW k="shut":=by
   match k with
   | 0=>decide +kernel
   | 1=>decide +kernel
   | 2=>decide +kernel
  obtain ⟨tt,e,hT⟩:=hs.1 _ hl ns
  have e':valV kvs [Sum.inr (useW k),Sum.inr w,Sum.inr v,Sum.inr t]=some (.ref tt):=e
  rw [e',Qnl wb hl]
  exact ⟨tt,rfl,hT⟩
 ·have hno:∀ m,BR.use k w v t m ∉ B:=fun m h=>hl ⟨m,h⟩
  have e:valV kvs [Sum.inr (useW k),Sum.inr w,Sum.inr v,Sum.inr t]=none:=hs.2 _ fun r hr z=>by
   have z':((Sum.inr r.word:Key) :: r.names.map Sum.inr)=[Sum.inr (useW k),Sum.inr w,Sum.inr v,Sum.inr t]:=z
   have hw:r.word=useW k:=by
    injection z' with z1
    exact Sum.inr.inj z1
   obtain ⟨w',v',t',m,rfl⟩:=Qgq hw
   have z2:[(Sum.inr (useW k):Key),Sum.inr w',Sum.inr v',Sum.inr t']=[Sum.inr (useW k),Sum.inr w,Sum.inr v,Sum.inr t]:=z
   injection z2 with _ z3
   injection z3 with z4 z5
   injection z5 with z6 z7
   injection z7 with z8
   cases z4
   cases z6
   cases z8
   exact hno _ hr
  rw [e,Qnm hno]
  exact ⟨t2,rfl,h2⟩
def Qax (K:Fg) (C:Addr):Sp:=fun vs H Q _=>∃ (p ch:Addr) (n:Int) (B:List BR) (w v:Str) (b l c:Int),vs=[.ref p,.ref ch]/\FcAt K C H p n B/\SqT K H ch [.str w,.str v,.int b]/\.way w v l c ∈ B/\∀ H',Same H H'->Q (.int (b + l)) H'
def Qgs (K:Fg) (C:Addr):Sp:=fun vs H Q _=>∃ (p:Addr) (n:Int) (B:List BR) (w v:Str) (l c:Int),vs=[.ref p,.str w,.str v]/\FcAt K C H p n B/\.way w v l c ∈ B/\∀ H',Same H H'->Q (.bl true) H'
def Qfh (K:Fg) (C:Addr):Sp:=fun vs H Q _=>∃ (p:Addr) (n:Int) (B:List BR) (w v:Str) (l c:Int),vs=[.ref p,.str w,.str v]/\FcAt K C H p n B/\.way w v l c ∈ B/\∀ H',Same H H'->Q (.int (n - l)) H'
def Qfi (K:Fg) (C:Addr):Sp:=fun vs H Q _=>∃ (p ch:Addr) (n:Int) (B:List BR) (k:Fin 3) (w v t:Str) (b:Int),vs=[.ref p,.str (useW k),.ref ch,.str t]/\FcAt K C H p n B/\WB n B/\SqT K H ch [.str w,.str v,.int b]/\∀ H',Same H H'->Q (.int (Yx B k w v t)) H'
theorem scFcE:FnScope ["self","choice"] ["self","choice"] (Qg Qdt):=⟨rfl,rfl,rfl,by decide +kernel,rfl,by decide +kernel,by decide +kernel⟩
theorem Qdx {f C:Addr} {fd:FuncData} (F:Fun K "end_of" "Facts.end_of" Qdt f fd) (T:FcTxt K mg C):FnOk P w K mg base CX0 1 f fd ["self","choice"] (Qax K C):=by
 refine F.ok scFcE (fun vs H Q E h=>?_) (fun cdv A outer s H vs Q E hr h=>?_)
 ·obtain ⟨p,ch,n,B,w,v,b,l,c,rfl,_⟩:=h
  rfl
 ·obtain ⟨p,ch,n,B,w,v,b,l,c,rfl,⟨dx,lw,lb,lh,ls,la,ds,fs,kvs,yh,ysS,ya,hF⟩,hch,hway,q⟩:=h
  have hu:=Qid hr
  refine ⟨_,(Qh (Qw (Qj Qs (Qo Xn (pv 1) Qd (fun _ _=>rfl)) (Qo Xn (Zh hu (Yi (pv 0) rfl) (Qj Wn (Xd (Qa Xa Qe)) (Za Qcz (pv 1) Zs (Zt Qd))) (fun _ _=>rfl)) Qd (fun _ _=>rfl))))),?_⟩
  refine ⟨_,rfl,ch,_,_,_,rfl,rfl,hch,(show atI [V.str w,V.str v,V.int b] 2=some (.int b) from rfl),?_⟩
  refine ⟨_,rfl,p,C,dx,fs,_,rfl,hF.hp,T.cl,T.nI,hF.fI,by show 1<=sizeLine;decide,fun t1 ht1=>?_⟩
  have s1:=Qc ht1 (.tup [.str "way"])
  refine ⟨_,rfl,_,rfl,ch,_,rfl,s1.tup hch,(by show ¬ (HT.sIx 3 0 none=0/\HT.sIx 3 3 (some 2)=3);decide),fun t2 ht2=>?_⟩
  rw [cut2]
  have s2:=s1.trans (Qc ht2 (.tup [.str w,.str v]))
  refine ⟨t1,t2,_,_,rfl,rfl,(Qc ht2 _).tup (Qu upd_same),Qu upd_same,by simp,by show 3<=sizeLine;decide,fun z=>absurd z (by simp),fun _ t3 ht3=>?_⟩
  have s3:=s2.trans (Qc ht3 (.tup ([.str "way"] ++ [.str w,.str v])))
  obtain ⟨t,dg,hT⟩:=Qcf (hF.sd.same s3) hway (s3 _ _ hF.hI) upd_same
  exact ⟨ds,_,rfl,dg,t,_,_,_,rfl,rfl,hT,at0,_,_,rfl,rfl,q _ s3⟩
theorem scFcY:FnScope ["self","work","way"] ["self","work","way"] (Qg Kx):=⟨rfl,rfl,rfl,by decide +kernel,rfl,by decide +kernel,by decide +kernel⟩
theorem okFcY {f C:Addr} {fd:FuncData} (F:Fun K "is_way" "Facts.is_way" Kx f fd) (T:FcTxt K mg C):FnOk P w K mg base CX0 1 f fd ["self","work","way"] (Qgs K C):=by
 refine F.ok scFcY (fun vs H Q E h=>?_) (fun cdv A outer s H vs Q E hr h=>?_)
 ·obtain ⟨p,n,B,w,v,l,c,rfl,_⟩:=h
  rfl
 ·obtain ⟨p,n,B,w,v,l,c,rfl,⟨dx,lw,lb,lh,ls,la,ds,fs,kvs,yh,ysS,ya,hF⟩,hway,q⟩:=h
  have hu:=Qid hr
  refine ⟨_,(Qh (Qw (pe_cmp (pc_din hu (Xd (Qa Xa (Qa (pv 1) (Qa (pv 2) Qe)))) (Yi (pv 0) rfl))))),?_⟩
  refine ⟨_,rfl,_,rfl,by show 3<=sizeLine;decide,fun t1 ht1=>?_⟩
  have s1:=Qc ht1 (.tup [.str "way",.str w,.str v])
  obtain ⟨t,dg,hT⟩:=Qcf (hF.sd.same s1) hway (s1 _ _ hF.hI) upd_same
  exact ⟨_,rfl,p,C,dx,fs,_,rfl,s1 _ _ hF.hp,T.cl,T.nI,hF.fI,ds,_,rfl,dg,q _ s1⟩
theorem scFcL:FnScope ["self","work","way"] ["self","work","way"] (Qg Qab):=⟨rfl,rfl,rfl,by decide +kernel,rfl,by decide +kernel,by decide +kernel⟩
theorem Qno {f C:Addr} {fd:FuncData} (F:Fun K "last_begin" "Facts.last_begin" Qab f fd) (T:FcTxt K mg C):FnOk P w K mg base CX0 1 f fd ["self","work","way"] (Qfh K C):=by
 refine F.ok scFcL (fun vs H Q E h=>?_) (fun cdv A outer s H vs Q E hr h=>?_)
 ·obtain ⟨p,n,B,w,v,l,c,rfl,_⟩:=h
  rfl
 ·obtain ⟨p,n,B,w,v,l,c,rfl,⟨dx,lw,lb,lh,ls,la,ds,fs,kvs,yh,ysS,ya,hF⟩,hway,q⟩:=h
  have hu:=Qid hr
  refine ⟨_,(Qh (Qw (Qj Kl (Yi (pv 0) rfl) (Qo Xn (Zh hu (Yi (pv 0) rfl) (Xd (Qa Xa (Qa (pv 1) (Qa (pv 2) Qe)))) (fun _ _=>rfl)) Qd (fun _ _=>rfl))))),?_⟩
  refine ⟨_,rfl,p,C,dx,fs,_,rfl,hF.hp,T.cl,T.nD,hF.fD,_,rfl,p,C,dx,fs,_,rfl,hF.hp,T.cl,T.nI,hF.fI,_,rfl,_,rfl,by show 3<=sizeLine;decide,fun t1 ht1=>?_⟩
  have s1:=Qc ht1 (.tup [.str "way",.str w,.str v])
  obtain ⟨t,dg,hT⟩:=Qcf (hF.sd.same s1) hway (s1 _ _ hF.hI) upd_same
  exact ⟨ds,_,rfl,dg,t,_,_,_,rfl,rfl,hT,at0,_,_,rfl,rfl,q _ s1⟩
theorem scFcM:FnScope ["self","word","choice","name"] ["self","word","choice","name"] (Qg Qac):=⟨rfl,rfl,rfl,by decide +kernel,rfl,by decide +kernel,by decide +kernel⟩
theorem Qnp {f C:Addr} {fd:FuncData} (F:Fun K "many" "Facts.many" Qac f fd) (T:FcTxt K mg C):FnOk P w K mg base CX0 1 f fd ["self","word","choice","name"] (Qfi K C):=by
 refine F.ok scFcM (fun vs H Q E h=>?_) (fun cdv A outer s H vs Q E hr h=>?_)
 ·obtain ⟨p,ch,n,B,k,w,v,t,b,rfl,_⟩:=h
  rfl
 ·obtain ⟨p,ch,n,B,k,w,v,t,b,rfl,⟨dx,lw,lb,lh,ls,la,ds,fs,kvs,yh,ysS,ya,hF⟩,wb,hch,q⟩:=h
  have hu:=Qid hr
  refine ⟨_,(Qh (Qw (Qo Xn (Qgh hu (Yi (pv 0) rfl) (Qj Wn (Qj Wn (Xd (Qa (pv 1) Qe)) (Za Qcz (pv 2) Zs (Zt Qd))) (Xd (Qa (pv 3) Qe))) (Xd (Qa Qd Qe)) ⟨rfl,rfl,rfl,rfl⟩) Qd (fun _ _=>rfl)))),?_⟩
  refine ⟨_,rfl,p,C,dx,fs,_,rfl,hF.hp,T.cl,T.nI,hF.fI,ds,rfl,.inr ⟨kvs,.inl hF.hI⟩,_,rfl,by show 1<=sizeLine;decide,fun t1 ht1=>?_⟩
  have s1:=Qc ht1 (.tup [.str (useW k)])
  refine ⟨_,rfl,_,rfl,ch,_,rfl,s1.tup hch,(by show ¬ (HT.sIx 3 0 none=0/\HT.sIx 3 3 (some 2)=3);decide),fun t2 ht2=>?_⟩
  rw [cut2]
  have s12:=Qc ht2 (.tup [.str w,.str v])
  have s2:=s1.trans s12
  refine ⟨t1,t2,_,_,rfl,rfl,s12.tup (Qu upd_same),Qu upd_same,by simp,by show 3<=sizeLine;decide,fun z=>absurd z (by simp),fun _ t3 ht3=>?_⟩
  have s23:=Qc ht3 (.tup ([.str (useW k)] ++ [.str w,.str v]))
  have s3:=s2.trans s23
  refine ⟨_,rfl,by show 1<=sizeLine;decide,fun t4 ht4=>?_⟩
  have s34:=Qc ht4 (.tup [.str t])
  have s4:=s3.trans s34
  refine ⟨t3,t4,_,_,rfl,rfl,s34.tup (Qu upd_same),Qu upd_same,by simp,by show 4<=sizeLine;decide,fun z=>absurd z (by simp),fun _ t5 ht5=>?_⟩
  have s45:=Qc ht5 (.tup (([.str (useW k)] ++ [.str w,.str v]) ++ [.str t]))
  have s5:=s4.trans s45
  refine ⟨by show 1<=sizeLine;decide,fun t6 ht6=>?_⟩
  have s56:=Qc ht6 (.tup [.int 0])
  have s6:=s5.trans s56
  have ht56:=s56 _ _ (upd_same (o:=.tup (([.str (useW k)] ++ [.str w,.str v]) ++ [.str t])))
  obtain ⟨tl,etl,hTl⟩:=Qnn (k:=k) (w:=w) (v:=v) (t:=t) wb (hF.sd.same s6) (Qu upd_same)
  refine ⟨_,DGet.t (k:=[Sum.inr (useW k),Sum.inr w,Sum.inr v,Sum.inr t]) (s6 _ _ hF.hI) ht56,?_⟩
  rw [etl]
  exact ⟨tl,_,_,_,rfl,rfl,hTl,(show atI [V.int (Yx B k w v t)] 0=some _ from rfl),q _ s6⟩
abbrev Qad:Stmt:=inClass (top 7) 7
abbrev Qae:Stmt:=inClass (top 7) 8
def Yz (B:List BR) (st:Str) (day:Int) (p:Str × Str × Int):Int:=(if p.2.2 + lenB B p.1 p.2.1<=day then Yx B 2 p.1 p.2.1 st else 0) - (if p.2.2<=day then Yx B 1 p.1 p.2.1 st else 0)
def Qfj (K:Fg) (C:Addr):Sp:=fun vs H Q _=>∃ (p ch:Addr) (n:Int) (B:List BR) (w v bn:Str) (b l c day:Int),vs=[.ref p,.ref ch,.str bn,.int day]/\FcAt K C H p n B/\WB n B/\SqT K H ch [.str w,.str v,.int b]/\.way w v l c ∈ B/\∀ H',Same H H'->Q (.int (useR B bn day (w,v,b))) H'
def Qfk (K:Fg) (C:Addr):Sp:=fun vs H Q _=>∃ (p ch:Addr) (n:Int) (B:List BR) (w v bn:Str) (b l c day:Int),vs=[.ref p,.ref ch,.str bn,.int day]/\FcAt K C H p n B/\WB n B/\SqT K H ch [.str w,.str v,.int b]/\.way w v l c ∈ B/\∀ H',Same H H'->Q (.int (Yz B bn day (w,v,b))) H'
theorem scFcU:FnScope ["self","choice","bench","day"] ["self","choice","bench","day"] (Qg Qad):=⟨rfl,rfl,rfl,by decide +kernel,rfl,by decide +kernel,by decide +kernel⟩
theorem okFcU {f fE fM C:Addr} {fd fdE fdM:FuncData} (F:Fun K "used_by" "Facts.used_by" Qad f fd) (T:FcTxt K mg C) (GE:FnOk P w K mg base CX0 1 fE fdE ["self","choice"] (Qax K C)) (bE:Binds K fdE ["self","choice"] []) (mE:Meth K C "end_of" fE) (GM:FnOk P w K mg base CX0 1 fM fdM ["self","word","choice","name"] (Qfi K C)) (bM:Binds K fdM ["self","word","choice","name"] []) (mM:Meth K C "many" fM):FnOk P w K mg base CX0 2 f fd ["self","choice","bench","day"] (Qfj K C):=by
 refine F.ok scFcU (fun vs H Q E h=>?_) (fun cdv A outer s H vs Q E hr h=>?_)
 ·obtain ⟨p,ch,n,B,w,v,bn,b,l,c,day,rfl,_⟩:=h
  rfl
 ·obtain ⟨p,ch,n,B,w,v,bn,b,l,c,day,rfl,hFc,wb,hch,hway,q⟩:=h
  obtain ⟨dx,lw,lb,lh,ls,la,ds,fs,kvs,yh,ysS,ya,hF⟩:=id hFc
  have hr1:Room 1 _:=hr.mono (by decide)
  have eU:useR B bn day (w,v,b)=if b<=day/\day < b + l then Yx B 0 w v bn else 0:=by
   show (if b<=day/\day < b + lenB B w v then Yx B 0 w v bn else 0)=_
   rw [Zn wb hway]
  rw [eU] at q
  refine ⟨_,(Qf (Yg (Qga Km Qct (Qo Xn (pv 1) Qd (fun _ _=>rfl)) (pv 3) (Yj (pv 0) T.cl mE GE hr1 bE .nil Zd (Qa (pv 1) Qe))) (Qh (Qw (Yj (pv 0) T.cl mM GM hr1 bM .nil Zd (Qa Xa (Qa (pv 1) (Qa (pv 2) Qe)))))) Qz) (Qh (Qw Qd))),?_⟩
  refine ⟨_,rfl,ch,_,_,_,rfl,rfl,hch,(show atI [V.str w,V.str v,V.int b] 2=some (.int b) from rfl),_,rfl,_,_,rfl,rfl,_,rfl,ite2 (fun y=>?_) (fun y=>⟨_,rfl,iteF ?_⟩)⟩
  ·refine ⟨_,rfl,p,dx,fs,rfl,hF.hp,hF.nE,_,rfl,p,ch,n,B,w,v,b,l,c,rfl,hFc,hch,hway,fun H1 s1=>⟨_,_,rfl,rfl,_,rfl,ite2 (fun y2=>?_) (fun y2=>?_)⟩⟩
   ·rw [if_pos ⟨jJ y,jJ y2⟩] at q
    exact ⟨_,rfl,p,dx,fs,rfl,s1 _ _ hF.hp,hF.nM,_,rfl,_,rfl,p,ch,n,B,0,w,v,bn,b,rfl,hFc.same s1,wb,s1.tup hch,fun H2 s2=>q _ (s1.trans s2)⟩
   ·rw [if_neg (fun z=>y2 (kQ z.2))] at q
    exact q _ s1
  ·rw [if_neg (fun z=>y (kQ z.1))] at q
   exact q _ (Same.refl _)
theorem scFcG:FnScope ["self","choice","store","day","gain"] ["self","choice","store","day"] (Qg Qae):=⟨rfl,rfl,rfl,by decide +kernel,rfl,by decide +kernel,by decide +kernel⟩
theorem okFcG {f fE fM C:Addr} {fd fdE fdM:FuncData} (F:Fun K "gain_by" "Facts.gain_by" Qae f fd) (T:FcTxt K mg C) (GE:FnOk P w K mg base CX0 1 fE fdE ["self","choice"] (Qax K C)) (bE:Binds K fdE ["self","choice"] []) (mE:Meth K C "end_of" fE) (GM:FnOk P w K mg base CX0 1 fM fdM ["self","word","choice","name"] (Qfi K C)) (bM:Binds K fdM ["self","word","choice","name"] []) (mM:Meth K C "many" fM):FnOk P w K mg base CX0 2 f fd ["self","choice","store","day"] (Qfk K C):=by
 refine F.ok scFcG (fun vs H Q E h=>?_) (fun cdv A outer s H vs Q E hr h=>?_)
 ·obtain ⟨p,ch,n,B,w,v,bn,b,l,c,day,rfl,_⟩:=h
  rfl
 ·obtain ⟨p,ch,n,B,w,v,bn,b,l,c,day,rfl,hFc,wb,hch,hway,q⟩:=h
  obtain ⟨dx,lw,lb,lh,ls,la,ds,fs,kvs,yh,ysS,ya,hF⟩:=id hFc
  have hr1:Room 1 _:=hr.mono (by decide)
  refine ⟨_,(Qf (Qp (i:=4) scFcG.nd rfl (Or.inl rfl) Qd) (Qf (Yg (Qn Km (Qo Xn (pv 1) Qd (fun _ _=>rfl)) (pv 3) (Qq _)) (Qh (Qiw (i:=4) scFcG.nd rfl (Or.inl rfl) (Yj (pv 0) T.cl mM GM hr1 bM .nil Zd (Qa Xa (Qa (pv 1) (Qa (pv 2) Qe)))) ip_sub)) Qz) (Qf (Yg (Qn Km (Yj (pv 0) T.cl mE GE hr1 bE .nil Zd (Qa (pv 1) Qe)) (pv 3) (Qq _)) (Qh (Qiw (i:=4) scFcG.nd rfl (Or.inl rfl) (Yj (pv 0) T.cl mM GM hr1 bM .nil Zd (Qa Xa (Qa (pv 1) (Qa (pv 2) Qe)))) ip_add)) Qz) (Qh (Qw (pv 4)))))),?_⟩
  refine ⟨_,rfl,ch,_,_,_,rfl,rfl,hch,(show atI [V.str w,V.str v,V.int b] 2=some (.int b) from rfl),_,rfl,_,_,rfl,rfl,_,rfl,ite2 (fun y=>?_) (fun y=>?_)⟩
  ·refine ⟨_,rfl,_,rfl,p,dx,fs,rfl,hF.hp,hF.nM,_,rfl,_,rfl,p,ch,n,B,1,w,v,bn,b,rfl,hFc,wb,hch,fun H2 s2=>⟨_,_,rfl,rfl,?_⟩⟩
   refine ⟨_,rfl,p,dx,fs,rfl,s2 _ _ hF.hp,hF.nE,_,rfl,p,ch,n,B,w,v,b,l,c,rfl,hFc.same s2,s2.tup hch,hway,fun H3 s3=>⟨_,rfl,_,_,rfl,rfl,_,rfl,ite2 (fun y2=>?_) (fun y2=>?_)⟩⟩
   ·have s4:=s2.trans s3
    refine ⟨_,rfl,_,rfl,p,dx,fs,rfl,s4 _ _ hF.hp,hF.nM,_,rfl,_,rfl,p,ch,n,B,2,w,v,bn,b,rfl,hFc.same s4,wb,s4.tup hch,fun H5 s5=>⟨_,_,rfl,rfl,?_⟩⟩
    refine ⟨_,rfl,?_⟩
    have e:=q _ (s4.trans s5)
    unfold Yz at e
    rw [Zn wb hway,if_pos (jJ y2),if_pos (jJ y)] at e
    have e3:0 - Yx B 1 w v bn + Yx B 2 w v bn=Yx B 2 w v bn - Yx B 1 w v bn:=by omega
    dsimp only
    rw [e3]
    exact e
   ·refine ⟨_,rfl,?_⟩
    have e:=q _ (s2.trans s3)
    unfold Yz at e
    rw [Zn wb hway,if_neg (fun z=>y2 (kQ z)),if_pos (jJ y)] at e
    have e3:0 - Yx B 1 w v bn=0 - Yx B 1 w v bn:=by omega
    first | exact e | (rw [e3];exact e)
  ·have s2:=Same.refl H
   refine ⟨_,rfl,p,dx,fs,rfl,s2 _ _ hF.hp,hF.nE,_,rfl,p,ch,n,B,w,v,b,l,c,rfl,hFc.same s2,s2.tup hch,hway,fun H3 s3=>⟨_,rfl,_,_,rfl,rfl,_,rfl,ite2 (fun y2=>?_) (fun y2=>?_)⟩⟩
   ·have s4:=s2.trans s3
    refine ⟨_,rfl,_,rfl,p,dx,fs,rfl,s4 _ _ hF.hp,hF.nM,_,rfl,_,rfl,p,ch,n,B,2,w,v,bn,b,rfl,hFc.same s4,wb,s4.tup hch,fun H5 s5=>⟨_,_,rfl,rfl,?_⟩⟩
    refine ⟨_,rfl,?_⟩
    have e:=q _ (s4.trans s5)
    unfold Yz at e
    rw [Zn wb hway,if_pos (jJ y2),if_neg (fun z=>y (kQ z))] at e
    have e3:0 + Yx B 2 w v bn=Yx B 2 w v bn - 0:=by omega
    dsimp only
    rw [e3]
    exact e
   ·refine ⟨_,rfl,?_⟩
    have e:=q _ (s2.trans s3)
    unfold Yz at e
    rw [Zn wb hway,if_neg (fun z=>y2 (kQ z)),if_neg (fun z=>y (kQ z))] at e
    have e3:0=0 - 0:=by omega
    first | exact e | (rw [e3];exact e)
abbrev Qaf:Stmt:=inClass (top 7) 9
theorem Qlb {K:Fg} {H:Hp} {kvs:List (List Key × V)} {B:List BR} (hs:SaidOk K H kvs B) {b:Str} {r:Int} (h:BR.bench b r ∈ B) {ds t3:Addr} (hd:H ds=some (.dT kvs)) (h3:H t3=some (.tup [.str "bench",.str b])):∃ t,DGet H ds (.ref t3) (some (.ref t))/\SqT K H t [.int r]:=by
 obtain ⟨t,e,hT⟩:=hs.1 _ h (by show ¬ (("bench":Str)="shut");decide +kernel)
 have hg:=DGet.t (k:=(BR.bench b r).key) hd h3
 rw [e] at hg
 exact ⟨t,hg,hT⟩
theorem Qnq {B:List BR} {b:Str} {day r:Int}:Kw B b r day=if ((B.filter (selW "shut")).map (Zc b day)).any id=true then 0 else r:=by
 unfold Kw
 by_cases h:((B.filter (selW "shut")).map (Zc b day)).any id=true
 ·rw [if_pos h,if_neg]
  intro z
  obtain ⟨x,hx,e⟩:=jXc.mp h
  obtain ⟨q,hq,e2⟩:=xQ.mp hx
  have hm:q ∈ B.filter (Zc b day):=jQb.mpr ⟨(jQb.mp hq).1,by rw [e2];exact e⟩
  rw [kXd z] at hm
  exact nomatch hm
 ·rw [if_neg h,if_pos]
  cases e:B.filter (Zc b day) with
  | nil=>rfl
  | cons q L =>
   exfalso
   have hm:q ∈ B.filter (Zc b day):=by rw [e];exact kZ
   obtain ⟨h1,h2⟩:=jQb.mp hm
   refine h (jXc.mpr ⟨true,xQ.mpr ⟨q,jQb.mpr ⟨h1,?_⟩,h2⟩,rfl⟩)
   refine kQ ?_
   cases q with
   | shut b' f t=>rfl
   | _=>cases h2
def Qfl (K:Fg) (C:Addr):Sp:=fun vs H Q _=>∃ (p:Addr) (n:Int) (B:List BR) (bn:Str) (r day:Int),vs=[.ref p,.str bn,.int day]/\FcAt K C H p n B/\WB n B/\.bench bn r ∈ B/\∀ H',Same H H'->Q (.int (Kw B bn r day)) H'
theorem scFcR:FnScope ["self","bench","day"] ["self","bench","day"] (Qg Qaf):=⟨rfl,rfl,rfl,by decide +kernel,rfl,by decide +kernel,by decide +kernel⟩
theorem okFcR {f C:Addr} {fd:FuncData} (F:Fun K "room_of" "Facts.room_of" Qaf f fd) (M:Mg mg) (T:FcTxt K mg C):FnOk P w K mg base CX0 1 f fd ["self","bench","day"] (Qfl K C):=by
 refine F.ok scFcR (fun vs H Q E h=>?_) (fun cdv A outer s H vs Q E hr h=>?_)
 ·obtain ⟨p,n,B,bn,r,day,rfl,_⟩:=h
  rfl
 ·obtain ⟨p,n,B,bn,r,day,rfl,hFc,wb,hben,q⟩:=h
  obtain ⟨dx,lw,lb,lh,ls,la,ds,fs,kvs,yh,ysS,ya,hF⟩:=id hFc
  have hz:(20000:Nat) < sizeLine:=by decide
  have hu:=Qid hr
  have bl:=wb.len
  have lt:=Paired.length hF.tH
  have lf:(B.filter (selW "shut")).length<=B.length:=jJa _ _
  refine ⟨_,(Qf (Yg (Vp (Qy (Qjx rfl) rfl M.any bt_any (Qa (Yr ["name","begin","end","bench","day"] [none,none,none,some 1,some 2] rfl (Qt (Yi (pv 0) rfl)) (fun _ _ _=>(Qbu (K:=K) (i:=0) (j:=1) (l:=2) rfl rfl (show (["name","begin","end","bench","day"]:List Str).Nodup by decide +kernel) rfl rfl rfl rfl rfl rfl)) (fun _ _ _=>Yl) (fun _ _ _=>(Qfx (Vb Yb (pv 0) (pv 3) (Qq _)) (Qfw (Qfz Km Qct (pv 1) (pv 4) (pv 2)))))) Qe))) (Qh (Qw Qd)) Qz) (Qh (Qw (Qo Xn (Zh hu (Yi (pv 0) rfl) (Xd (Qa Xa (Qa (pv 1) Qe))) (fun _ _=>rfl)) Qd (fun _ _=>rfl))))),?_⟩
  refine ⟨_,rfl,p,C,dx,fs,_,rfl,hF.hp,T.cl,T.nH,hF.fH,lh,rfl,⟨_,Qb hF.hH⟩,fun D hD=>?_⟩
  let Pv15:Nat->St->List V->Hp->Prop:=fun m τ ys H1=>∃ v1 v2 v3:Option V,τ=[v1,v2,v3,some (.str bn),some (.int day)]/\ys=(((B.filter (selW "shut")).take m).map (Zc bn day)).map V.bl/\H1 D=some (.lst ys)/\Same H H1
  refine Ym (n:=yh.length) Pv15 ?_ (fun m τ ys H1 hm h=>?_) (fun m τ ys H1 hm h=>?_) (fun τ ys H1 h=>?_) ?_ ?_
  ·exact ⟨none,none,none,rfl,rfl,upd_same,Qc hD _⟩
  ·obtain ⟨v1,v2,v3,rfl,ey,hE,s1⟩:=h
   exact ⟨hE,by rw [ey,jX,jX,zK];omega⟩
  ·obtain ⟨v1,v2,v3,rfl,ey,hE,s1⟩:=h
   exact ⟨yh,yh[m]'hm,s1.seq (Qb hF.hH),gE hm⟩
  ·obtain ⟨v1,v2,v3,rfl,ey,hE,s1⟩:=h
   exact ⟨yh,s1.seq (Qb hF.hH),jK _⟩
  ·rintro m τ ys H1 x H2 hm ⟨v1,v2,v3,rfl,ey,hE,s1⟩ ⟨rfl,e1⟩
   obtain ⟨r',er',t,rfl,hT⟩:=Qr hF.tH (e1 _ (s1.seq (Qb hF.hH)))
   obtain ⟨b',f',t',rfl⟩:=Qds (jJ (jQb.mp (kX er')).2)
   have hT':SqT K H2 t [.str b',.int f',.int t']:=s1.tup hT
   have fin:∀ bb:Bool,bb=Zc bn day (.shut b' f' t')->H2 D=some (.lst ys)/\∃ v1 v2 v3:Option V,([some (.str b'),some (.int f'),some (.int t'),some (.str bn),some (.int day)]:St)=[v1,v2,v3,some (.str bn),some (.int day)]/\ys ++ [V.bl bb]=(((B.filter (selW "shut")).take (m + 1)).map (Zc bn day)).map V.bl/\upd H2 D (.lst (ys ++ [V.bl bb])) D=some (.lst (ys ++ [V.bl bb]))/\Same H (upd H2 D (.lst (ys ++ [V.bl bb]))):=fun bb hb=>by
    refine ⟨hE,_,_,_,rfl,?_,upd_same,fun c o e=>?_⟩
    ·rw [Ze er',kJ,kJ,ey,hb];rfl
    ·rw [Qi (Qk e hD)];exact s1 _ _ e
   have eS:Zc bn day (.shut b' f' t')=decide (b'=bn/\f'<=day/\day < t'):=rfl
   refine ⟨t,_,rfl,hT',rfl,_,_,rfl,_,_,rfl,_,_,rfl,rfl,?_⟩
   refine ⟨_,rfl,_,rfl,rfl,_,rfl,ite2 (fun y=>?_) (fun y=>?_)⟩
   ·refine ⟨_,rfl,_,rfl,_,_,rfl,rfl,_,rfl,ite2 (fun y2=>⟨_,rfl,_,_,rfl,rfl,?_⟩) (fun y2=>?_)⟩
    ·refine fin _ ?_
     rw [eS]
     by_cases e:day < t'
     ·rw [kQ e,kQ ⟨eqS y,jJ y2,e⟩]
     ·rw [xJ e,xJ (fun z=>e z.2.2)]
    ·exact fin _ (by rw [eS,xJ (fun z=>y2 (kQ z.2.1))])
   ·exact fin _ (by rw [eS,xJ (fun z=>y (by rw [z.1];exact yesS _))])
  ·rintro τ ys H1 ⟨v1,v2,v3,rfl,ey,hE,s1⟩
   rw [show yh.length=(B.filter (selW "shut")).length from lt,kW] at ey
   subst ey
   rw [Qnq] at q
   refine ⟨D,_,rfl,Qb hE,_,rfl,ite2 (fun y=>?_) (fun y=>?_)⟩
   ·rw [if_pos y] at q
    exact q _ s1
   ·rw [if_neg y] at q
    refine ⟨_,rfl,p,C,dx,fs,_,rfl,s1 _ _ hF.hp,T.cl,T.nI,hF.fI,_,rfl,by show 2<=sizeLine;decide,fun t1 ht1=>?_⟩
    have s2:=s1.trans (Qc ht1 (.tup [.str "bench",.str bn]))
    obtain ⟨t,dg,hT⟩:=Qlb (hF.sd.same s2) hben (s2 _ _ hF.hI) upd_same
    exact ⟨ds,_,rfl,dg,t,_,_,_,rfl,rfl,hT,(show atI [V.int r] 0=some _ from rfl),q _ s2⟩
abbrev Ky:Stmt:=inClass (top 7) 5
def Js (w:Str):BR->Option (Int × Int)
 | .late w' d k=>if w'=w then some (d,k) else none
 | _=>none
def Jt (B:List BR) (w:Str):Int × Int:=(B.filterMap (Js w)).headD (0,0)
theorem lateR_some {w:Str} {r:BR} {x:Int × Int}:Js w r=some x ↔ r=.late w x.1 x.2:=by
 constructor
 ·intro h
  cases r with
  | late w' d k =>
   have h':(if w'=w then some (d,k) else none)=some x:=h
   by_cases e:w'=w
   ·rw [if_pos e] at h'
    cases h'
    rw [e]
   ·rw [if_neg e] at h';cases h'
  | _=>cases h
 ·rintro rfl
  exact if_pos rfl
theorem Qcg {n:Int} {B:List BR} (wb:WB n B) {w:Str} {d k:Int} (h:BR.late w d k ∈ B):Jt B w=(d,k):=by
 have hx:∀ x ∈ B.filterMap (Js w),x=(d,k):=fun x hx=>by
  obtain ⟨r,hr,e⟩:=yJ.mp hx
  have e2:=lateR_some.mp e
  subst e2
  have:=wb.uniq hr h rfl (by show ¬ (("late":Str)="shut");decide +kernel)
  cases this
  rfl
 have hne:(d,k) ∈ B.filterMap (Js w):=yJ.mpr ⟨_,h,lateR_some.mpr rfl⟩
 unfold Jt
 cases e:B.filterMap (Js w) with
 | nil=>rw [e] at hne;exact nomatch hne
 | cons a b=>exact hx a (by rw [e];exact kZ)
theorem Qch {B:List BR} {w:Str} (h:∀ d k,BR.late w d k ∉ B):Jt B w=(0,0):=by
 unfold Jt
 cases e:B.filterMap (Js w) with
 | nil=>rfl
 | cons a b =>
  have ha:a ∈ B.filterMap (Js w):=by rw [e];exact kZ
  obtain ⟨r,hr,e2⟩:=yJ.mp ha
  rw [lateR_some.mp e2] at hr
  exact absurd hr (h _ _)
theorem Qnr {K:Fg} {H:Hp} {kvs:List (List Key × V)} {n:Int} {B:List BR} (wb:WB n B) (hs:SaidOk K H kvs B) {w:Str} {t2:Addr} (h2:SqT K H t2 [.int 0,.int 0]):∃ tl,(valV kvs [Sum.inr ("late":Str),Sum.inr w]).getD (.ref t2)=.ref tl/\SqT K H tl [.int (Jt B w).1,.int (Jt B w).2]:=by
 by_cases hl:∃ d k,BR.late w d k ∈ B
 ·obtain ⟨d,k,hl⟩:=hl
  obtain ⟨t,e,hT⟩:=hs.1 _ hl (by show ¬ (("late":Str)="shut");decide +kernel)
  have e':valV kvs [Sum.inr ("late":Str),Sum.inr w]=some (.ref t):=e
  rw [e',Qcg wb hl]
  exact ⟨t,rfl,hT⟩
 ·have hno:∀ d k,BR.late w d k ∉ B:=fun d k h=>hl ⟨d,k,h⟩
  have e:valV kvs [Sum.inr ("late":Str),Sum.inr w]=none:=hs.2 _ fun r hr z=>by
   have hw:r.word="late":=by
    have z':((Sum.inr r.word:Key) :: r.names.map Sum.inr)=[Sum.inr ("late":Str),Sum.inr w]:=z
    injection z' with z1
    exact Sum.inr.inj z1
   obtain ⟨w',d,k,rfl⟩:=Qdo hw
   have z':[(Sum.inr ("late":Str):Key),Sum.inr w']=[Sum.inr ("late":Str),Sum.inr w]:=z
   injection z' with _ z2
   injection z2 with z3
   cases z3
   exact hno _ _ hr
  rw [e,Qch hno]
  exact ⟨t2,rfl,h2⟩
def Qgt (B:List BR) (w:Str) (b l c:Int):Int:=c + (if b + l - (Jt B w).1 > 0 then b + l - (Jt B w).1 else 0) * (Jt B w).2
def Qci (K:Fg) (C:Addr):Sp:=fun vs H Q _=>∃ (p ch:Addr) (n:Int) (B:List BR) (w v:Str) (b l c:Int),vs=[.ref p,.ref ch]/\FcAt K C H p n B/\WB n B/\SqT K H ch [.str w,.str v,.int b]/\.way w v l c ∈ B/\0<=b/\b + l<=100/\0<=(Jt B w).1/\(Jt B w).1<=100/\∀ H',Same H H'->Q (.int (Qgt B w b l c)) H'
theorem scFcP:FnScope ["self","choice","late"] ["self","choice"] (Qg Ky):=⟨rfl,rfl,rfl,by decide +kernel,rfl,by decide +kernel,by decide +kernel⟩
theorem okFcP {f fE C:Addr} {fd fdE:FuncData} (F:Fun K "price_of" "Facts.price_of" Ky f fd) (M:Mg mg) (T:FcTxt K mg C) (GE:FnOk P w K mg base CX0 1 fE fdE ["self","choice"] (Qax K C)) (bE:Binds K fdE ["self","choice"] []) (mE:Meth K C "end_of" fE):FnOk P w K mg base CX0 2 f fd ["self","choice"] (Qci K C):=by
 refine F.ok scFcP (fun vs H Q E h=>?_) (fun cdv A outer s H vs Q E hr h=>?_)
 ·obtain ⟨p,ch,n,B,w,v,b,l,c,rfl,_⟩:=h
  rfl
 ·obtain ⟨p,ch,n,B,w,v,b,l,c,rfl,hF,wb,hch,hway,b0,bl,d0,d1,q⟩:=h
  obtain ⟨dx,lw,lb,lh,ls,la,ds,fs,kvs,yh,ysS,ya,hQ⟩:=id hF
  have hp:=hQ.hp
  have lkS:=hQ.fI
  have lkE:=hQ.nE
  have hds:=hQ.hI
  have hsd:=hQ.sd
  have hu:=Qid hr
  have hr1:Room 1 _:=hr.mono (by decide)
  refine ⟨_,(Qf (Qp (i:=2) scFcP.nd rfl (Or.inl rfl) (Qgh hu (Yi (pv 0) rfl) (Xd (Qa Xa (Qa (Qo Xn (pv 1) Qd (fun _ _=>rfl)) Qe))) (Xd (Qa Qd (Qa Qd Qe))) ⟨rfl,rfl,rfl,rfl⟩))
   (Qh (Qw (Qj Qs (Qo Xn (Zh hu (Yi (pv 0) rfl) (Qj Wn (Xd (Qa Xa Qe)) (Za Qcz (pv 1) Zs (Zt Qd))) (fun _ _=>rfl)) Qd (fun _ _=>rfl)) (Qj Zr (Qy (Qcu rfl) rfl M.max Qpa (Qa Qd (Qa (Qj Kl (Yj (pv 0) T.cl mE GE hr1 bE .nil Zd (Qa (pv 1) Qe)) (Qo Xn (pv 2) Qd (fun _ _=>rfl))) Qe))) (Qo Xn (pv 2) Qd (fun _ _=>rfl))))))),?_⟩
  refine ⟨_,rfl,p,C,dx,fs,_,rfl,hp,T.cl,T.nI,lkS,ds,rfl,.inr ⟨kvs,.inl hds⟩,_,rfl,ch,_,_,_,rfl,rfl,hch,(show atI [V.str w,V.str v,V.int b] 0=some (.str w) from rfl),by show 2<=sizeLine;decide,fun t1 ht1=>?_⟩
  have s1:=Qc ht1 (.tup [.str "late",.str w])
  refine ⟨by show 2<=sizeLine;decide,fun t2 ht2=>?_⟩
  have s12:=Qc ht2 (.tup [.int 0,.int 0])
  have s2:=s1.trans s12
  have ht22:upd (upd H t1 (.tup [.str "late",.str w])) t2 (.tup [.int 0,.int 0]) t2=some (.tup [.int 0,.int 0]):=upd_same
  have ht12:=s12 _ _ (upd_same (H:=H) (a:=t1) (o:=.tup [.str "late",.str w]))
  generalize upd (upd H t1 (.tup [.str "late",.str w])) t2 (.tup [.int 0,.int 0])=H2 at s2 ht22 ht12 ⊢
  clear s12
  obtain ⟨tl,etl,hTl⟩:=Qnr (w:=w) wb (hsd.same s2) (Qu ht22)
  refine ⟨_,DGet.t (k:=[Sum.inr ("late":Str),Sum.inr w]) (s2 _ _ hds) ht12,?_⟩
  rw [etl]
  refine ⟨_,rfl,p,C,dx,fs,_,rfl,s2 _ _ hp,T.cl,T.nI,lkS,by show 1<=sizeLine;decide,fun t3 ht3=>?_⟩
  have s3:=Qc ht3 (.tup [.str "way"])
  refine ⟨_,rfl,_,rfl,ch,_,rfl,(s2.trans s3).tup hch,(by show ¬ (HT.sIx 3 0 none=0/\HT.sIx 3 3 (some 2)=3);decide),fun t4 ht4=>?_⟩
  rw [cut2]
  have s4:=s3.trans (Qc ht4 (.tup [.str w,.str v]))
  refine ⟨t3,t4,_,_,rfl,rfl,(Qc ht4 _).tup (Qu upd_same),Qu upd_same,by simp,by show 3<=sizeLine;decide,fun z=>absurd z (by simp),fun _ t5 ht5=>?_⟩
  have s5:=s4.trans (Qc ht5 (.tup ([.str "way"] ++ [.str w,.str v])))
  have s25:=s2.trans s5
  obtain ⟨t,dg,hT⟩:=Qcf (hsd.same s25) hway (s25 _ _ hds) upd_same
  refine ⟨ds,_,rfl,dg,t,_,_,_,rfl,rfl,hT,at1,?_⟩
  refine ⟨_,rfl,p,dx,fs,rfl,s25 _ _ hp,lkE,_,rfl,p,ch,n,B,w,v,b,l,c,rfl,hF.same s25,s25.tup hch,hway,fun H6 s6=>?_⟩
  have s56:=s5.trans s6
  refine ⟨_,rfl,tl,_,_,_,rfl,rfl,s56.tup hTl,at0,_,_,rfl,rfl,_,_,rfl,_,rfl,tl,_,_,_,rfl,rfl,s56.tup hTl,at1,_,_,rfl,rfl,?_,_,_,rfl,rfl,q _ (s2.trans s56)⟩
  have hok:=kXe 0
  refine mulC _ _ ?_ ?_
  ·show -(2 ^ 64) < (if b + l - (Jt B w).1 > 0 then b + l - (Jt B w).1 else 0)
   split <;> omega
  ·show (if b + l - (Jt B w).1 > 0 then b + l - (Jt B w).1 else 0) < 2 ^ 64
   split <;> omega
abbrev Qgu:Stmt:=top 10
def Qqu (K:Fg) (tl:TE):TI:=fun σ H R=>iList K tl σ H R\/iTup K tl σ H R
theorem Qlc {X:Cx} {tg l:Expr} {tl:TE} (hl:PE X l tl):PI X tg l (Qqu X.K tl):=fun pins s σ H R I h=>h.elim (Qt hl pins s σ H R I) (pi_tup hl pins s σ H R I)
def Qcj (K:Fg):Sp:=fun vs H Q _=>∃ (a:Addr) (ns:List Int),vs=[.ref a]/\(SqL K H a (ns.map V.int)\/SqT K H a (ns.map V.int))/\ns.length<=2000000/\∀ (t:Addr) (H':Hp),Same H H'->H t=none->SqT K H' t ((ns.map fun x=>-x).map V.int)->Q (.ref t) H'
theorem Qqv:FnScope ["numbers"] ["numbers"] (Qg Qgu):=⟨rfl,rfl,rfl,by decide +kernel,rfl,by decide +kernel,by decide +kernel⟩
theorem Qqw (F:Fn K mg "negated" Qgu) (M:Mg mg):Cal P w K mg base 1 "negated" ["numbers"] (Qcj K):=by
 refine Xi F Qqv (fun _ _ _ _ _ _=>bind1 (fun _=>rfl)) (fun vs H Q E h=>?_) (fun f cdv A outer s H vs Q E hr h=>?_)
 ·obtain ⟨a,ns,rfl,_⟩:=h
  rfl
 obtain ⟨a,ns,rfl,hs,hn,q⟩:=h
 refine ⟨_,(Qh (Qw (Xf Xu rfl M.tuple_ Yq (Qa (Yr ["number"] [none] rfl (Qlc (pv 0)) (fun _ _ _=>(Ql (i:=0) (show (["number"]:List Str).Nodup by decide +kernel) rfl (Or.inl rfl) (Or.inr rfl))) (fun _ _ _=>Yl) (fun _ _ _=>(Qhv Qar (pv 0)))) Qe)))),?_⟩
 have hz:(2000000:Nat) < sizeLine:=by decide
 rcases hs with hs | hs
 ·refine .inl ⟨_,rfl,a,rfl,⟨_,hs⟩,fun D hD=>?_⟩
  let Pv16:Nat->St->List V->Hp->Prop:=fun i τ ys H1=>∃ v:Option V,τ=[v]/\ys=((ns.take i).map fun x=>-x).map V.int/\H1 D=some (.lst ys)/\Same H H1
  refine Ym (n:=ns.length) Pv16 ?_ (fun i τ ys H1 hi h=>?_) (fun i τ ys H1 hi h=>?_) (fun τ ys H1 h=>?_) ?_ ?_
  ·exact ⟨none,rfl,rfl,upd_same,Qc hD _⟩
  ·obtain ⟨v,rfl,rfl,hD1,s1⟩:=h
   exact ⟨hD1,by rw [jX,jX,zK];omega⟩
  ·obtain ⟨v,rfl,rfl,hD1,s1⟩:=h
   exact ⟨_,_,s1.seq hs,gE (by rw [jX];exact hi)⟩
  ·obtain ⟨v,rfl,rfl,hD1,s1⟩:=h
   exact ⟨_,s1.seq hs,by rw [jX];exact jK _⟩
  ·rintro i τ ys H1 x H2 hi ⟨v,rfl,rfl,hD1,s1⟩ ⟨rfl,e1⟩
   obtain ⟨x,ex,rfl⟩:=Wu (e1 _ (s1.seq hs))
   refine ⟨_,rfl,_,rfl,hD1,_,rfl,?_,upd_same,fun b o e=>?_⟩
   ·rw [Ze ex,kJ,kJ];rfl
   ·rw [Qi (Qk e hD)];exact s1 _ _ e
  rintro τ ys H1 ⟨v,rfl,rfl,hD1,s1⟩
  rw [kW] at hD1
  refine ⟨D,_,rfl,.inl ⟨Qb hD1,fun t ht=>q t _ (s1.trans (Qc ht _)) ?_ (Qu upd_same)⟩⟩
  cases e:H t with
  | none=>rfl
  | some o=>rw [s1 _ _ e] at ht;cases ht
 ·refine .inr ⟨_,rfl,a,rfl,⟨_,hs⟩,fun D hD=>?_⟩
  let Pv17:Nat->St->List V->Hp->Prop:=fun i τ ys H1=>∃ v:Option V,τ=[v]/\ys=((ns.take i).map fun x=>-x).map V.int/\H1 D=some (.lst ys)/\Same H H1
  refine Ym (n:=ns.length) Pv17 ?_ (fun i τ ys H1 hi h=>?_) (fun i τ ys H1 hi h=>?_) (fun τ ys H1 h=>?_) ?_ ?_
  ·exact ⟨none,rfl,rfl,upd_same,Qc hD _⟩
  ·obtain ⟨v,rfl,rfl,hD1,s1⟩:=h
   exact ⟨hD1,by rw [jX,jX,zK];omega⟩
  ·obtain ⟨v,rfl,rfl,hD1,s1⟩:=h
   exact ⟨_,_,s1.tup hs,gE (by rw [jX];exact hi)⟩
  ·obtain ⟨v,rfl,rfl,hD1,s1⟩:=h
   exact ⟨_,s1.tup hs,by rw [jX];exact jK _⟩
  ·rintro i τ ys H1 x H2 hi ⟨v,rfl,rfl,hD1,s1⟩ ⟨rfl,e1⟩
   obtain ⟨x,ex,rfl⟩:=Wu (e1 _ (s1.tup hs))
   refine ⟨_,rfl,_,rfl,hD1,_,rfl,?_,upd_same,fun b o e=>?_⟩
   ·rw [Ze ex,kJ,kJ];rfl
   ·rw [Qi (Qk e hD)];exact s1 _ _ e
  rintro τ ys H1 ⟨v,rfl,rfl,hD1,s1⟩
  rw [kW] at hD1
  refine ⟨D,_,rfl,.inl ⟨Qb hD1,fun t ht=>q t _ (s1.trans (Qc ht _)) ?_ (Qu upd_same)⟩⟩
  cases e:H t with
  | none=>rfl
  | some o=>rw [s1 _ _ e] at ht;cases ht
abbrev sAfN:Stmt:=top 14
def afN (w:Str) (b l:Int) (x y:Str) (g d:Int):Int:=if w=x then (if b + l + g<=d then 1 else 0) else if w=y/\b<=d then -1 else 0
def spAfN (K:Fg) (C:Addr):Sp:=fun vs H Q _=>∃ (p ch af:Addr) (n:Int) (B:List BR) (w v:Str) (b l c:Int) (x y:Str) (g d:Int),vs=[.ref p,.ref ch,.ref af,.int d]/\FcAt K C H p n B/\SqT K H ch [.str w,.str v,.int b]/\.way w v l c ∈ B/\SqT K H af [.str x,.str y,.int g]/\∀ H',Same H H'->Q (.int (afN w b l x y g d)) H'
theorem Qdy {a b c:V}:atI [a,b,c] 0=some a:=rfl
theorem at3_1 {a b c:V}:atI [a,b,c] 1=some b:=rfl
theorem Qqx {a b c:V}:atI [a,b,c] 2=some c:=rfl
theorem scAfN:FnScope ["facts","choice","after","day"] ["facts","choice","after","day"] (Qg sAfN):=⟨rfl,rfl,rfl,by decide +kernel,rfl,by decide +kernel,by decide +kernel⟩
theorem okAfN {C fE:Addr} {fdE:FuncData} (F:Fn K mg "after_number" sAfN) (M:Mg mg) (T:FcTxt K mg C) (GE:FnOk P w K mg base CX0 1 fE fdE ["self","choice"] (Qax K C)) (bE:Binds K fdE ["self","choice"] []) (mE:Meth K C "end_of" fE):Cal P w K mg base 2 "after_number" ["facts","choice","after","day"] (spAfN K C):=by
 refine Xi F scAfN (fun _ _ _ _ _ _=>Qkl (fun _ _ _ _=>rfl)) (fun vs H Q E h=>?_) (fun f cdv A outer s H vs Q E hr h=>?_)
 ·obtain ⟨p,ch,af,n,B,w,v,b,l,c,x,y,g,d,rfl,_⟩:=h
  rfl
 obtain ⟨p,ch,af,n,B,w,v,b,l,c,x,y,g,d,rfl,hFc,hch,hway,haf,q⟩:=h
 obtain ⟨dx,lw,lb,lh,ls,la,ds,fs,kvs,yh,ysS,ya,hF⟩:=id hFc
 refine ⟨_,(Qf (Yg (Qn Yb (Qo Xn (pv 1) Qd (fun _ _=>rfl)) (Qo Xn (pv 2) Qd (fun _ _=>rfl)) (Qq _)) (Qh (Qw (Kk (Qn Km (Qj Qs (Yj (pv 0) T.cl mE GE (hr.mono (by decide)) bE .nil Zd (Qa (pv 1) Qe)) (Qo Xn (pv 2) Qd (fun _ _=>rfl))) (pv 3) (Qq _)) Qd Qd))) Qz)
  (Qh (Qw (Kk (PW.pt (Jc (Qn Yb (Qo Xn (pv 1) Qd (fun _ _=>rfl)) (Qo Xn (pv 2) Qd (fun _ _=>rfl)) (Qq _)) (Jf (Qn Km (Qo Xn (pv 1) Qd (fun _ _=>rfl)) (pv 3) (Qq _))))) (Qhv Qar Qd) Qd)))),?_⟩
 refine ⟨_,rfl,ch,_,_,_,rfl,rfl,hch,Qdy,_,rfl,af,_,_,_,rfl,rfl,haf,Qdy,rfl,_,rfl,ite2 (fun e1=>?_) (fun e1=>?_)⟩
 ·have e1':w=x:=eqS e1
  refine ⟨_,rfl,p,dx,fs,rfl,hF.hp,hF.nE,_,rfl,p,ch,n,B,w,v,b,l,c,rfl,hFc,hch,hway,fun H3 s3=>?_⟩
  refine ⟨_,rfl,af,_,_,_,rfl,rfl,s3.tup haf,Qqx,_,_,rfl,rfl,_,rfl,_,_,rfl,rfl,_,rfl,ite2 (fun e2=>?_) (fun e2=>?_)⟩
  ·have:=q H3 s3
   unfold afN at this
   rw [if_pos e1',if_pos (jJ e2)] at this
   exact this
  ·have:=q H3 s3
   unfold afN at this
   rw [if_pos e1',if_neg (fun z=>e2 (kQ z))] at this
   exact this
 ·have e1':¬ w=x:=fun z=>e1 (by rw [z];exact yesS x)
  refine ⟨_,rfl,ch,_,_,_,rfl,rfl,hch,Qdy,_,rfl,af,_,_,_,rfl,rfl,haf,at3_1,rfl,_,rfl,ite2 (fun e2=>?_) (fun e2=>?_)⟩
  ·have e2':w=y:=eqS e2
   refine ⟨_,rfl,ch,_,_,_,rfl,rfl,hch,Qqx,_,rfl,_,_,rfl,rfl,_,rfl,ite2 (fun e3=>?_) (fun e3=>?_)⟩
   ·have:=q H (Same.refl _)
    unfold afN at this
    rw [if_neg e1',if_pos ⟨e2',jJ e3⟩] at this
    exact ⟨_,rfl,this⟩
   ·have:=q H (Same.refl _)
    unfold afN at this
    rw [if_neg e1',if_neg (fun z=>e3 (kQ z.2))] at this
    exact this
  ·have:=q H (Same.refl _)
   unfold afN at this
   rw [if_neg e1',if_neg (fun z=>e2 (by rw [z.1];exact yesS y))] at this
   exact this
end
end Nb
namespace L2
open PySem PySem.Spec PyProof.Rows
section
variable {X:Cx}
def PairsK (K:Fg) (H:Hp):List V->List (Key × V)->Prop:=Paired fun v p=>∃ t,v=.ref t/\SqT K H t [kV p.1,p.2]
theorem PairsK.get {K:Fg} {H:Hp} {vs:List V} {ps:List (Key × V)} (h:PairsK K H vs ps):∀ {i:Nat} {v:V},vs[i]?=some v->∃ t p,v=.ref t/\ps[i]?=some p/\SqT K H t [kV p.1,p.2]:=by
 induction h with
 | nil=>intro i v e;simp at e
 | cons q t ih =>
  intro i v e
  cases i with
  | zero=>obtain ⟨a,e1,z⟩:=q;simp at e;subst e;exact ⟨a,_,e1,rfl,z⟩
  | succ i=>obtain ⟨a,r,e1,e2,z⟩:=ih (i:=i) (v:=v) (by simpa using e);exact ⟨a,r,e1,by simpa using e2,z⟩
theorem PairsK.imp {K:Fg} {H H':Hp} {vs:List V} {ps:List (Key × V)} (f:∀ t xs,SqT K H t xs->SqT K H' t xs) (h:PairsK K H vs ps):PairsK K H' vs ps:=by
 induction h with
 | nil=>exact .nil
 | cons r t ih=>obtain ⟨a,e,z⟩:=r;exact .cons ⟨a,e,f _ _ z⟩ ih
theorem PairsK.length {K:Fg} {H:Hp} {vs:List V} {ps:List (Key × V)} (h:PairsK K H vs ps):vs.length=ps.length:=Paired.length h
def Xp (ps:List (Key × V)):List (Key × V):=ps.foldl (fun d p=>putK d p.1 p.2) []
theorem Qdz {ps:List (Key × V)} {i:Nat} {p:Key × V} (h:ps[i]?=some p):Xp (ps.take (i + 1))=putK (Xp (ps.take i)) p.1 p.2:=by
 unfold Xp
 rw [List.take_succ,h,List.foldl_append]
 rfl
theorem Qfm (ps:List (Key × V)):(Xp ps).length<=ps.length:=by
 have:∀ (l:List (Key × V)) (d:List (Key × V)),(l.foldl (fun d p=>putK d p.1 p.2) d).length<=d.length + l.length:=by
  intro l
  induction l with
  | nil=>intro d;simp
  | cons p r ih=>intro d;have:=ih (putK d p.1 p.2);have h2:=Zg d p.1 p.2;simp only [kYb,xW] at *;omega
 exact jQd (this ps []) (by simp)
theorem Qld {pins:List (Addr × Obj)} {σ:St} {H:Hp} {d it l:Addr} {vs:List V} {ps:List (Key × V)} {A:Around} {R:Result->Shared->Prop} (hh:A.handled=none) (hd:H d=none) (hl:SqL X.K H l vs) (hp:PairsK X.K H vs ps) (hz:ps.length < sizeLine)
  (hR:∀ s',Inv X pins σ (upd H d (.dK (Xp ps))) s'->R (.ok (.ret .none)) s') :
  ∀ (k i:Nat) (s:Shared),ps.length - i=k->i<=ps.length->Inv X pins σ (upd H d (.dK (Xp (ps.take i)))) s->s.heap.IsListIter it l i->FpOk X pins (upd H d (.dK (Xp (ps.take i)))) it ->
   codeAny (model X.prog X.w) A (.builtin "dict.update.loop" ⟨[.ref d,.ref it,rawInt i,.none],[]⟩) R s:=by
 intro k
 induction k with
 | zero =>
  intro i s hk hi I st f
  have ei:i=ps.length:=by omega
  subst ei
  rw [kW] at I f
  have sm:Same H (upd H d (.dK (Xp ps))):=Qc hd _
  obtain ⟨its,r,p,_⟩:=I.list (sm.seq hl)
  have lv:=hp.length
  have lr:=r.length
  refine codeAny_builtin Kr ?_
  rw [Around.under_plainId Zl _]
  show wpAny _ A.in1 (pyNext (.ref it) >>= _) _ _ s
  refine jQ (wpAny_pyNext_list_end (A:=A.in1) hh st p.isList (by simp;omega) fun h' eb=>?_)
  refine jQ (jV (jV ?_))
  exact hR _ (I.turned (t':=s.toks) (fun b o hb e=>eb b o hb e) f.1 f.2.1 f.2.2.2.1 f.2.2.2.2.1 f.2.2.2.2.2)
 | succ k ih =>
  intro i s hk hi I st f
  have sm:Same H (upd H d (.dK (Xp (ps.take i)))):=Qc hd _
  obtain ⟨its,r,p,_⟩:=I.list (sm.seq hl)
  have lv:=hp.length
  have hlt:i < vs.length:=by omega
  obtain ⟨t,pr,ev,ep,hT⟩:=hp.get (gE hlt)
  obtain ⟨u,hu,ru⟩:=r.get (gE hlt)
  rw [ev] at ru
  cases ru
  refine codeAny_builtin Kr ?_
  rw [Around.under_plainId Zl _]
  show wpAny _ A.in1 (pyNext (.ref it) >>= _) _ _ s
  refine jQ (wpAny_pyNext_list_item st p.isList (x:=.ref t) (by simpa using hu) fun h' st' sb=>?_)
  have I1:Inv X pins σ (upd H d (.dK (Xp (ps.take i)))) { s with heap:=h' }:=I.turned (t':=s.toks) (fun b o hb e=>(sb.2 b hb).trans e) f.1 f.2.1 f.2.2.2.1 f.2.2.2.2.1 f.2.2.2.2.2
  obtain ⟨its2,r2,⟨ot,gt,ct,nt,dt⟩,_⟩:=I1.tuple (sm.tup hT)
  obtain ⟨u1,u2,rfl,ru1,ru2⟩:=r2.two
  refine jQ (wpAny_holding ?_)
  refine jQ (wpAny_tryCatch ?_)
  unfold Builtin.Dict.pairItems
  refine jQ (wpAny_typeOf (T:="tuple") ⟨ot,gt,ct⟩ ?_)
  rw [if_pos (by simp)]
  refine jQ (wpAny_seqItems gt dt (jV ?_))
  show wpAny _ _ (holding [u1,u2] (dictSet d u1 u2)) _ _ _
  obtain ⟨z,hdS,kv,rel,dd⟩:=Qan I1.hok (upd_same (H:=H) (a:=d) (o:=.dK (Xp (ps.take i))))
  have l1:=Qfm (ps.take i)
  rw [zK] at l1
  have hz2:kv.length<=sizeLine:=by rw [← rel.length];exact z
  refine wpAny_holding (wpAny_dictSet_pairs (hsz:=hz2) (knd:=Xl X.prog X.w) (k:=pr.1) (Qez ru1) dd fun h2 dd' hs2=>?_)
  have he2:∃ q,h2.get? d=some q:=let ⟨q,_,_,hq,_⟩:=dd';⟨q,hq⟩
  have l2:=Zg (Xp (ps.take i)) pr.1 pr.2
  have I2:Inv X pins σ (upd (upd H d (.dK (Xp (ps.take i)))) d (.dK (putK (Xp (ps.take i)) pr.1 pr.2))) { s with heap:=h2,toks:=s.toks + 1 } :=
   Ki (s:={ s with heap:=h' }) I1 (by rw [upd_same];exact True.intro) hs2 he2 (Qkc (by omega) hdS (rel.put _ ru2) dd')
  rw [Qeq,← Qdz ep] at I2
  have nit:it ≠ d:=fun e=>by have:=f.1;rw [e,upd_same] at this;cases this
  refine jV ⟨plainId_quiet Zl _,?_⟩
  have ei:rawInt ((i:Int) + 1)=rawInt ((i + 1:Nat):Int):=by push_cast;rfl
  rw [ei]
  refine ih (i + 1) _ (by omega) (by omega) I2 (st'.at fun o e=>hs2.extBut _ _ nit e) ⟨?_,f.2⟩
  have:=f.1
  rw [Qi nit] at this ⊢
  exact this
theorem Zv (hc:X.calm=true):Jg X (.type "dict") (fun xs H Q=>∃ (l:Addr) (vs:List V) (ps:List (Key × V)),xs=[.ref l]/\SqL X.K H l vs/\PairsK X.K H vs ps/\ps.length < sizeLine/\∀ d,H d=none->Q (.ref d) (upd H d (.dK (Xp ps)))):=by
 intro pins s σ H xs us Q I rv h
 obtain ⟨l,vs,ps,rfl,hl,hp,hz,q⟩:=h
 obtain ⟨u,rfl,ru⟩:=rv.one
 cases ru
 refine callType_codes (Q₁:=fun obj s1=>obj=.ref s.heap.objs.size/\s1={ s with heap:=s.heap.push { cls:=.type "dict",data:=.dict #[] } }) F.kt_called_dict (F.kt_typeCall_dict_1 _) F.entry_dict_init (kt_code_dict_new _ ⟨rfl,rfl⟩) ?_
 rintro obj s1 ⟨rfl,rfl⟩
 have hd:H s.heap.objs.size=none:=I.hok.fresh (jK _)
 have I1:Inv X pins σ (upd H s.heap.objs.size (.dK [])) { s with heap:=s.heap.push { cls:=.type "dict",data:=.dict #[] } }:=I.laid (t':=s.toks) (fun _ _ q=>jW _ q) (jK _) (Qbs s.heap I.big)
 have sm:Same H (upd H s.heap.objs.size (.dK [])):=Qc hd _
 obtain ⟨z,hdS,kv,rel,dd⟩:=Qan I1.hok (upd_same (H:=H) (a:=s.heap.objs.size) (o:=.dK []))
 refine ⟨dd.typeIs,F.args_dict_init_2 _ _,?_⟩
 unfold Builtin.«dict.__init__»
 refine jQ ?_
 unfold Builtin.Dict.selfAndRest
 refine jQ (wpAny_notOrdered_dict dd.typeIs ?_)
 show wpAny _ _ (pure (s.heap.objs.size,[Value.ref l])) _ _ _
 refine jV ?_
 show wpAny _ _ (Builtin.Dict.updateFrom "dict.__init__" s.heap.objs.size (.ref l) [] .none) _ _ _
 unfold Builtin.Dict.updateFrom
 obtain ⟨its,r,⟨o,n,e,c,dn,sl⟩,_⟩:=I1.list (sm.seq hl)
 obtain ⟨cls,dct,dat,sls⟩:=o
 simp only at c dn sl
 subst c dn sl
 refine jQ (wpAny_typeOf (T:="list") ⟨_,e,rfl⟩ ?_)
 rw [if_pos (by decide)]
 refine jQ (Kq (s:={ s with heap:=s.heap.push { cls:=.type "dict",data:=.dict #[] } }) e (by exact I.ok.hd hc) fun h2 tk2 hk2=>?_)
 have I2:Inv X pins σ (upd H s.heap.objs.size (.dK [])) { s with heap:=h2,toks:=tk2 }:=I1.kept hk2
 rw [if_pos (by rfl)]
 refine jQ (wpAny_rule (jQ ?_))
 obtain ⟨its2,r2,p2,_⟩:=I2.list (sm.seq hl)
 refine wpAny_pyIter_list (s:={ s with heap:=h2,toks:=tk2 }) p2.isList ?_
 refine jV ⟨plainId_quiet Zl _,?_⟩
 have I3:Inv X pins σ (upd H s.heap.objs.size (.dK [])) { s with heap:=h2.push { cls:=.type "list_iterator",data:=.fields #[.ref l,.int 0 0] },toks:=tk2 }:=I2.kept (t':=tk2) fun b o e=>jW _ e
 have hfr:=I2.hok.fresh (a:=h2.objs.size) (jK _)
 refine Qld (X:=X) (pins:=pins) (σ:=σ) (H:=H) (vs:=vs) (ps:=ps) (A:=X.A.in1) (by exact I.ok.hd hc) hd hl hp hz (fun s' I'=>⟨rfl,.ref s.heap.objs.size,_,I',rfl,q _ hd⟩) ps.length 0 _ (by omega) (jXe _) I3 ⟨_,yK _ rfl,rfl,rfl⟩ (I2.fpOk (jK _) hfr)
end
theorem Qay:∀ {us:List Value} {ss:List Str},us.length=ss.length->(∀ (j:Nat) (u:Value),us[j]?=some u->∃ x t,ss[j]?=some x/\u=.str x t)->StrsAre us ss
 | [],[],_,_=>.nil
 | [],_ :: _,e,_=>nomatch e
 | _ :: _,[],e,_=>nomatch e
 | u :: us,x :: ss,e,h=>by
  obtain ⟨y,t,e1,rfl⟩:=h 0 u rfl
  obtain rfl:x=y:=Option.some.inj e1
  exact .cons x t (Qay (Nat.succ.inj e) fun j v ev=>h (j + 1) v ev)
theorem Vr:∀ {ss:List Str} {us:List Value},StrsAre us ss->Vals (ss.map V.str) us:=by
 intro ss us h
 induction h with
 | nil=>exact .nil
 | cons=>rename_i ih;exact .cons ⟨_,rfl⟩ ih
section
variable {X:Cx}
open PySem.W in
theorem Qea (hc:X.calm=true):Jg X (.builtin "sorted") (fun xs H Q=>∃ (d:Addr) (kvs:List (Key × V)) (ss:List Str),xs=[.ref d]/\H d=some (.dK kvs)/\kvs.map (·.1)=ss.map Sum.inr/\kvs.length < 64 /\
  ∀ (D:Addr) (qs:List Str),H D=none->qs.Perm ss->sortedS qs=true->Q (.ref D) (upd H D (.lst (qs.map V.str)))):=by
 intro pins s σ H xs us Q I rv h
 obtain ⟨d,kvs,ss,rfl,hd,hk,h64,q⟩:=h
 obtain ⟨u,rfl,ru⟩:=rv.one
 cases ru
 obtain ⟨z,lo,vs,rel,dd⟩:=Qan I.hok hd
 obtain ⟨o,es,ep,h1,h2,h3,h4⟩:=id dd
 have da:s.heap.DictAt (Xl X.prog X.w) d vs ep:=⟨o,es,h1,h2,h3,h4⟩
 have lr:=rel.length
 have lo':(d == sysModules)=false:=lo
 have hz64:(64:Nat) < sizeLine:=by decide
 refine Calls.call_function_entry kind_sorted plain_sorted entry_sorted (args_sorted1 _) ?_
 unfold Builtin.«sorted»
 refine jQ (m:=checkCount "sorted" 1 1 _) (jV ?_)
 refine jQ (kdu_collect (A:=X.A.in1) (kdl_dict (knd:=Xl X.prog X.w) (kvs:=vs) (ep:=ep) lo') (I.ok.hd hc) da (by omega) fun h' tk acc hkp hacc=>?_)
 have hl:acc.toList.length=vs.length:=by rw [jZb];exact hacc.1
 refine jQ (wpAny_newList ?_ (by rw [hl];omega))
 have lk:kvs.length=ss.length:=by
  have:=congrArg List.length hk
  rwa [jX,jX] at this
 have hS:StrsAre acc.toList ss:=by
  refine Qay (by omega) fun j u eu=>?_
  obtain ⟨k,x,ek,hkx⟩:=hacc.2 j u (by rw [← Array.getElem?_toList];exact eu)
  have e5:(vs.map (·.1))[j]?=some k:=by rw [yY,ek];rfl
  rw [← Qki rel,hk,yY] at e5
  cases e6:ss[j]? with
  | none=>rw [e6] at e5;cases e5
  | some y =>
   rw [e6] at e5
   cases e5
   obtain ⟨t,rfl⟩:=(show ∃ t,u=Value.str y t from is_kV hkx)
   exact ⟨y,t,rfl,rfl⟩
 have hoL:(h'.push (seqObj "list" acc.toList.toArray 0)).get? h'.objs.size=some (seqObj "list" acc.toList.toArray 0):=yK _ rfl
 show wpAny _ _ _ _ _ { s with heap:=h'.push (seqObj "list" acc.toList.toArray 0),toks:=tk }
 refine jQ (wpAny_holding (wpAny_call_entry slot_list_sort ⟨_,hoL,rfl⟩ entry_list_sort (list_sort_treeK strKind_oneLt hoL hS.keysOf (fun v₁ v₂ rest e=>keyKind_strs (by rw [← e];exact hS)) (by omega) fun st' a1 a2=>⟨_,rfl,?_⟩) (args_list_sort _)))
 refine jV ⟨_,rfl,?_⟩
 obtain ⟨ss',b1,b2,b3⟩:=sorted_out_str hS a1 a2
 obtain ⟨e,he⟩:=sortedHeap_at (h:=h'.push (seqObj "list" acc.toList.toArray 0)) (vs:=acc.toList) (out:=(arrOf st').map (·.2)) hoL
 have l5:ss'.length=ss.length:=b2.length_eq
 have I2:Inv X pins σ H { s with heap:=h',toks:=tk }:=I.kept hkp
 refine ⟨.ref h'.objs.size,_,I2.laid (t':=tk) (o:=.lst (ss'.map V.str)) (fun b ob z5=>?_) (jK _) ⟨by rw [jX];omega,((arrOf st').map (·.2)).toList,e,Vr b1,by rw [Array.toArray_toList];exact he⟩,rfl,q _ ss' (I2.hok.fresh (jK _)) b2 b3⟩
 have hb:h'.get? b=some ob:=z5
 have lb:=zX hb
 rw [sortedHeap_old (xY lb) (by rw [size_push'];exact Nat.lt_succ_of_lt lb),Heap.get?_push_ne _ _ _ (xY lb)]
 exact hb
theorem Qqy {K:Fg} {e:Expr} {f:Str} {pos:Pos} {ta:TE} (hK:X.K=K) (he:PE X e ta) (hb:attributeBase e f X.env (eval e X.env)=eval e X.env):PE X (.Attribute e f pos) (tFld K ta f):=by subst hK;exact Yi he hb
end
section
theorem Qeb {ss:List Str}:∀ {us:List Value},Vals (ss.map V.str) us->StrsAre us ss:=by
 induction ss with
 | nil=>intro us r;rw [jJb] at r;cases r;exact .nil
 | cons n ns ih =>
  intro us r
  rw [yQ] at r
  cases r with
  | cons r1 r2 =>
   obtain ⟨t,e⟩:=r1
   subst e
   exact .cons n t (ih r2)
open PySem.W in
end
end L2
namespace L2
open PySem PySem.Spec PyProof.Rows PySem.SeqAt
section
variable {X:Cx} {pins:List (Addr × Obj)} {σ:St} {H:Hp} {s:Shared}
theorem Qns {v:V} (h:Ka v=true):eqV v v=true:=by
 cases v with
 | non=>rfl
 | bl b=>exact beq_self_eq_true b
 | int i=>exact beq_self_eq_true i
 | str x=>exact beq_self_eq_true x
 | _=>exact nomatch h
open PySem.W in
theorem Vs {K:Frag} (hK:X.K=K):Jg X (.builtin "sorted") (fun xs H Q=>∃ (l:Addr) (ss:List Str),xs=[.ref l]/\SqL K H l (ss.map V.str)/\ss.length < 64 /\
  ∀ (D:Addr) (qs:List Str),H D=none->qs.Perm ss->sortedS qs=true->Q (.ref D) (upd H D (.lst (qs.map V.str)))):=by
 subst hK
 intro pins s σ H xs us Q I rv h
 obtain ⟨l,ss,rfl,hq,h64,q⟩:=h
 obtain ⟨u,rfl,ru⟩:=rv.one
 cases ru
 obtain ⟨its,r,p,hz⟩:=I.list hq
 have lv:=r.length
 rw [jX] at lv
 have hS:StrsAre its ss:=Qeb r
 refine sorted_strs p.isList hS (by omega) fun out ns' h1 h2 h3=>?_
 obtain ⟨e,he⟩:=sortedAll_at s.heap its out
 have hv:=Vr h1
 have lo:ns'.length=ss.length:=h2.length_eq
 have hz64:(64:Nat) < sizeLine:=by decide
 have hlen:(ns'.map V.str).length<=sizeLine:=by rw [jX];omega
 exact ⟨.ref (s.heap.objs.size + 1),_,I.laid (t':=s.toks) (o:=.lst (ns'.map V.str)) (fun b ob z=>sortedAll_old z) (Nat.le_succ _) ⟨hlen,out.toList,e,hv,by simpa using he⟩,rfl,q _ ns' (I.hok.fresh (Nat.le_succ _)) h2 h3⟩
end
def Itk (d:Addr) (o:Obj) (kvs:List (Key × V)):It :=
  ⟨fun i H=>H d=some (.frz o (.dK kvs))/\i < kvs.length,
   fun i H v H'=>∃ k x,v=kV k/\H'=H/\kvs[i]?=some (k,x),
   fun i H=>H d=some (.frz o (.dK kvs))/\kvs.length<=i⟩
def kTn (it d:Addr) (o:Obj) (n i:Nat) (h:Heap):Prop:=∃ es ep,o.data=.dict es ep/\h.IsKeyIter it d i n ep
theorem Qle {P:Program} {w:World} {K:Fg} {tg:Expr} {it d:Addr} {o:Obj} {kvs:List (Key × V)} :
  Turn P w K tg (Itk d o kvs) [it] it (kTn it d o kvs.length) where
 mem:=by simp
 obj:=fun i h st c hc=>by
  obtain ⟨_,_,_,q,e,c1,d1⟩:=st
  have e5:c=it:=by simpa using hc
  subst e5
  exact ⟨q,e,fun v z=>by rw [d1] at z;cases z⟩
 keep:=fun i h h' st k=>by
  obtain ⟨e1,e2,e3,h1⟩:=st
  exact ⟨e1,e2,e3,h1.at fun o e=>k it (by simp) o e⟩
 item:=by
  intro X hP hw hK hc i pins s σ H E I hf st hg
  subst hP hw hK
  obtain ⟨q1,hi⟩:=hg
  obtain ⟨e1,ep,e3,h1⟩:=st
  obtain ⟨vs,rel,da⟩:=Qkw I.hok q1 e3
  have lr:=rel.length
  obtain ⟨⟨k,x⟩,ek⟩:∃ kx,kvs[i]?=some kx:=⟨_,gE hi⟩
  obtain ⟨⟨k',v⟩,ev,e4,rv⟩:=Qr rel ek
  have e4':k=k':=e4
  subst e4'
  rw [lr] at h1
  obtain ⟨f0,f1,f2,f3,f4,f5⟩:=hf it (by simp)
  refine wpAny_pyNext_dict_item h1 da ev fun key h' hk st' sb=>?_
  have I1:Inv X pins σ H { s with heap:=h' }:=I.turned (t':=s.toks) (fun b o hb e=>(sb.2 b hb).trans e) f0 f1 f3 f4 f5
  obtain ⟨q,e,c,d1⟩:=id st'
  exact ⟨key,rfl,Qix (s:={ s with heap:=h' }) e c d1 (by decide) ⟨kV k,H,I1,is_kV hk,⟨k,x,rfl,rfl,ek⟩,⟨e1,ep,e3,by rw [lr];exact st'⟩,fun b hb=>(hf b hb).1⟩⟩
 done:=by
  intro X hP hw hK hc i pins s σ H E I hf st hg
  subst hP hw hK
  obtain ⟨q1,hi⟩:=hg
  obtain ⟨e1,ep,e3,h1⟩:=st
  obtain ⟨vs,rel,da⟩:=Qkw I.hok q1 e3
  have lr:=rel.length
  rw [lr] at h1
  obtain ⟨f0,f1,f2,f3,f4,f5⟩:=hf it (by simp)
  exact wpAny_pyNext_dict_end (I.ok.hd hc) h1 da (jKd.mpr (by omega)) fun h' eb=>⟨rfl,I.turned (t':=s.toks) (fun b o hb z=>eb b o hb z) f0 f1 f3 f4 f5⟩
 self:=fun _ _ _ _ _ st h=>by
  obtain ⟨_,_,_,h1⟩:=st
  exact wpAny_pyIter_keyiter h1 h
section
def iKeys (F:Addr->Prop) (td:TE):TI:=fun σ H R=>td σ H fun v H1=>∃ d kvs,v=.ref d/\H1 d=some (.dK kvs)/\(F d->∀ o,R (Itk d o kvs) (upd H1 d (.frz o (.dK kvs))))
end
inductive SmD (K:Fg) (H:Hp):Nat->V->V->Prop
 | flat {n v}:Ka v=true->SmD K H n v v
 | tup {n a b xs ys}:SqT K H a xs->SqT K H b ys->xs.length=ys.length->(∀ (i:Nat) x y,xs[i]?=some x->ys[i]?=some y->SmD K H n x y)->SmD K H (n + 1) (.ref a) (.ref b)
 | lst {n a b xs ys}:SqL K H a xs->SqL K H b ys->xs.length=ys.length->(∀ (i:Nat) x y,xs[i]?=some x->ys[i]?=some y->SmD K H n x y)->SmD K H (n + 1) (.ref a) (.ref b)
section
variable {X:Cx} {pins:List (Addr × Obj)} {σ:St} {H:Hp} {s:Shared}
theorem Qlf {n:Nat} {x y:V} (h:SmD X.K H n x y):∀ {A:Around} {u v:Value},A.units + n < cLine->Inv X pins σ H s->RelV x u->RelV y v ->
  EqAt A s u v true/\(∀ a c,u=.ref a->v=.ref c->RcAt A s u v true/\RcNeAt A s u v false):=by
 induction h with
 | @flat n x hf =>
  intro A u v hu I ru rv
  have:=Qjk (A:=A) (s:=s) ru rv hf hf
  rw [Qns hf] at this
  refine ⟨this,fun a c e _=>?_⟩
  subst e
  cases x with
  | non=>cases ru
  | bl b=>cases ru
  | int i=>obtain ⟨_,h⟩:=ru;cases h
  | str z=>obtain ⟨_,h⟩:=ru;cases h
  | _=>exact nomatch hf
 | @tup m p q xs ys hq hq' hl hs ih =>
  intro A u v hu I ru rv
  cases ru
  cases rv
  obtain ⟨its,r,pt,_⟩:=I.tuple hq
  obtain ⟨its',r',pt',_⟩:=I.tuple hq'
  have l1:=r.length
  have l2:=r'.length
  have key:∀ j (h1:j < its.toArray.size) (h2:j < its'.toArray.size),EqAt A.in1 s its.toArray[j] its'.toArray[j] ((fun _=>true) j):=fun j h1 h2=>by
   rw [kY] at h1 h2
   have j1:j < xs.length:=by omega
   have j2:j < ys.length:=by omega
   obtain ⟨u1,e1,ru1⟩:=r.get (gE j1)
   obtain ⟨u2,e2,ru2⟩:=r'.get (gE j2)
   have eq:=(ih j _ _ (gE j1) (gE j2) (A:=A.in1) (by show A.units + 1 + m < cLine;omega) I ru1 ru2).1
   have z1:its.toArray[j]=u1:=by rw [gE (by omega)] at e1;simpa using e1
   have z2:its'.toArray[j]=u2:=by rw [gE (by omega)] at e2;simpa using e2
   rw [z1,z2]
   exact eq
  have hb:((List.range (min its.toArray.size its'.toArray.size)).all (fun _=>true) && its.toArray.size == its'.toArray.size)=true:=by
   rw [wV,Kp,kY,kY,beq_iff_eq]
   exact ⟨fun _ _=>rfl,by omega⟩
  have t1:=RcAt.tuples pt pt' (by omega) key
  have t2:=RcNeAt.tuples pt pt' (by omega) key
  rw [hb] at t1 t2
  refine ⟨?_,fun a c _ _=>⟨t1,t2⟩⟩
  by_cases hpq:p=q
  ·subst hpq
   exact EqAt.same _
  ·exact EqAt.of_refs hpq t1
 | @lst m p q xs ys hq hq' hl hs ih =>
  intro A u v hu I ru rv
  cases ru
  cases rv
  obtain ⟨its,r,pt,_⟩:=I.list hq
  obtain ⟨its',r',pt',_⟩:=I.list hq'
  have l1:=r.length
  have l2:=r'.length
  have key:∀ j (h1:j < its.toArray.size) (h2:j < its'.toArray.size),EqAt A.in1 s its.toArray[j] its'.toArray[j] ((fun _=>true) j):=fun j h1 h2=>by
   rw [kY] at h1 h2
   have j1:j < xs.length:=by omega
   have j2:j < ys.length:=by omega
   obtain ⟨u1,e1,ru1⟩:=r.get (gE j1)
   obtain ⟨u2,e2,ru2⟩:=r'.get (gE j2)
   have eq:=(ih j _ _ (gE j1) (gE j2) (A:=A.in1) (by show A.units + 1 + m < cLine;omega) I ru1 ru2).1
   have z1:its.toArray[j]=u1:=by rw [gE (by omega)] at e1;simpa using e1
   have z2:its'.toArray[j]=u2:=by rw [gE (by omega)] at e2;simpa using e2
   rw [z1,z2]
   exact eq
  have hsz:its.toArray.size=its'.toArray.size:=by rw [kY,kY];omega
  have hb:((List.range its.toArray.size).all (fun _=>true))=true:=by
   rw [Kp]
   exact fun _ _=>rfl
  have t1:=RcAt.lists pt.isList pt'.isList hsz (by omega) key
  have t2:=RcNeAt.lists pt.isList pt'.isList hsz (by omega) key
  rw [hb] at t1 t2
  refine ⟨?_,fun a c _ _=>⟨t1,t2⟩⟩
  by_cases hpq:p=q
  ·subst hpq
   exact EqAt.same _
  ·exact EqAt.of_refs hpq t1
theorem Qqz {n:Nat} (hu:X.A.units + n < cLine):OpR X (compareOp .Eq) (fun x y H Q=>∃ a b,x=.ref a/\y=.ref b/\SmD X.K H n x y/\Q (.bl true) H):=by
 intro pins s σ H x y v u Q I rx ry h
 obtain ⟨a,b,rfl,rfl,al,q⟩:=h
 cases rx
 cases ry
 exact ((Qlf al (A:=X.A) (u:=.ref a) (v:=.ref b) hu I rfl rfl).2 a b rfl rfl).1 _ _ _ _ ⟨.bl true,H,I,rfl,q⟩
theorem Qag {n:Nat} (hu:X.A.units + n < cLine):OpR X (compareOp .NotEq) (fun x y H Q=>∃ a b,x=.ref a/\y=.ref b/\SmD X.K H n x y/\Q (.bl false) H):=by
 intro pins s σ H x y v u Q I rx ry h
 obtain ⟨a,b,rfl,rfl,al,q⟩:=h
 cases rx
 cases ry
 exact ((Qlf al (A:=X.A) (u:=.ref a) (v:=.ref b) hu I rfl rfl).2 a b rfl rfl).2 _ _ _ _ ⟨.bl false,H,I,rfl,q⟩
theorem Qlg {K:Fg} {n:Nat} (hK:X.K=K) (hu:X.A.units + n < cLine):OpR X (compareOp .Eq) (fun x y H Q=>∃ (a b:Addr) (ks ls:List Key),x=.ref a/\y=.ref b/\SqT K H a (ks.map kV)/\SqT K H b (ls.map kV)/\∀ c:Bool,(c=true ↔ ks=ls)->Q (.bl c) H):=by
 subst hK
 intro pins s σ H x y v u Q I rx ry h
 obtain ⟨a,b,ks,ls,rfl,rfl,h1,h2,q⟩:=h
 cases rx
 cases ry
 obtain ⟨its,r,pt,_⟩:=I.tuple h1
 obtain ⟨its',r',pt',_⟩:=I.tuple h2
 have l1:=r.length
 have l2:=r'.length
 rw [jX] at l1 l2
 have key:=Qfd (A:=X.A.in1) (s:=s) r r'
 refine RcAt.tuples pt pt' (by omega) key _ _ _ _ ⟨.bl _,H,I,rfl,q _ ?_⟩
 rw [wV,Kp,kY,kY,beq_iff_eq]
 constructor
 ·rintro ⟨z1,z2⟩
  refine Qey (by omega) fun i x y ex ey=>?_
  have hi:=(kK.mp ex).1
  have:=jJ (z1 i (by omega))
  rw [ex,ey] at this
  exact Option.some.inj this
 ·intro z
  subst z
  exact ⟨fun i _=>kQ rfl,by omega⟩
end
section
variable {K:Fg} {H:Hp}
theorem SmD.pair {n:Nat} {a b:Addr} {x y x' y':V} (h:SqT K H a [x,y]) (h':SqT K H b [x',y']) (h1:SmD K H n x x') (h2:SmD K H n y y'):SmD K H (n + 1) (.ref a) (.ref b):=by
 refine .tup h h' rfl fun i v w e1 e2=>?_
 match i with
 | 0=>simp at e1 e2;subst e1 e2;exact h1
 | 1=>simp at e1 e2;subst e1 e2;exact h2
 | i + 2=>simp at e1
theorem SmD.flats {n:Nat} {a b:Addr} {xs:List V} (h:SqT K H a xs) (h':SqT K H b xs) (hf:∀ x ∈ xs,Ka x=true):SmD K H (n + 1) (.ref a) (.ref b) :=
 .tup h h' rfl fun i v w e1 e2=>by
  rw [e1] at e2
  cases e2
  exact .flat (hf _ (kX e1))
theorem SmD.flatL {n:Nat} {a b:Addr} {xs:List V} (h:SqL K H a xs) (h':SqL K H b xs) (hf:∀ x ∈ xs,Ka x=true):SmD K H (n + 1) (.ref a) (.ref b) :=
 .lst h h' rfl fun i v w e1 e2=>by
  rw [e1] at e2
  cases e2
  exact .flat (hf _ (kX e1))
end
section
variable {prog:Program} {w:World} {A:Around} {E:Value->Shared->Prop} {s:Shared} {d:Addr} {o:Obj} {es:Array DictEntry} {ep:Nat}
theorem Qec {Q:Value->Shared->Prop} (hd:(d == sysModules)=false) (ho:s.heap.get? d=some o) (hx:o.ExactDict) (hdat:o.data=.dict es ep)
  (hQ:Q (.ref s.heap.objs.size) { s with heap:=s.heap.push { cls:=.type "dict_keyiterator",data:=.fields #[.ref d,.int 0 0,.int es.size 0,.int ep 0] } }) :
  wpAny (model prog w) A (pyIter (.ref d)) Q E s:=by
 have hT:s.TypeIs (.ref d) "dict":=⟨o,ho,hx.1⟩
 refine wpAny_pyIter_slot hT F.slot_dict_iter (wpAny_call_entry F.slot_dict_iter hT F.entry_dict_iter ?_ (F.args_dict_iter_1 _))
 unfold Builtin.«dict.__iter__»
 refine jQ ?_
 unfold Builtin.Dict.dictSlotNone
 refine jQ (wpAny_notOrdered_dict hT ?_)
 show wpAny _ _ (pure (Value.ref d)) _ _ s
 refine jV ?_
 show wpAny _ _ (Builtin.Dict.showsAll d >>= _) _ _ s
 unfold Builtin.Dict.showsAll
 rw [if_neg (by rw [hd];exact yW)]
 refine jQ (jV ?_)
 refine jQ (wpAny_dictEntries ho hdat ?_)
 refine jQ (wpAny_dictEpoch ho hdat ?_)
 refine jQ (wpAny_newObj_type (jV ⟨_,rfl,"dict_keyiterator",_,⟨_,yK _ rfl,rfl⟩,F.slot_dict_keyiterator_next.lookup,?_⟩))
 simpa [rawInt] using hQ
theorem Vl {it:Addr} {i:Nat} {Q:Option Value->Shared->Prop} (hit:s.heap.IsKeyIter it d i es.size ep) (hod:s.heap.get? d=some o) (hdd:o.data=.dict es ep) (hlt':i < es.size)
  (hQ:∀ h',h'.IsKeyIter it d (i + 1) es.size ep->Heap.SameBut it s.heap h'->Q (some es[i].key) { s with heap:=h' }) :
  wpAny (model prog w) A (pyNext (.ref it)) Q E s:=by
 obtain ⟨oi,ho,hc,hd⟩:=id hit
 unfold pyNext
 refine jQ (wpAny_attempt (wpAny_callSpecial?_slot (name:=Str.ofString "__next__") hit.typeIs F.slot_dict_keyiterator_next
  (wpAny_call_entry F.slot_dict_keyiterator_next hit.typeIs F.entry_dict_keyiterator_next ?_ (F.args_dict_keyiterator_next_1 _))))
 refine jQ (jV ?_)
 refine jQ ?_
 refine jQ ?_
 first | refine jQ (wpAny_typeNameOfWhole_keyiter hit.typeIs (jV ?_)) | refine jQ (wpAny_typeNameOf_keyiter hit.typeIs (jV ?_))
 refine jQ (wpAny_fieldsOf ho hd ?_)
 have hown:Builtin.Dict_items.ownsTuple "dict_keyiterator"=false:=by decide
 simp only [hown,kQb,if_false]
 show wpAny _ _ (if (Value.ref d == Value.none)=true then _ else _) _ _ s
 rw [if_neg (show ¬ ((Value.ref d == Value.none)=true) from yW)]
 refine jQ (jV ?_)
 refine jQ (wpAny_dictEntries hod hdd ?_)
 rw [if_neg (by simp)]
 refine jQ (jV ?_)
 refine jQ (wpAny_dictEpoch hod hdd ?_)
 rw [if_neg (by simp)]
 refine jV ?_
 simp only [show ¬ ((i:Int) < 0) from by omega,if_false,jXf,Array.getElem?_eq_getElem hlt']
 refine jQ ?_
 first | refine jQ (wpAny_typeNameOfWhole_keyiter hit.typeIs (jV ?_)) | refine jQ (wpAny_typeNameOf_keyiter hit.typeIs (jV ?_))
 refine jQ (wpAny_isOneOf_keyiter hit.typeIs ?_)
 show wpAny _ _ (setField (.ref it) 1 (rawInt ((i:Int) + 1)) >>= _) _ _ s
 refine jQ (wpAny_setField ho hd (by simp) ?_)
 have hit':(s.heap.update it (Obj.mapFields (·.setIfInBounds 1 (rawInt ((i:Int) + 1))))).IsKeyIter it d (i + 1) es.size ep :=
  ⟨_,Heap.get?_update_self _ ho (Obj.isFreed_of_fields (Obj.data_mapFields hd _)),(Obj.cls_mapFields ..).trans hc,by rw [Obj.data_mapFields hd];simp [rawInt]⟩
 refine jQ (wpAny_holding ?_)
 refine jQ (wpAny_isOneOf_keyiter (s:={ s with heap:=s.heap.update it (Obj.mapFields (·.setIfInBounds 1 (rawInt ((i:Int) + 1)))) }) hit'.typeIs ?_)
 show wpAny _ _ (pure es[i].key) _ _ _
 exact jV (jV ⟨_,rfl,jV (hQ _ hit' (Heap.SameBut.update ..))⟩)
theorem Vv {it:Addr} {i:Nat} {Q:Option Value->Shared->Prop} (hh:A.handled=none) (hit:s.heap.IsKeyIter it d i es.size ep) (hod:s.heap.get? d=some o) (hdd:o.data=.dict es ep) (hge:es.size<=i)
  (hQ:∀ h',Heap.ExtBut it s.heap h'->Q none { s with heap:=h' }):wpAny (model prog w) A (pyNext (.ref it)) Q E s:=by
 obtain ⟨oi,ho,hc,hd⟩:=id hit
 unfold pyNext
 refine jQ (wpAny_attempt (wpAny_callSpecial?_slot (name:=Str.ofString "__next__") hit.typeIs F.slot_dict_keyiterator_next
  (wpAny_call_entry F.slot_dict_keyiterator_next hit.typeIs F.entry_dict_keyiterator_next ?_ (F.args_dict_keyiterator_next_1 _))))
 refine jQ (jV ?_)
 refine jQ ?_
 refine jQ ?_
 first | refine jQ (wpAny_typeNameOfWhole_keyiter hit.typeIs (jV ?_)) | refine jQ (wpAny_typeNameOf_keyiter hit.typeIs (jV ?_))
 refine jQ (wpAny_fieldsOf ho hd ?_)
 have hown:Builtin.Dict_items.ownsTuple "dict_keyiterator"=false:=by decide
 simp only [hown,kQb,if_false]
 show wpAny _ _ (if (Value.ref d == Value.none)=true then _ else _) _ _ s
 rw [if_neg (show ¬ ((Value.ref d == Value.none)=true) from yW)]
 refine jQ (jV ?_)
 refine jQ (wpAny_dictEntries hod hdd ?_)
 rw [if_neg (by simp)]
 refine jQ (jV ?_)
 refine jQ (wpAny_dictEpoch hod hdd ?_)
 rw [if_neg (by simp)]
 refine jV ?_
 simp only [show ¬ ((i:Int) < 0) from by omega,if_false,jXf,Array.getElem?_eq_none hge]
 refine jQ ?_
 first | refine jQ (wpAny_typeNameOfWhole_keyiter hit.typeIs (jV ?_)) | refine jQ (wpAny_typeNameOf_keyiter hit.typeIs (jV ?_))
 show wpAny _ _ (setField (.ref it) 0 .none >>= _) _ _ s
 refine jQ (wpAny_setField ho hd (by simp) ?_)
 show wpAny _ _ (newExc (.type "StopIteration") [] >>= _) _ _ _
 refine jQ ?_
 simp only [newExc,newTuple]
 refine jQ (wpAny_newObj_type ?_ (by size_fits))
 refine jQ (m:=firstArgMember _ _) (wpAny_of_eq (a:=Value.none) (by first | rfl | (simp only [firstArgMember];rfl)) ?_)
 refine wpAny_newObj_type ?_ (by size_fits)
 simp only [raiseNew]
 refine jQ (wpAny_handled ?_)
 rw [show A.in1.handled=none from hh]
 refine jQ (jV (wpAny_throw ?_))
 refine jQ (wpAny_isInstance (T:="StopIteration") (b:=true) ⟨_,yK _ rfl,rfl⟩ isSubtype_stop ?_)
 exact jV (hQ _ (((Heap.SameBut.update ..).extBut.push _).push _))
end
section
variable {X:Cx} {pins:List (Addr × Obj)} {σ:St} {H:Hp} {s:Shared} {d:Addr} {o:Obj} {kvs:List (List Key × V)}
theorem Inv.nfT (I:Inv X pins σ H s) (e:H d=some (.dT kvs)):NF X d:=fun o u z=>by
 have:=I.base.frzs d o u z
 rw [e] at this
 cases this
theorem Inv.freezeT (I:Inv X pins σ H s) (e:H d=some (.dT kvs)):∃ o,s.heap.get? d=some o/\Inv X pins σ (upd H d (.frz o (.dT kvs))) s:=by
 obtain ⟨z,y,xs,r,o,es,ep,h1,h2,h3,h4,h5⟩:=(show ObjOk X.prog X.w H s.heap d (.dT kvs) from I.hok d _ e)
 refine ⟨o,h1,Ki (t':=s.toks) I (by rw [e];exact True.intro) (Heap.SameBut.refl _ _) ⟨o,h1⟩ ⟨h1,z,y,xs,Paired.mapP r fun p q z=>⟨z.1,?_,z.2.2⟩,o,es,ep,h1,h2,h3,h4,h5⟩⟩
 rw [Qi (Yp z.2.1 e (by intro z;cases z))]
 exact z.2.1
theorem Inv.thawT (I:Inv X pins σ H s) (nf:NF X d) (e:H d=some (.frz o (.dT kvs))):Inv X pins σ (upd H d (.dT kvs)) s:=by
 have ne:∀ b,H b=none->b ≠ d:=fun b n z=>by rw [z,e] at n;cases n
 have ok:ObjOk X.prog X.w H s.heap d (.frz o (.dT kvs)):=I.hok d _ e
 obtain ⟨_,z,y,xs,r,oo,es,ep,h1,h2,h3,h4,h5⟩:=ok
 refine ⟨I.ok,I.os,I.bare,⟨I.base.keep,I.base.slot,fun b q e1 n hx=>?_,I.base.there,fun b xs q=>?_,fun b o' u q=>?_,fun b ps q=>?_⟩,I.loc,I.cell,?_,fun x c q=>?_,fun p hp=>?_,fun b u q=>?_,I.len⟩
 ·have n1:=I.base.free b q e1 n hx
  rw [Qi (ne b n1)];exact n1
 ·have q1:=I.base.tups b xs q
  rw [Qi (Yp q1 e (by intro z;cases z))];exact q1
 ·have q1:=I.base.frzs b o' u q
  rw [Qi (fun z=>by subst z;exact nf _ _ q)];exact q1
 ·obtain ⟨m,q1⟩:=I.base.tbls b ps q
  exact ⟨m,by rw [Qi (Yp q1 e (by intro z;cases z))];exact q1⟩
 ·rw [Qi (ne _ I.free)];exact I.free
 ·have n1:=I.freeC x c q
  rw [Qi (ne _ n1)];exact n1
 ·obtain ⟨a1,a2,a3⟩:=I.pin p hp
  exact ⟨a1,by rw [Qi (ne _ a2)];exact a2,a3⟩
 ·by_cases hb:b=d
  ·subst hb
   rw [upd_same] at q
   cases q
   exact ⟨z,y,xs,Paired.mapP r fun p q z=>⟨z.1,by rw [Qi (Yp z.2.1 e (by intro z;cases z))];exact z.2.1,z.2.2⟩,oo,es,ep,h1,h2,h3,h4,h5⟩
  ·rw [Qi hb] at q
   exact (I.hok b u q).stay (fun _ _ _ r=>r) (fun c r=>by rw [Qi (Yp r e (by intro z;cases z))];exact r) fun c xs r=>by rw [Qi (Yp r e (by intro z;cases z))];exact r
end
def ItKt (d:Addr) (o:Obj) (kvs:List (List Key × V)):It :=
  ⟨fun i H=>H d=some (.frz o (.dT kvs))/\i < kvs.length,
   fun i H v H'=>H'=H/\∃ t k x,v=.ref t/\H t=some (.tup (k.map kV))/\kvs[i]?=some (k,x),
   fun i H=>H d=some (.frz o (.dT kvs))/\kvs.length<=i⟩
theorem Qio {P:Program} {w:World} {K:Fg} {tg:Expr} {it d:Addr} {o:Obj} {kvs:List (List Key × V)} {es:Array DictEntry} {ep:Nat} (hdd:o.data=.dict es ep) :
  Turn P w K tg (ItKt d o kvs) [it] it (fun i h=>h.IsKeyIter it d i es.size ep) where
 mem:=by simp
 obj:=fun i h st c hc=>by
  obtain ⟨q,e,c1,d1⟩:=st
  have e5:c=it:=by simpa using hc
  subst e5
  exact ⟨q,e,fun v z=>by rw [d1] at z;cases z⟩
 keep:=fun i h h' st k=>st.at fun o e=>k it (by simp) o e
 item:=by
  intro X hP hw hK hc i pins s σ H E I hf st hg
  subst hP hw hK
  obtain ⟨q1,hi⟩:=hg
  obtain ⟨ho,z,y,xs,r,oo,es',ep',h1,h2,h3,h4,h5⟩:=(show ObjOk X.prog X.w H s.heap d (.frz o (.dT kvs)) from I.hok d _ q1)
  rw [ho] at h1
  cases h1
  rw [hdd] at h3
  cases h3
  have lr:=Paired.length r
  have hsz:es.size=xs.length:=by rw [← jZb,h4,jX]
  obtain ⟨f0,f1,f2,f3,f4,f5⟩:=hf it (by simp)
  refine Vl st ho hdd (by omega) fun h' st' sb=>?_
  have I1:Inv X pins σ H { s with heap:=h' }:=I.turned (t':=s.toks) (fun b o hb e=>(sb.2 b hb).trans e) f0 f1 f3 f4 f5
  obtain ⟨q,e,c,d1⟩:=id st'
  have hk:es[i].key=.ref (xs[i]).2.1:=by
   have h6:es.toList[i]?=(xs.map (entryOfKey (tupleKind (Xl X.prog X.w))))[i]?:=by rw [h4]
   rw [yY,gE (show i < xs.length by omega),Array.getElem?_toList,Array.getElem?_eq_getElem (show i < es.size by omega)] at h6
   rw [Option.some.inj h6];rfl
  obtain ⟨⟨k,x⟩,ek⟩:∃ kx,kvs[i]?=some kx:=⟨_,gE hi⟩
  obtain ⟨q2,eq2,e4,e5,_⟩:=Qr r ek
  have e6:q2=xs[i]:=Option.some.inj (eq2.symm.trans (gE (by omega)))
  subst e6
  exact ⟨_,rfl,Qix (s:={ s with heap:=h' }) e c d1 (by decide) ⟨.ref (xs[i]).2.1,H,I1,hk,⟨rfl,_,k,x,rfl,e5,ek⟩,st',fun b hb=>(hf b hb).1⟩⟩
 done:=by
  intro X hP hw hK hc i pins s σ H E I hf st hg
  subst hP hw hK
  obtain ⟨q1,hi⟩:=hg
  obtain ⟨ho,z,y,xs,r,oo,es',ep',h1,h2,h3,h4,h5⟩:=(show ObjOk X.prog X.w H s.heap d (.frz o (.dT kvs)) from I.hok d _ q1)
  rw [ho] at h1
  cases h1
  rw [hdd] at h3
  cases h3
  have lr:=Paired.length r
  have hsz:es.size=xs.length:=by rw [← jZb,h4,jX]
  obtain ⟨f0,f1,f2,f3,f4,f5⟩:=hf it (by simp)
  exact Vv (I.ok.hd hc) st ho hdd (by omega) fun h' eb=>⟨rfl,I.turned (t':=s.toks) (fun b o hb z=>eb b o hb z) f0 f1 f3 f4 f5⟩
 self:=fun _ _ _ _ _ st h=>wpAny_pyIter_keyiter st h
section
variable {X:Cx}
def iKeysT (F:Addr->Prop) (td:TE):TI:=fun σ H R=>td σ H fun v H1=>∃ d kvs,v=.ref d/\H1 d=some (.dT kvs)/\(F d->∀ o,R (ItKt d o kvs) (upd H1 d (.frz o (.dT kvs))))
theorem Qnt {tg a:Expr} {td:TE} (ha:PE X a td):PI X tg a (iKeysT (NF X) td):=by
 intro pins s σ H R I h
 refine thn (ha pins s σ H _ I h) fun v s1 hqP=>?_
 obtain ⟨x,H1,I1,r1,q1⟩:=hqP
 obtain ⟨d,kvs,e,g,q⟩:=q1
 subst e
 obtain rfl:v=Value.ref d:=r1
 have nf:=I1.nfT g
 obtain ⟨o,ho,I2⟩:=I1.freezeT g
 obtain ⟨z,y,xs,r,oo,es,ep,h1,h2,h3,h4,h5⟩:=(show ObjOk X.prog X.w H1 s1.heap d (.dT kvs) from I1.hok d _ g)
 rw [ho] at h1
 cases h1
 refine Qec y ho h2 h3 ?_
 have I3:Inv X pins σ (upd H1 d (.frz o (.dT kvs))) { s1 with heap:=s1.heap.push { cls:=.type "dict_keyiterator",data:=.fields #[.ref d,.int 0 0,.int es.size 0,.int ep 0] } }:=I2.kept (t':=s1.toks) fun b o z=>jW _ z
 refine ⟨s1.heap.objs.size,[s1.heap.objs.size],_,ItKt d o kvs,_,rfl,I3,Qio h3,⟨_,yK _ rfl,rfl,rfl⟩,fun c hc=>?_,q nf o⟩
 simp only [yX,wZ,or_false] at hc
 subst hc
 exact I2.fpOk (jK _) (I2.hok.fresh (jK _))
def tThwE (F:Addr->Prop) (t:TE):TE:=fun σ H Q=>t σ H fun v H'=>∃ d o kvs,F d/\H' d=some (.frz o (.dT kvs))/\Q v (upd H' d (.dT kvs))
theorem Qnu {e:Expr} {t:TE} (h:PE X e t):PE X e (tThwE (NF X) t):=by
 intro pins s σ H Q I q
 refine thn (h pins s σ H _ I q) fun v s' hqP=>?_
 obtain ⟨x,H',I',rv,d,o,kvs,nf,e,r⟩:=hqP
 exact ⟨x,_,I'.thawT nf e,rv,r⟩
end
end L2
namespace Nb
open PySem L2
abbrev Ch:=Str × Str × Int
abbrev Lb:=List Key × List Int × Int
def ChV (K:Fg) (H:Hp) (v:V) (c:Ch):Prop:=∃ t,v=.ref t/\SqT K H t [.str c.1,.str c.2.1,.int c.2.2]
abbrev ChsAre (K:Fg) (H:Hp):List V->List Ch->Prop:=Paired (ChV K H)
theorem ChV.same {K:Fg} {H H':Hp} (s:Same H H') {v:V} {c:Ch} (h:ChV K H v c):ChV K H' v c:=by obtain ⟨t,e,z⟩:=h;exact ⟨t,e,s.tup z⟩
theorem ChV.updL {K:Fg} {H:Hp} {g:Addr} {ys zs:List V} (hg:H g=some (.lst ys)) {v:V} {c:Ch} (h:ChV K H v c):ChV K (upd H g (.lst zs)) v c:=by obtain ⟨t,e,z⟩:=h;exact ⟨t,e,Xc hg z⟩
theorem ChsAre.same {K:Fg} {H H':Hp} (s:Same H H') {vs:List V} {A:List Ch} (h:ChsAre K H vs A):ChsAre K H' vs A:=Paired.mapP h fun _ _ z=>z.same s
theorem ChsAre.updL {K:Fg} {H:Hp} {g:Addr} {ys zs:List V} (hg:H g=some (.lst ys)) {vs:List V} {A:List Ch} (h:ChsAre K H vs A):ChsAre K (upd H g (.lst zs)) vs A:=Paired.mapP h fun _ _ z=>z.updL hg
def LbV (K:Fg) (H:Hp) (v:V) (l:Lb):Prop:=∃ t a b,v=.ref t/\SqT K H t [.ref a,.ref b]/\SqT K H a (l.1.map kV)/\RowAt K H b l.2
abbrev LbsAre (K:Fg) (H:Hp):List V->List Lb->Prop:=Paired (LbV K H)
theorem LbV.same {K:Fg} {H H':Hp} (s:Same H H') {v:V} {l:Lb} (h:LbV K H v l):LbV K H' v l:=by obtain ⟨t,a,b,e,z1,z2,z3⟩:=h;exact ⟨t,a,b,e,s.tup z1,s.tup z2,z3.same s⟩
theorem LbV.updL {K:Fg} {H:Hp} {g:Addr} {ys zs:List V} (hg:H g=some (.lst ys)) {v:V} {l:Lb} (h:LbV K H v l):LbV K (upd H g (.lst zs)) v l:=by obtain ⟨t,a,b,e,z1,z2,p,z3,z4⟩:=h;exact ⟨t,a,b,e,Xc hg z1,Xc hg z2,p,Xc hg z3,Xc hg z4⟩
theorem LbsAre.same {K:Fg} {H H':Hp} (s:Same H H') {vs:List V} {A:List Lb} (h:LbsAre K H vs A):LbsAre K H' vs A:=Paired.mapP h fun _ _ z=>z.same s
theorem LbsAre.updL {K:Fg} {H:Hp} {g:Addr} {ys zs:List V} (hg:H g=some (.lst ys)) {vs:List V} {A:List Lb} (h:LbsAre K H vs A):LbsAre K (upd H g (.lst zs)) vs A:=Paired.mapP h fun _ _ z=>z.updL hg
structure ChsAt (K:Fg) (H:Hp) (a:Addr) (A:List Ch):Prop where
 ex:∃ vs,SqL K H a vs/\ChsAre K H vs A
 few:A.length<=2000000
theorem ChsAt.same {K:Fg} {H H':Hp} (s:Same H H') {a:Addr} {A:List Ch} (h:ChsAt K H a A):ChsAt K H' a A:=⟨let ⟨vs,z1,z2⟩:=h.ex;⟨vs,s.seq z1,z2.same s⟩,h.few⟩
structure LbI (K:Fg) (H0 H:Hp) (g:Addr) (L:List Lb):Prop where
 fr:H0 g=none
 sm:Same H0 H
 ex:∃ ys,H g=some (.lst ys)/\LbsAre K H ys L
theorem LbI.same {K:Fg} {H0 H H':Hp} (s:Same H H') {g:Addr} {L:List Lb} (h:LbI K H0 H g L):LbI K H0 H' g L:=⟨h.fr,h.sm.trans s,let ⟨ys,z1,z2⟩:=h.ex;⟨ys,s _ _ z1,z2.same s⟩⟩
theorem LbI.start {K:Fg} {H0:Hp} {g:Addr} (h:H0 g=none):LbI K H0 (upd H0 g (.lst [])) g []:=⟨h,Qc h _,[],upd_same,.nil⟩
theorem Qaz {K:Fg} {H0 H H2:Hp} {g a b t p:Addr} {L:List Lb} {lab:List Key} {lv:List V} {xs:List Int} {z:Int} (h:LbI K H0 H g L) (ha:H a=none) (s:Same (upd H a (.tup lv)) H2) (hb:H2 b=none) (hp:SqT K H2 p (xs.map V.int)) (ht:upd H2 b (.tup [.ref p,.int z]) t=none) (hl:L.length < 1000000) (hv:lv=lab.map kV) :
  ∃ ys,upd (upd H2 b (.tup [.ref p,.int z])) t (.tup [.ref a,.ref b]) g=some (.lst ys)/\ys.length < sizeLine/\LbI K H0 (upd (upd (upd H2 b (.tup [.ref p,.int z])) t (.tup [.ref a,.ref b])) g (.lst (ys ++ [.ref t]))) g (L ++ [(lab,xs,z)]):=by
 subst hv
 obtain ⟨ys,hg,hL⟩:=h.ex
 have s1:=Qc ha (.tup (lab.map kV))
 have s2:=Qc hb (.tup [.ref p,.int z])
 have s3:=Qc ht (.tup [.ref a,.ref b])
 have sA:=((s1.trans s).trans s2).trans s3
 have hg3:=sA _ _ hg
 refine ⟨ys,hg3,xK (by rw [Paired.length hL];exact hl) (by decide +kernel),h.fr,Xv (h.sm.trans sA) h.fr,_,upd_same,?_⟩
 refine Paired.snoc ((hL.same sA).updL hg3) ⟨t,a,b,rfl,Xc hg3 (Qu upd_same),Xc hg3 ((s2.trans s3).tup (s.tup (Qu upd_same))),p,Xc hg3 (s3.tup (Qu upd_same)),Xc hg3 ((s2.trans s3).tup hp)⟩
theorem Qgv {K:Fg} {H:Hp} {vs:List V} {A:List Ch} (h:ChsAre K H vs A) {i:Nat} {v:V} (e:vs[i]?=some v):∃ c,A[i]?=some c/\c ∈ A/\ChV K H v c:=by
 obtain ⟨c,ec,z⟩:=Qr h e
 exact ⟨c,ec,kX ec,z⟩
theorem Qah {K:Fg} {H:Hp} {a D:Addr} {A:List Ch} {f:Ch->Int} {cs τ0:St} {te:TE} {Q:Addr->Hp->Prop} (hτ:τ0=none :: cs) (hA:ChsAt K H a A) (hD:H D=none)
  (hs:∀ (c:Ch) (t:Addr) (H1:Hp),c ∈ A->Same H H1->SqT K H1 t [.str c.1,.str c.2.1,.int c.2.2]->∀ P:V->Hp->Prop,(∀ H2,Same H1 H2->P (.int (f c)) H2)->te (some (.ref t) :: cs) H1 P)
  (hd:∀ H1,Same H H1->H1 D=some (.lst ((A.map f).map V.int))->Q D H1) :
  LcW (Itl K a) D τ0 H (Vu 0) tYes te Q:=by
 subst hτ
 obtain ⟨vs,h1,h2⟩:=hA.ex
 have lA:=Paired.length h2
 have hz:(2000000:Nat) < sizeLine:=by decide
 have fw:=hA.few
 let Pv18:Nat->St->List V->Hp->Prop:=fun i τ ys H1=>∃ v:Option V,τ=v :: cs/\ys=((A.take i).map f).map V.int/\H1 D=some (.lst ys)/\Same H H1
 refine Ym (n:=A.length) Pv18 ?_ (fun i τ ys H1 hi h=>?_) (fun i τ ys H1 hi h=>?_) (fun τ ys H1 h=>?_) ?_ ?_
 ·exact ⟨none,rfl,rfl,upd_same,Qc hD _⟩
 ·obtain ⟨v,rfl,rfl,hD1,s1⟩:=h
  exact ⟨hD1,by rw [jX,jX,zK];omega⟩
 ·obtain ⟨v,rfl,rfl,hD1,s1⟩:=h
  exact ⟨vs,_,s1.seq h1,gE (by omega)⟩
 ·obtain ⟨v,rfl,rfl,hD1,s1⟩:=h
  exact ⟨vs,s1.seq h1,by omega⟩
 ·rintro i τ ys H1 x H2 hi ⟨v,rfl,rfl,hD1,s1⟩ ⟨rfl,e1⟩
  obtain ⟨c,ec,hc,t,rfl,ht⟩:=Qgv h2 (e1 _ (s1.seq h1))
  refine hs c t _ hc s1 (s1.tup ht) _ fun H3 s3=>⟨s3 _ _ hD1,_,rfl,?_,upd_same,Xv (s1.trans s3) hD⟩
  rw [Ze ec,kJ,kJ];rfl
 ·rintro τ ys H1 ⟨v,rfl,rfl,hD1,s1⟩
  rw [kW] at hD1
  exact hd H1 s1 hD1
def wayR (w:Str):BR->Option (Str × Int × Int)
 | .way w' v l c=>if w'=w then some (v,l,c) else none
 | _=>none
theorem wayR_some {w:Str} {r:BR} {x:Str × Int × Int}:wayR w r=some x ↔ r=.way w x.1 x.2.1 x.2.2:=by
 cases r with
 | way w' v l c =>
  show (if w'=w then some (v,l,c) else none)=some x ↔ _
  by_cases h:w'=w
  ·rw [if_pos h,h]
   constructor
   ·intro e;cases e;rfl
   ·intro e;injection e with _ e2 e3 e4;subst e2 e3 e4;rfl
  ·rw [if_neg h]
   exact ⟨fun e=>(nomatch e),fun e=>absurd (by injection e) h⟩
 | _=>exact ⟨fun e=>(nomatch e),fun e=>(nomatch e)⟩
def chW (n:Int) (w:Str) (p:Str × Int × Int):List Ch:=(List.range (n - p.2.1 + 1).toNat).map fun b:Nat=>(w,p.1,(b:Int))
def chO (n:Int) (B:List BR) (w:Str):List Ch:=(B.filterMap (wayR w)).flatMap (chW n w)
def chs (n:Int) (B:List BR):List Ch:=(wks B).flatMap (chO n B)
theorem Xr {α β:Type} {l:List α} {f:α->List β} {m:Nat} (h:∀ x ∈ l,(f x).length<=m):(l.flatMap f).length<=l.length * m:=by
 induction l with
 | nil=>simp
 | cons a l ih =>
  rw [wW,jY,xW,Nat.add_mul,Nat.one_mul]
  have h1:=h a (kZ ..)
  have h2:=ih fun x hx=>h x (yZ _ hx)
  omega
theorem Yo {α β:Type} {l:List α} {i:Nat} {x:α} (f:α->List β) (h:l[i]?=some x):(l.take (i + 1)).flatMap f=(l.take i).flatMap f ++ f x:=by
 rw [Ze h,jKe];simp
theorem Jb {n:Int} {B:List BR} {w:Str} {c:Ch} (h:c ∈ chO n B w):c.1=w/\∃ l k,BR.way w c.2.1 l k ∈ B/\0<=c.2.2/\c.2.2 + l<=n:=by
 obtain ⟨x,hx,hc⟩:=zW.mp h
 obtain ⟨r,hr,e⟩:=yJ.mp hx
 rw [wayR_some] at e
 subst e
 obtain ⟨b,hb,rfl⟩:=xQ.mp hc
 have:=jYb.mp hb
 exact ⟨rfl,x.2.1,x.2.2,hr,by show (0:Int)<=(b:Int);omega,by show (b:Int) + x.2.1<=n;omega⟩
theorem Qai {n:Int} {B:List BR} {c:Ch} (h:c ∈ chs n B):∃ l k,BR.way c.1 c.2.1 l k ∈ B/\0<=c.2.2/\c.2.2 + l<=n:=by
 obtain ⟨w,hw,hc⟩:=zW.mp h
 obtain ⟨e,z⟩:=Jb hc
 rw [e]
 exact z
theorem Qck {n:Int} {B:List BR} (bk:BookOk n B) {w:Str}:∀ x ∈ B.filterMap (wayR w),(chW n w x).length<=12:=fun x hx=>by
 obtain ⟨r,hr,e⟩:=yJ.mp hx
 rw [wayR_some] at e
 subst e
 have h1:1<=x.2.1/\_:=bk.wb.ok _ hr
 have:=bk.n12
 unfold chW
 rw [jX,jYf]
 omega
theorem Qfn {n:Int} {B:List BR} (bk:BookOk n B) (w:Str):(chO n B w).length<=4800:=by
 have h1:=Xr (Qck bk (w:=w))
 have h2:=yV (wayR w) B
 have h3:=bk.wb.len
 unfold chO
 omega
theorem Qaj {n:Int} {B:List BR} (bk:BookOk n B):(chs n B).length<=2000000:=by
 have h1:=Xr (l:=wks B) (f:=chO n B) (m:=4800) fun w _=>Qfn bk w
 have h2:(wks B).length<=B.length:=yV Xz B
 have h3:=bk.wb.len
 unfold chs
 omega
def labW (A:List Ch) (w:Str):List Lb:=[([Sum.inr ("work":Str),Sum.inr w,Sum.inl 1],A.map fun c=>if c.1=w then 1 else 0,1),([Sum.inr ("work":Str),Sum.inr w,Sum.inl (-1)],A.map fun c=>-(if c.1=w then 1 else 0),-1)]
def Qra (B:List BR) (A:List Ch) (p:Str × Int) (day:Int):Lb:=([Sum.inr ("room":Str),Sum.inr p.1,Sum.inl day],A.map fun c=>-(useR B p.1 day c),-(Kw B p.1 p.2 day))
def labR (n:Int) (B:List BR) (A:List Ch) (p:Str × Int):List Lb:=(List.range n.toNat).map fun d:Nat=>Qra B A p (d:Int)
def Qfo (B:List BR) (A:List Ch) (p:Str × Int × Int) (day:Int):List Lb:=[([Sum.inr ("least":Str),Sum.inr p.1,Sum.inl day],A.map (Yz B p.1 day),-p.2.2),([Sum.inr ("most":Str),Sum.inr p.1,Sum.inl day],A.map fun c=>-(Yz B p.1 day c),p.2.2 - p.2.1)]
def labS (n:Int) (B:List BR) (A:List Ch) (p:Str × Int × Int):List Lb:=(List.range (n + 1).toNat).flatMap fun d:Nat=>Qfo B A p (d:Int)
def Qrb (B:List BR) (A:List Ch) (p:Str × Str × Int) (day:Int):Lb:=([Sum.inr ("after":Str),Sum.inr p.1,Sum.inr p.2.1,Sum.inl day],A.map fun c=>afN c.1 c.2.2 (lenB B c.1 c.2.1) p.1 p.2.1 p.2.2 day,0)
def labA (n:Int) (B:List BR) (A:List Ch) (p:Str × Str × Int):List Lb:=(List.range (n + 1).toNat).map fun d:Nat=>Qrb B A p (d:Int)
def benR:BR->Option (Str × Int)
 | .bench b r=>some (b,r)
 | _=>none
def stoR:BR->Option (Str × Int × Int)
 | .store s m f=>some (s,m,f)
 | _=>none
def aftR:BR->Option (Str × Str × Int)
 | .after x y g=>some (x,y,g)
 | _=>none
def labs (n:Int) (B:List BR):List Lb:=(wks B).flatMap (labW (chs n B)) ++ (B.filterMap benR).flatMap (labR n B (chs n B)) ++ (B.filterMap stoR).flatMap (labS n B (chs n B)) ++ (B.filterMap aftR).flatMap (labA n B (chs n B))
theorem Qgw {A:List Ch} (ws:List Str):(ws.flatMap (labW A)).length<=ws.length * 2:=Xr fun w _=>jK 2
theorem Qgx {n:Int} (h:n<=12) {B:List BR} {A:List Ch} (ps:List (Str × Int)):(ps.flatMap (labR n B A)).length<=ps.length * 12:=Xr fun p _=>by
 unfold labR;rw [jX,jYf];omega
theorem Qgy {n:Int} (h:n<=12) {B:List BR} {A:List Ch} (ps:List (Str × Int × Int)):(ps.flatMap (labS n B A)).length<=ps.length * 26:=Xr fun p _=>by
 unfold labS
 have:=Xr (l:=List.range (n + 1).toNat) (f:=fun d=>Qfo B A p ((d:Nat):Int)) (m:=2) fun d _=>jK 2
 rw [jYf] at this
 omega
theorem Qgz {n:Int} (h:n<=12) {B:List BR} {A:List Ch} (ps:List (Str × Str × Int)):(ps.flatMap (labA n B A)).length<=ps.length * 13:=Xr fun p _=>by
 unfold labA;rw [jX,jYf];omega
end Nb
namespace L2
open PySem PySem.Spec PyProof.Rows PySem.SeqAt
theorem Qed {M:Model} {A:Around} {E:Value->Shared->Prop} {s:Shared} {a b:Value} {Q:Value->Shared->Prop} (ha:s.TypeIs a "list") (hb:s.TypeIs b "list") (hc:wpAny M A (call (.builtin "list.__iadd__") [a,b]) Q E s):wpAny M A (inplaceOp .Add a b) Q E s:=by
 unfold inplaceOp
 refine wpAny_holding ?_
 have h0:typeLookup (.type "list") (dunderI "add")=pure (some (.builtin "list.__iadd__")):=F.slot_list_iadd.lookup
 have hs:isSeqSlot (some (.builtin "list.__iadd__"))=true:=by decide +kernel
 have hfi:fillsInplaceSlot (.type "list") "add" (Operator.Add == .Add)=pure false:=by
  unfold fillsInplaceSlot
  show (typeLookup (.type "list") (dunderI "add") >>= fun fi=>pure (fi.isSome && !isSeqSlot fi))=pure false
  rw [h0,pure_bind,hs];rfl
 refine jQ (wpAny_typeOf ha (jQ (wpAny_of_eq hfi ?_)))
 show wpAny M A (if false=true then _ else _) Q E s
 rw [if_neg yW]
 refine jQ (wpAny_binaryOp1_none (nm:="add") ha hb (PySem.fillsNumberSlot_seq (id:="list.__add__") (r:=none) F.slot_list_add.lookup (by decide +kernel) (by rw [typeLookup_type,builtinLookup_eq_fast];kernel_rfl) rfl) ?_)
 refine jQ (wpAny_of_eq (PySem.seqSlot_of h0 hs) ?_)
 exact jQ (wpAny_rule hc)
section
variable {X:Cx}
def ipL:TIp:=fun x y H Q=>∃ l b xs zs,x=.ref l/\y=.ref b/\H l=some (.lst xs)/\H b=some (.lst zs)/\xs.length + zs.length<=sizeLine/\Q (.ref l) (upd H l (.lst (xs ++ zs)))
theorem Qrc:PIp X .Add ipL:=by
 intro pins s σ H x y v u Q I rx ry h
 obtain ⟨l,b,xs,zs,rfl,rfl,hH,hB,hz,q⟩:=h
 cases rx
 cases ry
 obtain ⟨z,its,n,r,hl,e⟩:=I.lstM hH
 obtain ⟨z2,its2,n2,r2,hl2,e2⟩:=I.lstM hB
 have hsz:its.toArray.size + its2.toArray.size<=sizeLine:=by rw [kY,kY];omega
 have hlong:¬ (!its.toArray.isEmpty && Builtin.List.listTooLong (its.toArray.size + its2.toArray.size))=true:=by
  rw [Qmj hsz,Bool.and_false]
  exact yW
 refine Qed ⟨_,e,rfl⟩ ⟨_,e2,rfl⟩ (call_meets F.slot_list_iadd ⟨_,e,rfl⟩ F.entry_list_iadd (F.args_list_iadd_2 _ _)
  (AutoSeq1.list___iadd___list_list_0 l its.toArray n b its2.toArray n2 hlong (by rw [kY];omega) (by omega)) ⟨e,e2,?_⟩)
 refine ⟨.ref l,_,I.lset (its':=its ++ its2) hH e (by simp) (r.append r2) ?_,rfl,q⟩
 rw [jY]
 omega
end
end L2
namespace Nb
open PySem L2
abbrev Qba:Stmt:=inClass (top 7) 3
def wyK (w:Str):List Key->Option Str
 | [.inr a,.inr b,.inr v]=>if a="way"/\b=w then some v else none
 | _=>none
theorem Qrd {w:Str} {k:List Key} (h:wayK k=false):wyK w k=none:=by
 have h':¬ (k.head?=some (Sum.inr ("way":Str))):=of_decide_eq_false h
 unfold wyK
 split
 ·rename_i a b v
  rw [if_neg]
  rintro ⟨rfl,_⟩
  exact h' rfl
 ·rfl
theorem Qre {w:Str} (r:BR):wyK w r.key=(wayR w r).map (·.1):=by
 cases r with
 | way w' v l c =>
  show (if ("way":Str)="way"/\w'=w then some v else none)=Option.map _ (if w'=w then some (v,l,c) else none)
  by_cases h:w'=w
  ·rw [if_pos ⟨rfl,h⟩,if_pos h];rfl
  ·rw [if_neg (fun z=>h z.2),if_neg h];rfl
 | use k w' v t m=>rfl
 | after x y g =>
  show (if ("after":Str)="way"/\x=w then some y else none)=none
  rw [if_neg (fun z=>absurd z.1 (by decide +kernel))]
 | _=>rfl
theorem Qcl {w:Str}:∀ l:List (List Key),l.filterMap (wyK w)=(l.filter wayK).filterMap (wyK w)
 | []=>rfl
 | k :: l=>by
  rw [jXd]
  by_cases h:wayK k=true
  ·rw [if_pos h,jQa,jQa,Qcl l]
  ·rw [if_neg h,jQa,Qrd (by simpa using h),Qcl l]
theorem Qrf {kvs:List (List Key × V)} {B:List BR} (h:(kvs.map (·.1)).filter wayK=(B.map BR.key).filter wayK) (w:Str):kvs.filterMap (fun p=>wyK w p.1)=(B.filterMap (wayR w)).map (·.1):=by
 have e1:kvs.filterMap (fun p=>wyK w p.1)=(kvs.map (·.1)).filterMap (wyK w):=by rw [List.filterMap_map];rfl
 rw [e1,Qcl,h,← Qcl,List.filterMap_map,List.map_filterMap]
 congr 1
 funext r
 exact Qre r
theorem Qrg {kvs:List (List Key × V)} {B:List BR} (h:(kvs.map (·.1)).filter wayK=(B.map BR.key).filter wayK) {k:List Key} {x:V} (hk:(k,x) ∈ kvs) {w:Str} (e:cutV (k.map kV) none (some 2)=[V.str "way",V.str w]):∃ v,k=[Sum.inr ("way":Str),Sum.inr w,Sum.inr v]:=by
 have e2:(k.take 2).map kV=[V.str "way",V.str w]:=by
  rw [← e]
  unfold cutV
  rw [HT.sIx_none,List.drop_zero,Nat.sub_zero,show (2:Int)=((2:Nat):Int) from rfl,HT.sIx_nat,jX,← List.map_take]
  congr 1
  by_cases c:2<=k.length
  ·rw [kYa c]
  ·rw [Nat.min_eq_right (by omega),jXb (by omega),jXb (jK _)]
 have hw:wayK k=true:=by
  match k,e2 with
  | a :: k',e2 =>
   rw [List.take_succ_cons,yQ] at e2
   injection e2 with e3
   cases a with
   | inl i=>exact nomatch e3
   | inr a=>injection e3 with e3;subst e3;exact kQ rfl
  | [],e2=>exact nomatch e2
 have hm:k ∈ (B.map BR.key).filter wayK:=by
  rw [← h]
  exact jQb.mpr ⟨xQ.mpr ⟨_,hk,rfl⟩,hw⟩
 obtain ⟨r,hr,rfl⟩:=xQ.mp (jQb.mp hm).1
 have hww:r.word="way":=by
  have:=jJ hw
  exact Sum.inr.inj (Option.some.inj (show some (Sum.inr r.word:Key)=some (Sum.inr ("way":Str)) from this))
 obtain ⟨w',v,l,c,rfl⟩:=Qgk hww
 have e3:[V.str "way",V.str w']=[V.str "way",V.str w]:=e2
 injection e3 with _ e3
 injection e3 with e3
 injection e3 with e3
 subst e3
 exact ⟨v,rfl⟩
theorem Qpf {k:Key} {a:Str} (h:V.str a=kV k):k=Sum.inr a:=by
 cases k with
 | inl i=>exact nomatch h
 | inr x=>injection h with h;rw [h]
theorem two_keys {ks:List Key} {a b:Str} (h:[V.str a,V.str b]=ks.map kV):ks=[Sum.inr a,Sum.inr b]:=by
 cases ks with
 | nil=>exact nomatch h
 | cons x ks =>
  rw [yQ] at h
  injection h with h1 h
  cases ks with
  | nil=>exact nomatch h
  | cons y ks =>
   rw [yQ] at h
   injection h with h2 h
   cases ks with
   | nil=>rw [Qpf h1,Qpf h2]
   | cons z ks=>exact nomatch h
structure ChI (K:Fg) (H0 H:Hp) (g:Addr) (A:List Ch):Prop where
 fr:H0 g=none
 sm:Same H0 H
 ex:∃ ys,H g=some (.lst ys)/\ChsAre K H ys A
theorem ChI.same {K:Fg} {H0 H H':Hp} (s:Same H H') {g:Addr} {A:List Ch} (h:ChI K H0 H g A):ChI K H0 H' g A:=⟨h.fr,h.sm.trans s,let ⟨ys,z1,z2⟩:=h.ex;⟨ys,s _ _ z1,z2.same s⟩⟩
def Qha (K:Fg) (C:Addr):Sp:=fun vs H Q _=>∃ (p:Addr) (n:Int) (B:List BR),vs=[.ref p]/\FcAt K C H p n B/\BookOk n B/\∀ (g:Addr) (H':Hp),ChI K H H' g (chs n B)->Q (.ref g) H'
section
variable {P:Program} {w:World} {K:Fg} {mg:Str->Option Value} {base:Heap}
theorem scFcA:FnScope ["self","found","work","way"] ["self"] (Qg Qba):=⟨rfl,rfl,rfl,by decide +kernel,rfl,by decide +kernel,by decide +kernel⟩
theorem Qrh {f fL C:Addr} {fd fdL:FuncData} (F:Fun K "all_choices" "Facts.all_choices" Qba f fd) (M:Mg mg) (T:FcTxt K mg C) (GL:FnOk P w K mg base CX0 1 fL fdL ["self","work","way"] (Qfh K C)) (bL:Binds K fdL ["self","work","way"] []) (mL:Meth K C "last_begin" fL):FnOk P w K mg base CX0 2 f fd ["self"] (Qha K C):=by
 refine F.ok scFcA (fun vs H Q E h=>?_) (fun cdv A outer s H vs Q E hr h=>?_)
 ·obtain ⟨p,n,B,rfl,_⟩:=h
  rfl
 obtain ⟨p,n,B,rfl,hFc,bk,q⟩:=h
 have hu6:(A.deeper (PyProof.Rows.envOfC "Facts.all_choices" (Qg Qba) s.heap.objs.size f cdv)).units + 6 < cLine:=zV (wQ (by decide) _) hr.un
 have hz:(2000000:Nat) < sizeLine:=by decide
 obtain ⟨dx,lw,lb,lh,ls,la,ds,fs,kvs,yh,ysS,ya,hF⟩:=id hFc
 refine ⟨_,(Qf (Qp (i:=1) scFcA.nd rfl (Or.inl rfl) (Xw Qe))
  (Qf (Xe PassesOwn.never rfl (Qt (Yi (pv 0) rfl)) (Ql (i:=2) scFcA.nd rfl (Or.inr rfl) (Or.inl rfl)) (Qh (Xe PassesOwn.never rfl (Qt (Qnu (Yr ["names","work"] [none,some 2] rfl (Qnt (Yi (pv 0) rfl)) (fun _ _ _=>(Ql (i:=0) (show (["names","work"]:List Str).Nodup by decide +kernel) rfl (Or.inl rfl) (Or.inr rfl))) (fun _ _ _=>(Zu (Qn (Qlg (K:=K) (n:=6) rfl hu6) (Za (Qmx (K:=K) rfl) (pv 0) Zs (Zt Qd)) (Xd (Qa Xa (Qa (pv 1) Qe))) (Qq _)))) (fun _ _ _=>(Qo (Ji (K:=K) rfl) (pv 0) Qd (fun _ _=>rfl)))))) (Ql (i:=3) scFcA.nd rfl (Or.inr rfl) (Or.inl rfl)) (Qh (Qiw (i:=1) scFcA.nd rfl (Or.inl rfl) (Yr ["begin","work","way"] [none,some 2,some 3] rfl (Xk rfl M.range_ (Qa (Qj Qs (Yj (pv 0) T.cl mL GL (hr.mono (by decide)) bL .nil Zd (Qa (pv 2) (Qa (pv 3) Qe))) Qd) Qe)) (fun _ _ _=>(Ql (i:=0) (show (["begin","work","way"]:List Str).Nodup by decide +kernel) rfl (Or.inl rfl) (Or.inr rfl))) (fun _ _ _=>Yl) (fun _ _ _=>(Xd (Qa (pv 1) (Qa (pv 2) (Qa (pv 0) Qe)))))) Qrc)))))
  (Qh (Qw (pv 1))))),?_⟩
 refine ⟨by show 0<=sizeLine;decide,fun g hg=>?_⟩
 have c0:ChI K H (upd H g (.lst [])) g []:=⟨hg,Qc hg _,[],upd_same,.nil⟩
 generalize upd H g (.lst [])=H1 at c0 ⊢
 let Pv19:Nat->St->Hp->Prop:=fun i σ H1=>∃ u v:Option V,σ=[some (.ref p),some (.ref g),u,v]/\ChI K H H1 g (((wks B).take i).flatMap (chO n B))
 refine ⟨_,rfl,p,C,dx,fs,_,rfl,c0.sm _ _ hF.hp,T.cl,T.nW,hF.fW,lw,rfl,⟨_,Qb (c0.sm _ _ hF.hW)⟩,Xq (xs:=(wks B).map V.str) Pv19 ⟨none,none,rfl,c0⟩ ?_ ?_ ?_⟩
 ·rintro i σ H1 hi ⟨u,v,rfl,c⟩
  exact Qb (c.sm _ _ hF.hW)
 ·rintro i x σ H1 ex ⟨u,v,rfl,c⟩
  obtain ⟨w,ew,rfl⟩:=Ja ex
  refine ⟨_,rfl,p,C,dx,fs,_,rfl,c.sm _ _ hF.hp,T.cl,T.nI,hF.fI,ds,kvs,rfl,c.sm _ _ hF.hI,fun nf o D hD=>?_⟩
  have hds:=c.sm _ _ hF.hI
  have sf:∀ b u,H1 b=some u->b ≠ ds->upd H1 ds (.frz o (.dT kvs)) b=some u:=fun b u e ne=>by rw [Qi ne];exact e
  have hfz:upd H1 ds (.frz o (.dT kvs)) ds=some (.frz o (.dT kvs)):=upd_same
  have hD1:H1 D=none:=by
   cases e:H1 D with
   | none=>rfl
   | some u =>
    by_cases c:D=ds
    ·subst c;rw [hfz] at hD;cases hD
    ·rw [sf D u e c] at hD;cases hD
  generalize upd H1 ds (.frz o (.dT kvs))=Hf at sf hfz hD ⊢
  have lk:=hF.kl
  let Pv20:Nat->St->List V->Hp->Prop:=fun j τ ys H2=>∃ v:Option V,τ=[v,some (.str w)]/\ys=((kvs.take j).filterMap fun p=>wyK w p.1).map V.str/\ys.length<=j/\H2 D=some (.lst ys)/\Same Hf H2
  refine Ym (n:=kvs.length) Pv20 ?_ (fun j τ ys H2 hj h=>?_) (fun j τ ys H2 hj h=>?_) (fun τ ys H2 h=>?_) ?_ ?_
  ·exact ⟨none,rfl,rfl,jK _,upd_same,Qc hD _⟩
  ·obtain ⟨v,rfl,ey,hl,hE,sv⟩:=h
   exact ⟨hE,by omega⟩
  ·obtain ⟨v,rfl,ey,hl,hE,sv⟩:=h
   exact ⟨sv _ _ hfz,hj⟩
  ·obtain ⟨v,rfl,ey,hl,hE,sv⟩:=h
   exact ⟨sv _ _ hfz,jK _⟩
  ·rintro j τ ys H2 x H3 hj ⟨v,rfl,ey,hl,hE,sv⟩ ⟨rfl,t,k,y,rfl,ht,ek⟩
   obtain ⟨ks2,e2⟩:=Qnf k none (some 2)
   refine ⟨_,rfl,_,rfl,t,_,rfl,Qu ht,fun p2 H4 s4 hp2=>⟨_,rfl,by show 2<=sizeLine;decide,fun p3 hp3=>?_⟩⟩
   rw [e2] at hp2
   have s5:=s4.trans (Qc hp3 (.tup [.str "way",.str w]))
   have hp2':=(Qc hp3 (.tup [.str "way",.str w])).tup hp2
   have hp3':SqT K (upd H4 p3 (.tup [.str "way",.str w])) p3 ([Sum.inr ("way":Str),Sum.inr w].map kV):=Qu upd_same
   generalize upd H4 p3 (.tup [.str "way",.str w])=H5 at s5 hp2' hp3' ⊢
   refine ⟨p2,p3,ks2,[Sum.inr ("way":Str),Sum.inr w],rfl,rfl,hp2',hp3',fun c hc=>⟨_,rfl,ite2 (fun y=>?_) (fun y=>?_)⟩⟩
   ·have e3:=hc.mp y
    rw [e3] at e2
    obtain ⟨vv,rfl⟩:=Qrg hF.wo (kX ek) e2
    have e4:wyK w [Sum.inr ("way":Str),Sum.inr w,Sum.inr vv]=some vv:=by
     show (if ("way":Str)="way"/\w=w then some vv else none)=some vv
     rw [if_pos ⟨rfl,rfl⟩]
    refine ⟨_,rfl,t,_,_,_,rfl,rfl,s5.tup (Qu ht),Qqx,s5 _ _ hE,_,rfl,?_,by rw [jY];exact wJ hl,upd_same,Xv (sv.trans s5) hD⟩
    rw [Yd (fun p=>wyK w p.1) ek,e4,kJ,ey]
    rfl
   ·have e4:wyK w k=none:=by
     cases e:wyK w k with
     | none=>rfl
     | some vv =>
      exfalso
      unfold wyK at e
      split at e
      ·rename_i a b v'
       split at e
       ·rename_i h'
        obtain ⟨rfl,rfl⟩:=h'
        have e5:cutV ([V.str "way",V.str b,V.str v']) none (some 2)=ks2.map kV:=e2
        rw [cut2] at e5
        refine y (hc.mpr ?_)
        exact two_keys e5
       ·cases e
      ·cases e
    refine ⟨_,rfl,?_,by omega,s5 _ _ hE,sv.trans s5⟩
    rw [Yd (fun p=>wyK w p.1) ek,e4,ey]
    simp
  rintro τ ys H2 ⟨v',rfl,ey,hl,hE,sv⟩
  rw [kW,Qrf hF.wo] at ey
  refine ⟨ds,o,kvs,nf,sv _ _ hfz,?_⟩
  have nD:D ≠ ds:=fun e=>by rw [e,hds] at hD1;cases hD1
  have s5:Same H1 (upd H2 ds (.dT kvs)):=fun b u e=>by
   by_cases c:b=ds
   ·subst c;rw [upd_same,← hds];exact e
   ·rw [Qi c];exact sv _ _ (sf b u e c)
  have hE5:upd H2 ds (.dT kvs) D=some (.lst ys):=by rw [Qi nD];exact hE
  have c5:=c.same s5
  have ngD:D ≠ g:=fun e=>by obtain ⟨zs,hz,_⟩:=c.ex;rw [e,hz] at hD1;cases hD1
  generalize upd H2 ds (.dT kvs)=H5 at s5 hE5 c5 ⊢
  rw [ey] at hE5
  clear ey hE sv hfz sf
  have wl:=yV (wayR w) B
  have bl:=bk.wb.len
  refine ⟨D,rfl,⟨_,Qb hE5⟩,Xq (xs:=((B.filterMap (wayR w)).map (·.1)).map V.str) (fun j σ H6=>∃ v:Option V,σ=[some (.ref p),some (.ref g),some (.str w),v]/\ChI K H H6 g (((wks B).take i).flatMap (chO n B) ++ ((B.filterMap (wayR w)).take j).flatMap (chW n w))/\H6 D=some (.lst (((B.filterMap (wayR w)).map (·.1)).map V.str))) ⟨v,rfl,by rw [List.take_zero,List.flatMap_nil,zZ];exact c5,hE5⟩ ?_ ?_ ?_⟩
  ·rintro j σ H6 hj ⟨v,rfl,c6,hD6⟩
   exact Qb hD6
  ·rintro j x σ H6 ex ⟨v,rfl,c6,hD6⟩
   obtain ⟨vv,evv,rfl⟩:=Ja ex
   rw [yY] at evv
   obtain ⟨⟨v1,l,k⟩,ew3,e7⟩:=kXa.mp evv
   have e7':v1=vv:=e7
   subst e7'
   obtain ⟨r,hr,er⟩:=yJ.mp (kX ew3)
   rw [wayR_some] at er
   subst er
   have hok:1<=l/\l<=n/\_:=bk.wb.ok _ hr
   have n12:=bk.n12
   refine ⟨_,rfl,_,rfl,p,dx,fs,rfl,c6.sm _ _ hF.hp,hF.nL,_,rfl,_,rfl,p,n,B,w,v1,l,k,rfl,hFc.same c6.sm,hr,fun H7 s7=>⟨_,_,rfl,rfl,_,rfl,by omega,by omega,fun D2 hD2=>?_⟩⟩
   let Pv21:Nat->St->List V->Hp->Prop:=fun m τ ys H8=>∃ v:Option V,τ=[v,some (.str w),some (.str v1)]/\ChsAre K H8 ys ((List.range m).map fun b:Nat=>(w,v1,(b:Int)))/\H8 D2=some (.lst ys)/\Same H7 H8
   refine Ym (n:=(n - l + 1).toNat) Pv21 ?_ (fun m τ ys H8 hm h=>?_) (fun m τ ys H8 hm h=>?_) (fun τ ys H8 h=>?_) ?_ ?_
   ·exact ⟨none,rfl,.nil,upd_same,Qc hD2 _⟩
   ·obtain ⟨v,rfl,hY,hE,sv⟩:=h
    have:=Paired.length hY
    rw [jX,jYf] at this
    exact ⟨hE,by omega⟩
   ·exact hm
   ·exact jK _
   ·rintro m τ ys H8 x H9 hm ⟨v,rfl,hY,hE,sv⟩ ⟨rfl,rfl⟩
    refine ⟨_,rfl,_,rfl,_,rfl,by show 3<=sizeLine;decide,fun t ht=>?_⟩
    have s9:=Qc ht (.tup [.str w,.str v1,.int (0 + (m:Int))])
    have ht9:upd H9 t (.tup [.str w,.str v1,.int (0 + (m:Int))]) t=some (.tup [.str w,.str v1,.int (0 + (m:Int))]):=upd_same
    generalize upd H9 t (.tup [.str w,.str v1,.int (0 + (m:Int))])=H10 at s9 ht9 ⊢
    refine ⟨s9 _ _ hE,_,rfl,?_,upd_same,Xv (sv.trans s9) hD2⟩
    rw [jKa,kJ]
    refine Paired.snoc ((ChsAre.same s9 hY).updL (s9 _ _ hE)) ⟨t,rfl,Xc (s9 _ _ hE) (Qu ?_)⟩
    rw [ht9,jYd]
   rintro τ ys H8 ⟨v',rfl,hY,hE,sv⟩
   have c8:=c6.same (s7.trans sv)
   obtain ⟨xs,hg8,hX⟩:=c8.ex
   have l1:=Paired.length hX
   have l2:=Paired.length hY
   have ng2:D2 ≠ g:=fun e=>by
    obtain ⟨zs,hz,_⟩:=(c6.same s7).ex
    rw [e,hz] at hD2;cases hD2
   have e9:((wks B).take i).flatMap (chO n B) ++ ((B.filterMap (wayR w)).take (j + 1)).flatMap (chW n w)=(((wks B).take i).flatMap (chO n B) ++ ((B.filterMap (wayR w)).take j).flatMap (chW n w)) ++ ((List.range (n - l + 1).toNat).map fun b:Nat=>(w,v1,(b:Int))):=by
    rw [Yo (chW n w) ew3,xV];rfl
   refine ⟨g,D2,xs,ys,rfl,rfl,hg8,hE,?_,_,rfl,?_,?_⟩
   ·rw [l1,l2,← jY,← e9,jY]
    have a1:=Xr (l:=(wks B).take i) (f:=chO n B) (m:=4800) fun w _=>Qfn bk w
    have a2:=Xr (l:=(B.filterMap (wayR w)).take (j + 1)) (f:=chW n w) (m:=12) fun x hx=>Qck bk x (jKb hx)
    have a3:(wks B).length<=B.length:=yV Xz B
    rw [zK] at a1 a2
    omega
   ·rw [e9]
    exact ⟨c8.fr,Xv c8.sm c8.fr,_,upd_same,Vg (hX.updL hg8) (ChsAre.updL hg8 hY)⟩
   ·rw [Qi ngD]
    exact sv _ _ (s7 _ _ hD6)
  ·rintro σ H6 ⟨v,rfl,c6,hD6⟩
   rw [jX,jX,kW] at c6
   exact ⟨_,_,rfl,by rw [Yo (chO n B) ew];exact c6⟩
 ·rintro σ H1 ⟨u,v,rfl,c⟩
  rw [jX,kW] at c
  exact ⟨_,rfl,q g H1 c⟩
abbrev sWoR:Stmt:=top 11
theorem Qfp {A:List Ch} {f:Ch->Int}:(A.map f).map (fun x=>-x)=A.map fun c=>-(f c):=by rw [jKc];rfl
def spWoR (K:Fg) (C:Addr):Sp:=fun vs H Q _=>∃ (p a:Addr) (n:Int) (B:List BR),vs=[.ref p,.ref a]/\FcAt K C H p n B/\BookOk n B/\ChsAt K H a (chs n B)/\∀ (g:Addr) (H':Hp),LbI K H H' g ((wks B).flatMap (labW (chs n B)))->Q (.ref g) H'
theorem scWoR:FnScope ["facts","asked","told","work","numbers"] ["facts","asked"] (Qg sWoR):=⟨rfl,rfl,rfl,by decide +kernel,rfl,by decide +kernel,by decide +kernel⟩
theorem okWoR {C:Addr} (F:Fn K mg "work_rows" sWoR) (M:Mg mg) (T:FcTxt K mg C) (c_negated:Cal P w K mg base 1 "negated" ["numbers"] (Qcj K)):Cal P w K mg base 2 "work_rows" ["facts","asked"] (spWoR K C):=by
 refine Xi F scWoR (fun _ _ _ _ _ _=>Zm (fun _ _=>rfl)) (fun vs H Q E h=>?_) (fun f cdv A outer s H vs Q E hr h=>?_)
 ·obtain ⟨p,a,n,B,rfl,_⟩:=h
  rfl
 obtain ⟨p,a,n,B,rfl,hFc,bk,hA,q⟩:=h
 obtain ⟨dx,lw,lb,lh,ls,la,ds,fs,kvs,yh,ysS,ya,hF⟩:=id hFc
 have bl:=bk.wb.len
 have n1:=bk.n1
 have n12:=bk.n12
 have fw:=hA.few
 refine ⟨_,(Qf (Qp (i:=2) scWoR.nd rfl (Or.inl rfl) (Xw Qe))
  (Qf (Xe PassesOwn.never rfl (Qt (Yi (pv 0) rfl)) (Ql (i:=3) scWoR.nd rfl (Or.inr rfl) (Or.inl rfl)) (Qf (Qp (i:=4) scWoR.nd rfl (Or.inl rfl) (Xf Xu rfl M.tuple_ Yq (Qa (Yr ["choice","work"] [none,some 3] rfl (Qt (pv 1)) (fun _ _ _=>(Ql (i:=0) (show (["choice","work"]:List Str).Nodup by decide +kernel) rfl (Or.inl rfl) (Or.inr rfl))) (fun _ _ _=>Yl) (fun _ _ _=>(Kk (Qn Yb (Qo (Ji (K:=K) rfl) (pv 0) Qd (fun _ _=>rfl)) (pv 1) (Qq _)) Qd Qd))) Qe)))
  (Qf (Xm (Zp PySem.F.plainAttrs_list PySem.F.slot_list_append PySem.F.type_list_append Xb (pv 2) (Qa (Xd (Qa (Xd (Qa Xa (Qa (pv 3) (Qa Qd Qe)))) (Qa (Xd (Qa (pv 4) (Qa Qd Qe))) Qe))) Qe)))
  (Qh (Xm (Zp PySem.F.plainAttrs_list PySem.F.slot_list_append PySem.F.type_list_append Xb (pv 2) (Qa (Xd (Qa (Xd (Qa Xa (Qa (pv 3) (Qa (Qhv Qar Qd) Qe)))) (Qa (Xd (Qa (Xj c_negated (hr.mono (by decide)) (Qa (pv 4) Qe)) (Qa (Qhv Qar Qd) Qe))) Qe))) Qe)))))))
  (Qh (Qw (pv 2))))),?_⟩
 refine ⟨by show 0<=sizeLine;decide,fun g hg=>?_⟩
 have i0:LbI K H (upd H g (.lst [])) g []:=LbI.start hg
 generalize upd H g (.lst [])=H1 at i0 ⊢
 let Pv22:Nat->St->Hp->Prop:=fun i σ H1=>∃ u v:Option V,σ=[some (.ref p),some (.ref a),some (.ref g),u,v]/\LbI K H H1 g (((wks B).take i).flatMap (labW (chs n B)))
 refine ⟨_,rfl,p,C,dx,fs,_,rfl,i0.sm _ _ hF.hp,T.cl,T.nW,hF.fW,lw,rfl,⟨_,Qb (i0.sm _ _ hF.hW)⟩,Xq (xs:=(wks B).map V.str) Pv22 ⟨none,none,rfl,i0⟩ ?_ ?_ ?_⟩
 ·rintro i σ H1 hi ⟨u,v,rfl,c⟩
  exact Qb (c.sm _ _ hF.hW)
 ·rintro i x σ H1 ex ⟨u,v,rfl,c⟩
  obtain ⟨w,ew,rfl⟩:=Ja ex
  have ll:=Qgw (A:=chs n B) ((wks B).take i)
  have lk:(wks B).length<=B.length:=yV Xz B
  rw [zK] at ll
  have hA1:=hA.same c.sm
  obtain ⟨vs,hv,_⟩:=hA1.ex
  refine ⟨_,rfl,a,rfl,⟨_,hv⟩,fun D hD=>Qah (f:=fun c=>if c.1=w then 1 else 0) (cs:=[some (.str w)]) rfl hA1 hD (fun c t H2 hc s2 ht Pq k=>?_) (fun H2 s2 hD2=>?_)⟩
  ·refine ⟨_,rfl,t,_,_,_,rfl,rfl,ht,Qdy,_,rfl,rfl,_,rfl,ite2 (fun y=>?_) (fun y=>?_)⟩
   ·have:=k H2 (Same.refl _)
    rw [show (if c.1=w then (1:Int) else 0)=1 from if_pos (eqS y)] at this
    exact this
   ·have:=k H2 (Same.refl _)
    rw [show (if c.1=w then (1:Int) else 0)=0 from if_neg (fun z=>y (by rw [z];exact yesS _))] at this
    exact this
  refine ⟨D,_,rfl,.inl ⟨Qb hD2,fun tn htn=>?_⟩⟩
  have c3:=c.same (s2.trans (Qc htn (.tup (((chs n B).map fun c=>if c.1=w then 1 else 0).map V.int))))
  have hn3:SqT K (upd H2 tn (.tup (((chs n B).map fun c=>if c.1=w then 1 else 0).map V.int))) tn (((chs n B).map fun c=>if c.1=w then 1 else 0).map V.int):=Qu upd_same
  generalize upd H2 tn (.tup (((chs n B).map fun c=>if c.1=w then 1 else 0).map V.int))=H3 at c3 hn3 ⊢
  obtain ⟨y3,hy3,_⟩:=c3.ex
  refine ⟨_,rfl,.inl ⟨rfl,_,Qb hy3⟩,_,rfl,by show 3<=sizeLine;decide,fun a1 ha1=>⟨_,rfl,by show 2<=sizeLine;decide,fun b1 hb1=>⟨by show 2<=sizeLine;decide,fun t1 ht1=>?_⟩⟩⟩
  have hn4:=(Qc ha1 (.tup [.str "work",.str w,.int 1])).tup hn3
  have sx:=((Qc ha1 (.tup [.str "work",.str w,.int 1])).trans (Qc hb1 (.tup [.ref tn,.int 1]))).trans (Qc ht1 (.tup [.ref a1,.ref b1]))
  obtain ⟨y4,hy4,hl4,c4⟩:=Qaz (lab:=[Sum.inr ("work":Str),Sum.inr w,Sum.inl 1]) c3 ha1 (Same.refl _) hb1 hn4 ht1 (by omega) rfl
  refine ⟨_,_,_,rfl,rfl,hy4,hl4,?_⟩
  have hn5:=Xc (zs:=y4 ++ [.ref t1]) hy4 (sx.tup hn3)
  generalize upd (upd (upd (upd H3 a1 (.tup [.str "work",.str w,.int 1])) b1 (.tup [.ref tn,.int 1])) t1 (.tup [.ref a1,.ref b1])) g (.lst (y4 ++ [.ref t1]))=H4 at c4 hn5 ⊢
  obtain ⟨y5,hy5,_⟩:=c4.ex
  refine ⟨_,rfl,.inl ⟨rfl,_,Qb hy5⟩,_,rfl,_,rfl,by show 3<=sizeLine;decide,fun a2 ha2=>⟨_,rfl,tn,_,rfl,.inr ((Qc ha2 (.tup [.str "work",.str w,.int (-1)])).tup hn5),by rw [jX];exact fw,fun tm H6 s6 hm hm6=>⟨_,rfl,by show 2<=sizeLine;decide,fun b2 hb2=>⟨by show 2<=sizeLine;decide,fun t2 ht2=>?_⟩⟩⟩⟩
  rw [Qfp] at hm6
  obtain ⟨y6,hy6,hl6,c6⟩:=Qaz (lab:=[Sum.inr ("work":Str),Sum.inr w,Sum.inl (-1)]) c4 ha2 s6 hb2 hm6 ht2 (by rw [jY,jZf];omega) rfl
  refine ⟨_,_,_,rfl,rfl,hy6,hl6,_,_,rfl,?_⟩
  rw [Yo (labW (chs n B)) ew]
  rw [xV] at c6
  exact c6
 ·rintro σ H1 ⟨u,v,rfl,c⟩
  rw [jX,kW] at c
  exact ⟨_,rfl,q g H1 c⟩
abbrev sRoR:Stmt:=top 12
theorem Qcm {α:Type} {p:BR->Bool} {f:BR->Option α} {d:α} (h1:∀ r,p r=true->∃ x,f r=some x) (h2:∀ r,p r=false->f r=none):∀ B:List BR,B.filterMap f=(B.filter p).map fun r=>(f r).getD d
 | []=>rfl
 | r :: B=>by
  rw [jXd]
  by_cases h:p r=true
  ·obtain ⟨x,e⟩:=h1 r h
   rw [if_pos h,yQ,jQa,e,Qcm h1 h2 B];rfl
  ·rw [if_neg h,jQa,h2 r (by simpa using h),Qcm h1 h2 B]
theorem Qlh (B:List BR):B.filterMap stoR=(B.filter (selW "store")).map fun r=>(stoR r).getD ("",0,0):=Qcm (fun r h=>by
  obtain ⟨s,m,f,rfl⟩:=Jz (jJ h);exact ⟨_,rfl⟩) (fun r h=>by
  cases r with
  | store s m f=>exact absurd rfl (of_decide_eq_false h)
  | _=>rfl) B
theorem Qli (B:List BR):B.filterMap aftR=(B.filter (selW "after")).map fun r=>(aftR r).getD ("","",0):=Qcm (fun r h=>by
  obtain ⟨x,y,g,rfl⟩:=Jw (jJ h);exact ⟨_,rfl⟩) (fun r h=>by
  cases r with
  | after s m f=>exact absurd rfl (of_decide_eq_false h)
  | _=>rfl) B
theorem Qlj (B:List BR):bns B=(B.filterMap benR).map (·.1):=by
 unfold bns
 rw [List.map_filterMap]
 congr 1
 funext r
 cases r <;> rfl
theorem Qlk {B:List BR} {x:Str × Int} (h:x ∈ B.filterMap benR):BR.bench x.1 x.2 ∈ B:=by
 obtain ⟨r,hr,e⟩:=yJ.mp h
 cases r with
 | bench b c=>cases e;exact hr
 | _=>exact nomatch e
theorem Qri {B:List BR} {x:Str × Int × Int} (h:x ∈ B.filterMap stoR):BR.store x.1 x.2.1 x.2.2 ∈ B:=by
 obtain ⟨r,hr,e⟩:=yJ.mp h
 cases r with
 | store b c d=>cases e;exact hr
 | _=>exact nomatch e
theorem Qrj {B:List BR} {x:Str × Str × Int} (h:x ∈ B.filterMap aftR):BR.after x.1 x.2.1 x.2.2 ∈ B:=by
 obtain ⟨r,hr,e⟩:=yJ.mp h
 cases r with
 | after b c d=>cases e;exact hr
 | _=>exact nomatch e
theorem day0 (d:Nat):(0:Int) + (d:Int)=(d:Int):=jYd _
def spRoR (K:Fg) (C:Addr):Sp:=fun vs H Q _=>∃ (p a:Addr) (n:Int) (B:List BR),vs=[.ref p,.ref a]/\FcAt K C H p n B/\BookOk n B/\ChsAt K H a (chs n B)/\∀ (g:Addr) (H':Hp),LbI K H H' g ((B.filterMap benR).flatMap (labR n B (chs n B)))->Q (.ref g) H'
theorem scRoR:FnScope ["facts","asked","told","bench","day","numbers"] ["facts","asked"] (Qg sRoR):=⟨rfl,rfl,rfl,by decide +kernel,rfl,by decide +kernel,by decide +kernel⟩
theorem okRoR {C:Addr} {fU:Addr} {fdU:FuncData} {fR:Addr} {fdR:FuncData} (F:Fn K mg "room_rows" sRoR) (M:Mg mg) (T:FcTxt K mg C) (GU:FnOk P w K mg base CX0 2 fU fdU ["self","choice","bench","day"] (Qfj K C)) (bU:Binds K fdU ["self","choice","bench","day"] []) (mU:Meth K C "used_by" fU) (GR:FnOk P w K mg base CX0 1 fR fdR ["self","bench","day"] (Qfl K C)) (bR:Binds K fdR ["self","bench","day"] []) (mR:Meth K C "room_of" fR) (c_negated:Cal P w K mg base 1 "negated" ["numbers"] (Qcj K)):Cal P w K mg base 3 "room_rows" ["facts","asked"] (spRoR K C):=by
 refine Xi F scRoR (fun _ _ _ _ _ _=>Zm (fun _ _=>rfl)) (fun vs H Q E h=>?_) (fun f cdv A outer s H vs Q E hr h=>?_)
 ·obtain ⟨p,a,n,B,rfl,_⟩:=h
  rfl
 obtain ⟨p,a,n,B,rfl,hFc,bk,hA,q⟩:=h
 obtain ⟨dx,lw,lb,lh,ls,la,ds,fs,kvs,yh,ysS,ya,hF⟩:=id hFc
 have bl:=bk.wb.len
 have n1:=bk.n1
 have n12:=bk.n12
 have fw:=hA.few
 refine ⟨_,(Qf (Qp (i:=2) scRoR.nd rfl (Or.inl rfl) (Xw Qe))
  (Qf (Xe PassesOwn.never rfl (Qt (Yi (pv 0) rfl)) (Ql (i:=3) scRoR.nd rfl (Or.inr rfl) (Or.inl rfl)) (Qh (Xe PassesOwn.never rfl (Xk rfl M.range_ (Qa (Yi (pv 0) rfl) Qe)) (Ql (i:=4) scRoR.nd rfl (Or.inr rfl) (Or.inl rfl)) (Qf (Qp (i:=5) scRoR.nd rfl (Or.inl rfl) (Xj c_negated (hr.mono (by decide)) (Qa (Yr ["choice","facts","bench","day"] [none,some 0,some 3,some 4] rfl (Qt (pv 1)) (fun _ _ _=>(Ql (i:=0) (show (["choice","facts","bench","day"]:List Str).Nodup by decide +kernel) rfl (Or.inl rfl) (Or.inr rfl))) (fun _ _ _=>Yl) (fun _ _ _=>(Yj (pv 1) T.cl mU GU (hr.mono (by decide)) bU .nil Zd (Qa (pv 0) (Qa (pv 2) (Qa (pv 3) Qe)))))) Qe)))
  (Qh (Xm (Zp PySem.F.plainAttrs_list PySem.F.slot_list_append PySem.F.type_list_append Xb (pv 2) (Qa (Xd (Qa (Xd (Qa Xa (Qa (pv 3) (Qa (pv 4) Qe)))) (Qa (Xd (Qa (pv 5) (Qa (Qhv Qar (Yj (pv 0) T.cl mR GR (hr.mono (by decide)) bR .nil Zd (Qa (pv 3) (Qa (pv 4) Qe)))) Qe))) Qe))) Qe))))))))
  (Qh (Qw (pv 2))))),?_⟩
 refine ⟨by show 0<=sizeLine;decide,fun g hg=>?_⟩
 have i0:LbI K H (upd H g (.lst [])) g []:=LbI.start hg
 generalize upd H g (.lst [])=H1 at i0 ⊢
 let Pv23:Nat->St->Hp->Prop:=fun i σ H1=>∃ u v w:Option V,σ=[some (.ref p),some (.ref a),some (.ref g),u,v,w]/\LbI K H H1 g (((B.filterMap benR).take i).flatMap (labR n B (chs n B)))
 refine ⟨_,rfl,p,C,dx,fs,_,rfl,i0.sm _ _ hF.hp,T.cl,T.nB,hF.fB,lb,rfl,⟨_,Qb (i0.sm _ _ hF.hB)⟩,Xq (xs:=(bns B).map V.str) Pv23 ⟨none,none,none,rfl,i0⟩ ?_ ?_ ?_⟩
 ·rintro i σ H1 hi ⟨u,v,w,rfl,c⟩
  exact Qb (c.sm _ _ hF.hB)
 ·rintro i x σ H1 ex ⟨u,v,w,rfl,c⟩
  obtain ⟨b,eb,rfl⟩:=Ja ex
  rw [Qlj,yY] at eb
  obtain ⟨⟨b1,r⟩,er,e7⟩:=kXa.mp eb
  have e7':b1=b:=e7
  subst e7'
  have hbn:=Qlk (kX er)
  have ll:=Qgx n12 (B:=B) (A:=chs n B) ((B.filterMap benR).take i)
  have lk:(B.filterMap benR).length<=B.length:=yV benR B
  rw [zK] at ll
  let Pv24:Nat->St->Hp->Prop:=fun j σ H1=>∃ v w:Option V,σ=[some (.ref p),some (.ref a),some (.ref g),some (.str b1),v,w]/\LbI K H H1 g (((B.filterMap benR).take i).flatMap (labR n B (chs n B)) ++ (List.range j).map fun d:Nat=>Qra B (chs n B) (b1,r) (d:Int))
  refine ⟨_,rfl,p,C,dx,fs,_,rfl,c.sm _ _ hF.hp,T.cl,T.nD,hF.fD,_,rfl,by omega,by omega,Xs (lo:=0) (n:=n.toNat) Pv24 ⟨v,w,rfl,by rw [kZf,jJb,zZ];exact c⟩ ?_ ?_⟩
  ·rintro j σ H1 hj ⟨v,w,rfl,c⟩
   rw [day0]
   have hA1:=hA.same c.sm
   obtain ⟨vs,hv,_⟩:=hA1.ex
   refine ⟨_,rfl,a,rfl,⟨_,hv⟩,fun D hD=>Qah (f:=useR B b1 (j:Int)) (cs:=[some (.ref p),some (.str b1),some (.int (j:Int))]) rfl hA1 hD (fun ch t H2 hc s2 ht Pq k=>?_) (fun H2 s2 hD2=>?_)⟩
   ·obtain ⟨l,cc,hw,_,_⟩:=Qai hc
    exact ⟨_,rfl,p,dx,fs,rfl,s2 _ _ (c.sm _ _ hF.hp),hF.nU,_,rfl,_,rfl,_,rfl,p,t,n,B,ch.1,ch.2.1,b1,ch.2.2,l,cc,_,rfl,hFc.same (c.sm.trans s2),bk.wb,ht,hw,fun H3 s3=>k H3 s3⟩
   refine ⟨D,_,rfl,.inl (Qb hD2),by rw [jX];exact fw,fun tn H3 s3 hn hn3=>?_⟩
   rw [Qfp] at hn3
   have c3:=c.same (s2.trans s3)
   obtain ⟨y3,hy3,_⟩:=c3.ex
   refine ⟨_,rfl,.inl ⟨rfl,_,Qb hy3⟩,_,rfl,_,rfl,by show 3<=sizeLine;decide,fun a1 ha1=>?_⟩
   have sa:=Qc ha1 (.tup [.str "room",.str b1,.int (j:Int)])
   refine ⟨_,rfl,_,rfl,p,dx,fs,rfl,sa _ _ (c3.sm _ _ hF.hp),hF.nR,_,rfl,_,rfl,p,n,B,b1,r,_,rfl,hFc.same (c3.sm.trans sa),bk.wb,hbn,fun H4 s4=>⟨_,rfl,by show 2<=sizeLine;decide,fun b2 hb2=>⟨by show 2<=sizeLine;decide,fun t2 ht2=>?_⟩⟩⟩
   obtain ⟨y4,hy4,hl4,c4⟩:=Qaz (lab:=[Sum.inr ("room":Str),Sum.inr b1,Sum.inl (j:Int)]) c3 ha1 s4 hb2 ((sa.trans s4).tup hn3) ht2 (by rw [jY,jX,jYf];omega) rfl
   refine ⟨_,_,_,rfl,rfl,hy4,hl4,_,_,rfl,?_⟩
   rw [jKa,kJ,← xV]
   exact c4
  ·rintro σ H1 ⟨v,w,rfl,c⟩
   exact ⟨_,_,_,rfl,by rw [Yo (labR n B (chs n B)) er];exact c⟩
 ·rintro σ H1 ⟨u,v,w,rfl,c⟩
  rw [jX,Qlj,jX,kW] at c
  exact ⟨_,rfl,q g H1 c⟩
abbrev sStR:Stmt:=top 13
def spStR (K:Fg) (C:Addr):Sp:=fun vs H Q _=>∃ (p a:Addr) (n:Int) (B:List BR),vs=[.ref p,.ref a]/\FcAt K C H p n B/\BookOk n B/\ChsAt K H a (chs n B)/\∀ (g:Addr) (H':Hp),LbI K H H' g ((B.filterMap stoR).flatMap (labS n B (chs n B)))->Q (.ref g) H'
theorem scStR:FnScope ["facts","asked","told","store","most","first","day","numbers"] ["facts","asked"] (Qg sStR):=⟨rfl,rfl,rfl,by decide +kernel,rfl,by decide +kernel,by decide +kernel⟩
theorem okStR {C:Addr} {fG:Addr} {fdG:FuncData} (F:Fn K mg "store_rows" sStR) (M:Mg mg) (T:FcTxt K mg C) (GG:FnOk P w K mg base CX0 2 fG fdG ["self","choice","store","day"] (Qfk K C)) (bG:Binds K fdG ["self","choice","store","day"] []) (mG:Meth K C "gain_by" fG) (c_negated:Cal P w K mg base 1 "negated" ["numbers"] (Qcj K)):Cal P w K mg base 3 "store_rows" ["facts","asked"] (spStR K C):=by
 refine Xi F scStR (fun _ _ _ _ _ _=>Zm (fun _ _=>rfl)) (fun vs H Q E h=>?_) (fun f cdv A outer s H vs Q E hr h=>?_)
 ·obtain ⟨p,a,n,B,rfl,_⟩:=h
  rfl
 obtain ⟨p,a,n,B,rfl,hFc,bk,hA,q⟩:=h
 obtain ⟨dx,lw,lb,lh,ls,la,ds,fs,kvs,yh,ysS,ya,hF⟩:=id hFc
 have bl:=bk.wb.len
 have n1:=bk.n1
 have n12:=bk.n12
 have fw:=hA.few
 have lS:=Paired.length hF.tS
 refine ⟨_,(Qf (Qp (i:=2) scStR.nd rfl (Or.inl rfl) (Xw Qe))
  (Qf (Xe PassesOwn.never rfl (Qt (Yi (pv 0) rfl)) (Wg rfl (Xt (Ql (i:=3) scStR.nd rfl (Or.inr rfl) (Or.inl rfl)) (Xt (Ql (i:=4) scStR.nd rfl (Or.inl rfl) (Or.inl rfl)) (Xt (Ql (i:=5) scStR.nd rfl (Or.inl rfl) (Or.inl rfl)) Ke)))) (Qh (Xe PassesOwn.never rfl (Xk rfl M.range_ (Qa (Qj Qs (Yi (pv 0) rfl) Qd) Qe)) (Ql (i:=6) scStR.nd rfl (Or.inr rfl) (Or.inl rfl)) (Qf (Qp (i:=7) scStR.nd rfl (Or.inl rfl) (Xf Xu rfl M.tuple_ Yq (Qa (Yr ["choice","facts","store","day"] [none,some 0,some 3,some 6] rfl (Qt (pv 1)) (fun _ _ _=>(Ql (i:=0) (show (["choice","facts","store","day"]:List Str).Nodup by decide +kernel) rfl (Or.inl rfl) (Or.inr rfl))) (fun _ _ _=>Yl) (fun _ _ _=>(Yj (pv 1) T.cl mG GG (hr.mono (by decide)) bG .nil Zd (Qa (pv 0) (Qa (pv 2) (Qa (pv 3) Qe)))))) Qe)))
  (Qf (Xm (Zp PySem.F.plainAttrs_list PySem.F.slot_list_append PySem.F.type_list_append Xb (pv 2) (Qa (Xd (Qa (Xd (Qa Xa (Qa (pv 3) (Qa (pv 6) Qe)))) (Qa (Xd (Qa (pv 7) (Qa (Qhv Qar (pv 5)) Qe))) Qe))) Qe)))
  (Qh (Xm (Zp PySem.F.plainAttrs_list PySem.F.slot_list_append PySem.F.type_list_append Xb (pv 2) (Qa (Xd (Qa (Xd (Qa Xa (Qa (pv 3) (Qa (pv 6) Qe)))) (Qa (Xd (Qa (Xj c_negated (hr.mono (by decide)) (Qa (pv 7) Qe)) (Qa (Qj Kl (pv 5) (pv 4)) Qe))) Qe))) Qe)))))))))
  (Qh (Qw (pv 2))))),?_⟩
 refine ⟨by show 0<=sizeLine;decide,fun g hg=>?_⟩
 have i0:LbI K H (upd H g (.lst [])) g []:=LbI.start hg
 generalize upd H g (.lst [])=H1 at i0 ⊢
 let Pv25:Nat->St->Hp->Prop:=fun i σ H1=>∃ u v w x y:Option V,σ=[some (.ref p),some (.ref a),some (.ref g),u,v,w,x,y]/\LbI K H H1 g (((B.filterMap stoR).take i).flatMap (labS n B (chs n B)))
 refine ⟨_,rfl,p,C,dx,fs,_,rfl,i0.sm _ _ hF.hp,T.cl,T.nS,hF.fS,ls,rfl,⟨_,Qb (i0.sm _ _ hF.hS)⟩,Xq (xs:=ysS) Pv25 ⟨none,none,none,none,none,rfl,i0⟩ ?_ ?_ ?_⟩
 ·rintro i σ H1 hi ⟨u,v,w,x,y,rfl,c⟩
  exact Qb (c.sm _ _ hF.hS)
 ·rintro i x σ H1 ex ⟨u,v,w,xo,y,rfl,c⟩
  obtain ⟨rr,er0,t0,rfl,ht0⟩:=Qr hF.tS ex
  obtain ⟨s1,m,ff,rfl⟩:=Jz (jJ (jQb.mp (kX er0)).2)
  have er:(B.filterMap stoR)[i]?=some (s1,m,ff):=by rw [Qlh,yY,er0];rfl
  have ll:=Qgy n12 (B:=B) (A:=chs n B) ((B.filterMap stoR).take i)
  have lk:(B.filterMap stoR).length<=B.length:=yV stoR B
  rw [zK] at ll
  refine ⟨t0,_,rfl,c.sm.tup ht0,rfl,_,_,rfl,_,_,rfl,_,_,rfl,rfl,?_⟩
  let Pv26:Nat->St->Hp->Prop:=fun j σ H1=>∃ v w:Option V,σ=[some (.ref p),some (.ref a),some (.ref g),some (.str s1),some (.int m),some (.int ff),v,w]/\LbI K H H1 g (((B.filterMap stoR).take i).flatMap (labS n B (chs n B)) ++ (List.range j).flatMap fun d:Nat=>Qfo B (chs n B) (s1,m,ff) (d:Int))
  refine ⟨_,rfl,p,C,dx,fs,_,rfl,c.sm _ _ hF.hp,T.cl,T.nD,hF.fD,_,_,rfl,rfl,_,rfl,by omega,by omega,Xs (lo:=0) (n:=(n + 1).toNat) Pv26 ⟨xo,y,rfl,by rw [kZf,List.flatMap_nil,zZ];exact c⟩ ?_ ?_⟩
  ·rintro j σ H1 hj ⟨v,w,rfl,c⟩
   rw [day0]
   have l2:=Xr (l:=List.range j) (f:=fun d:Nat=>Qfo B (chs n B) (s1,m,ff) (d:Int)) (m:=2) fun d _=>jK 2
   rw [jYf] at l2
   have hA1:=hA.same c.sm
   obtain ⟨vs,hv,_⟩:=hA1.ex
   refine ⟨_,rfl,a,rfl,⟨_,hv⟩,fun D hD=>Qah (f:=Yz B s1 (j:Int)) (cs:=[some (.ref p),some (.str s1),some (.int (j:Int))]) rfl hA1 hD (fun ch t H2 hc s2 ht Pq k=>?_) (fun H2 s2 hD2=>?_)⟩
   ·obtain ⟨l,cc,hw,_,_⟩:=Qai hc
    exact ⟨_,rfl,p,dx,fs,rfl,s2 _ _ (c.sm _ _ hF.hp),hF.nG,_,rfl,_,rfl,_,rfl,p,t,n,B,ch.1,ch.2.1,s1,ch.2.2,l,cc,_,rfl,hFc.same (c.sm.trans s2),bk.wb,ht,hw,fun H3 s3=>k H3 s3⟩
   refine ⟨D,_,rfl,.inl ⟨Qb hD2,fun tn htn=>?_⟩⟩
   have c3:=c.same (s2.trans (Qc htn (.tup (((chs n B).map (Yz B s1 (j:Int))).map V.int))))
   have hn3:SqT K (upd H2 tn (.tup (((chs n B).map (Yz B s1 (j:Int))).map V.int))) tn (((chs n B).map (Yz B s1 (j:Int))).map V.int):=Qu upd_same
   generalize upd H2 tn (.tup (((chs n B).map (Yz B s1 (j:Int))).map V.int))=H3 at c3 hn3 ⊢
   obtain ⟨y3,hy3,_⟩:=c3.ex
   refine ⟨_,rfl,.inl ⟨rfl,_,Qb hy3⟩,_,rfl,_,rfl,by show 3<=sizeLine;decide,fun a1 ha1=>⟨_,rfl,_,rfl,_,rfl,by show 2<=sizeLine;decide,fun b1 hb1=>⟨by show 2<=sizeLine;decide,fun t1 ht1=>?_⟩⟩⟩
   have hn4:=(Qc ha1 (.tup [.str "least",.str s1,.int (j:Int)])).tup hn3
   have sx:=((Qc ha1 (.tup [.str "least",.str s1,.int (j:Int)])).trans (Qc hb1 (.tup [.ref tn,.int (-ff)]))).trans (Qc ht1 (.tup [.ref a1,.ref b1]))
   obtain ⟨y4,hy4,hl4,c4⟩:=Qaz (lab:=[Sum.inr ("least":Str),Sum.inr s1,Sum.inl (j:Int)]) c3 ha1 (Same.refl _) hb1 hn4 ht1 (by rw [jY];omega) rfl
   refine ⟨_,_,_,rfl,rfl,hy4,hl4,?_⟩
   have hn5:=Xc (zs:=y4 ++ [.ref t1]) hy4 (sx.tup hn3)
   generalize upd (upd (upd (upd H3 a1 (.tup [.str "least",.str s1,.int (j:Int)])) b1 (.tup [.ref tn,.int (-ff)])) t1 (.tup [.ref a1,.ref b1])) g (.lst (y4 ++ [.ref t1]))=H4 at c4 hn5 ⊢
   obtain ⟨y5,hy5,_⟩:=c4.ex
   refine ⟨_,rfl,.inl ⟨rfl,_,Qb hy5⟩,_,rfl,_,rfl,by show 3<=sizeLine;decide,fun a2 ha2=>⟨_,rfl,tn,_,rfl,.inr ((Qc ha2 (.tup [.str "most",.str s1,.int (j:Int)])).tup hn5),by rw [jX];exact fw,fun tm H6 s6 hm hm6=>⟨_,rfl,_,rfl,_,_,rfl,rfl,by show 2<=sizeLine;decide,fun b2 hb2=>⟨by show 2<=sizeLine;decide,fun t2 ht2=>?_⟩⟩⟩⟩
   rw [Qfp] at hm6
   obtain ⟨y6,hy6,hl6,c6⟩:=Qaz (lab:=[Sum.inr ("most":Str),Sum.inr s1,Sum.inl (j:Int)]) c4 ha2 s6 hb2 hm6 ht2 (by rw [jY,jY,jZf];omega) rfl
   refine ⟨_,_,_,rfl,rfl,hy6,hl6,_,_,rfl,?_⟩
   rw [jKa,jKe,← xV]
   rw [xV] at c6
   exact c6
  ·rintro σ H1 ⟨v,w,rfl,c⟩
   exact ⟨_,_,_,_,_,rfl,by rw [Yo (labS n B (chs n B)) er];exact c⟩
 ·rintro σ H1 ⟨u,v,w,x,y,rfl,c⟩
  rw [lS,jXb (by rw [Qlh,jX];exact jK _)] at c
  exact ⟨_,rfl,q g H1 c⟩
abbrev sAfR:Stmt:=top 15
def spAfR (K:Fg) (C:Addr):Sp:=fun vs H Q _=>∃ (p a:Addr) (n:Int) (B:List BR),vs=[.ref p,.ref a]/\FcAt K C H p n B/\BookOk n B/\ChsAt K H a (chs n B)/\∀ (g:Addr) (H':Hp),LbI K H H' g ((B.filterMap aftR).flatMap (labA n B (chs n B)))->Q (.ref g) H'
theorem scAfR:FnScope ["facts","asked","told","after","day","numbers"] ["facts","asked"] (Qg sAfR):=⟨rfl,rfl,rfl,by decide +kernel,rfl,by decide +kernel,by decide +kernel⟩
theorem okAfR {C:Addr} (F:Fn K mg "after_rows" sAfR) (M:Mg mg) (T:FcTxt K mg C) (c_after_number:Cal P w K mg base 2 "after_number" ["facts","choice","after","day"] (spAfN K C)):Cal P w K mg base 3 "after_rows" ["facts","asked"] (spAfR K C):=by
 refine Xi F scAfR (fun _ _ _ _ _ _=>Zm (fun _ _=>rfl)) (fun vs H Q E h=>?_) (fun f cdv A outer s H vs Q E hr h=>?_)
 ·obtain ⟨p,a,n,B,rfl,_⟩:=h
  rfl
 obtain ⟨p,a,n,B,rfl,hFc,bk,hA,q⟩:=h
 obtain ⟨dx,lw,lb,lh,ls,la,ds,fs,kvs,yh,ysS,ya,hF⟩:=id hFc
 have bl:=bk.wb.len
 have n1:=bk.n1
 have n12:=bk.n12
 have fw:=hA.few
 have lS:=Paired.length hF.tA
 refine ⟨_,(Qf (Qp (i:=2) scAfR.nd rfl (Or.inl rfl) (Xw Qe))
  (Qf (Xe PassesOwn.never rfl (Qt (Yi (pv 0) rfl)) (Ql (i:=3) scAfR.nd rfl (Or.inr rfl) (Or.inl rfl)) (Qh (Xe PassesOwn.never rfl (Xk rfl M.range_ (Qa (Qj Qs (Yi (pv 0) rfl) Qd) Qe)) (Ql (i:=4) scAfR.nd rfl (Or.inr rfl) (Or.inl rfl)) (Qf (Qp (i:=5) scAfR.nd rfl (Or.inl rfl) (Xf Xu rfl M.tuple_ Yq (Qa (Yr ["choice","facts","after","day"] [none,some 0,some 3,some 4] rfl (Qt (pv 1)) (fun _ _ _=>(Ql (i:=0) (show (["choice","facts","after","day"]:List Str).Nodup by decide +kernel) rfl (Or.inl rfl) (Or.inr rfl))) (fun _ _ _=>Yl) (fun _ _ _=>(Xj c_after_number (hr.mono (by decide)) (Qa (pv 1) (Qa (pv 0) (Qa (pv 2) (Qa (pv 3) Qe))))))) Qe)))
  (Qh (Xm (Zp PySem.F.plainAttrs_list PySem.F.slot_list_append PySem.F.type_list_append Xb (pv 2) (Qa (Xd (Qa (Xd (Qa Xa (Qa (Qo Xn (pv 3) Qd (fun _ _=>rfl)) (Qa (Qo Xn (pv 3) Qd (fun _ _=>rfl)) (Qa (pv 4) Qe))))) (Qa (Xd (Qa (pv 5) (Qa Qd Qe))) Qe))) Qe))))))))
  (Qh (Qw (pv 2))))),?_⟩
 refine ⟨by show 0<=sizeLine;decide,fun g hg=>?_⟩
 have i0:LbI K H (upd H g (.lst [])) g []:=LbI.start hg
 generalize upd H g (.lst [])=H1 at i0 ⊢
 let Pv27:Nat->St->Hp->Prop:=fun i σ H1=>∃ u v w:Option V,σ=[some (.ref p),some (.ref a),some (.ref g),u,v,w]/\LbI K H H1 g (((B.filterMap aftR).take i).flatMap (labA n B (chs n B)))
 refine ⟨_,rfl,p,C,dx,fs,_,rfl,i0.sm _ _ hF.hp,T.cl,T.nA,hF.fA,la,rfl,⟨_,Qb (i0.sm _ _ hF.hA)⟩,Xq (xs:=ya) Pv27 ⟨none,none,none,rfl,i0⟩ ?_ ?_ ?_⟩
 ·rintro i σ H1 hi ⟨u,v,w,rfl,c⟩
  exact Qb (c.sm _ _ hF.hA)
 ·rintro i x σ H1 ex ⟨u,v,w,rfl,c⟩
  obtain ⟨rr,er0,t0,rfl,ht0⟩:=Qr hF.tA ex
  obtain ⟨s1,m,ff,rfl⟩:=Jw (jJ (jQb.mp (kX er0)).2)
  have ht0':SqT K H t0 [.str s1,.str m,.int ff]:=ht0
  have er:(B.filterMap aftR)[i]?=some (s1,m,ff):=by rw [Qli,yY,er0];rfl
  have ll:=Qgz n12 (B:=B) (A:=chs n B) ((B.filterMap aftR).take i)
  have lk:(B.filterMap aftR).length<=B.length:=yV aftR B
  rw [zK] at ll
  let Pv28:Nat->St->Hp->Prop:=fun j σ H1=>∃ v w:Option V,σ=[some (.ref p),some (.ref a),some (.ref g),some (.ref t0),v,w]/\LbI K H H1 g (((B.filterMap aftR).take i).flatMap (labA n B (chs n B)) ++ (List.range j).map fun d:Nat=>Qrb B (chs n B) (s1,m,ff) (d:Int))
  refine ⟨_,rfl,p,C,dx,fs,_,rfl,c.sm _ _ hF.hp,T.cl,T.nD,hF.fD,_,_,rfl,rfl,_,rfl,by omega,by omega,Xs (lo:=0) (n:=(n + 1).toNat) Pv28 ⟨v,w,rfl,by rw [kZf,jJb,zZ];exact c⟩ ?_ ?_⟩
  ·rintro j σ H1 hj ⟨v,w,rfl,c⟩
   rw [day0]
   have hA1:=hA.same c.sm
   obtain ⟨vs,hv,_⟩:=hA1.ex
   refine ⟨_,rfl,a,rfl,⟨_,hv⟩,fun D hD=>Qah (f:=fun c=>afN c.1 c.2.2 (lenB B c.1 c.2.1) s1 m ff (j:Int)) (cs:=[some (.ref p),some (.ref t0),some (.int (j:Int))]) rfl hA1 hD (fun ch t H2 hc s2 ht Pq k=>?_) (fun H2 s2 hD2=>?_)⟩
   ·obtain ⟨l,cc,hw,_,_⟩:=Qai hc
    have e:=Zn bk.wb hw
    refine ⟨_,rfl,_,rfl,_,rfl,_,rfl,p,t,t0,n,B,ch.1,ch.2.1,ch.2.2,l,cc,s1,m,ff,_,rfl,hFc.same (c.sm.trans s2),ht,hw,(c.sm.trans s2).tup ht0',fun H3 s3=>?_⟩
    have:=k H3 s3
    rw [e] at this
    exact this
   refine ⟨D,_,rfl,.inl ⟨Qb hD2,fun tn htn=>?_⟩⟩
   have c3:=c.same (s2.trans (Qc htn (.tup (((chs n B).map fun c=>afN c.1 c.2.2 (lenB B c.1 c.2.1) s1 m ff (j:Int)).map V.int))))
   have hn3:SqT K (upd H2 tn (.tup (((chs n B).map fun c=>afN c.1 c.2.2 (lenB B c.1 c.2.1) s1 m ff (j:Int)).map V.int))) tn (((chs n B).map fun c=>afN c.1 c.2.2 (lenB B c.1 c.2.1) s1 m ff (j:Int)).map V.int):=Qu upd_same
   generalize upd H2 tn (.tup (((chs n B).map fun c=>afN c.1 c.2.2 (lenB B c.1 c.2.1) s1 m ff (j:Int)).map V.int))=H3 at c3 hn3 ⊢
   obtain ⟨y3,hy3,_⟩:=c3.ex
   refine ⟨_,rfl,.inl ⟨rfl,_,Qb hy3⟩,_,rfl,t0,_,_,_,rfl,rfl,c3.sm.tup ht0',Qdy,_,rfl,t0,_,_,_,rfl,rfl,c3.sm.tup ht0',at3_1,_,rfl,by show 4<=sizeLine;decide,fun a1 ha1=>⟨_,rfl,by show 2<=sizeLine;decide,fun b1 hb1=>⟨by show 2<=sizeLine;decide,fun t1 ht1=>?_⟩⟩⟩
   have hn4:=(Qc ha1 (.tup [.str "after",.str s1,.str m,.int (j:Int)])).tup hn3
   obtain ⟨y4,hy4,hl4,c4⟩:=Qaz (lab:=[Sum.inr ("after":Str),Sum.inr s1,Sum.inr m,Sum.inl (j:Int)]) c3 ha1 (Same.refl _) hb1 hn4 ht1 (by rw [jY,jX,jYf];omega) rfl
   refine ⟨_,_,_,rfl,rfl,hy4,hl4,_,_,rfl,?_⟩
   rw [jKa,kJ,← xV]
   exact c4
  ·rintro σ H1 ⟨v,w,rfl,c⟩
   exact ⟨_,_,_,rfl,by rw [Yo (labA n B (chs n B)) er];exact c⟩
 ·rintro σ H1 ⟨u,v,w,rfl,c⟩
  rw [lS,jXb (by rw [Qli,jX];exact jK _)] at c
  exact ⟨_,rfl,q g H1 c⟩
abbrev Qnv:Stmt:=top 16
theorem Qfq {K:Fg} {H0 H:Hp} {g1 g2 p:Addr} {y1 y2:List V} {L1 L2:List Lb} (s:Same H0 H) (h1:H g1=some (.lst y1)) (r1:LbsAre K H y1 L1) (h2:H g2=some (.lst y2)) (r2:LbsAre K H y2 L2) (hp:H p=none):LbI K H0 (upd H p (.lst (y1 ++ y2))) p (L1 ++ L2) :=
 ⟨s.free hp,Xv s (s.free hp),_,upd_same,Vg (r1.same (Qc hp _)) (LbsAre.same (Qc hp _) r2)⟩
theorem Vm {n:Int} {B:List BR} (bk:BookOk n B):((wks B).flatMap (labW (chs n B))).length<=800/\((B.filterMap benR).flatMap (labR n B (chs n B))).length<=4800/\((B.filterMap stoR).flatMap (labS n B (chs n B))).length<=10400/\((B.filterMap aftR).flatMap (labA n B (chs n B))).length<=5200:=by
 have bl:=bk.wb.len
 have n12:=bk.n12
 have a1:=Qgw (A:=chs n B) (wks B)
 have a2:=Qgx n12 (B:=B) (A:=chs n B) (B.filterMap benR)
 have a3:=Qgy n12 (B:=B) (A:=chs n B) (B.filterMap stoR)
 have a4:=Qgz n12 (B:=B) (A:=chs n B) (B.filterMap aftR)
 have b1:(wks B).length<=B.length:=yV Xz B
 have b2:=yV benR B
 have b3:=yV stoR B
 have b4:=yV aftR B
 refine ⟨by omega,by omega,by omega,by omega⟩
def Qpg (K:Fg):Sp:=fun vs H Q _=>∃ (d:Addr) (n:Int) (us:List V) (B:List BR),vs=[.ref d]/\H d=some (.lst us)/\RowsB H us B/\BookOk n B/\∀ (g:Addr) (H':Hp),LbI K H H' g (labs n B)->Q (.ref g) H'
theorem scLabd:FnScope ["book","facts","asked"] ["book"] (Qg Qnv):=⟨rfl,rfl,rfl,by decide +kernel,rfl,by decide +kernel,by decide +kernel⟩
theorem okLabd {C:Addr} {fA:Addr} {fdA:FuncData} {fI:Addr} {fdI:FuncData} (F:Fn K mg "labelled" Qnv) (M:Mg mg) (T:FcTxt K mg C) (mkI:Mk K C fI) (GI:FnOk P w K mg base CX0 2 fI fdI ["self","book"] (Vk K C)) (bI:Binds K fdI ["self","book"] []) (GA:FnOk P w K mg base CX0 2 fA fdA ["self"] (Qha K C)) (bA:Binds K fdA ["self"] []) (mA:Meth K C "all_choices" fA) (c_work_rows:Cal P w K mg base 2 "work_rows" ["facts","asked"] (spWoR K C)) (c_room_rows:Cal P w K mg base 3 "room_rows" ["facts","asked"] (spRoR K C)) (c_store_rows:Cal P w K mg base 3 "store_rows" ["facts","asked"] (spStR K C)) (c_after_rows:Cal P w K mg base 3 "after_rows" ["facts","asked"] (spAfR K C)):Cal P w K mg base 4 "labelled" ["book"] (Qpg K):=by
 refine Xi F scLabd (fun _ _ _ _ _ _=>bind1 (fun _=>rfl)) (fun vs H Q E h=>?_) (fun f cdv A outer s H vs Q E hr h=>?_)
 ·obtain ⟨d,n,us,B,rfl,_⟩:=h
  rfl
 obtain ⟨d,n,us,B,rfl,hd,hB,bk,q⟩:=h
 have hz:(50000:Nat) < sizeLine:=by decide
 obtain ⟨k1,k2,k3,k4⟩:=Vm bk
 refine ⟨_,(Qf (Qp (i:=1) scLabd.nd rfl (Or.inl rfl) (Wl mkI GI (hr.mono (by decide)) rfl T.mgC bI .nil Zd (Qa (pv 0) Qe)))
  (Qf (Qp (i:=2) scLabd.nd rfl (Or.inl rfl) (Qbi (pv 1) T.cl mA GA (hr.mono (by decide)) bA .nil Zd))
  (Qh (Qw (Qj Kc (Qj Kc (Qj Kc (Xj c_work_rows (hr.mono (by decide)) (Qa (pv 1) (Qa (pv 2) Qe))) (Xj c_room_rows (hr.mono (by decide)) (Qa (pv 1) (Qa (pv 2) Qe)))) (Xj c_store_rows (hr.mono (by decide)) (Qa (pv 1) (Qa (pv 2) Qe)))) (Xj c_after_rows (hr.mono (by decide)) (Qa (pv 1) (Qa (pv 2) Qe)))))))),?_⟩
 refine ⟨_,rfl,fun p dx fp fdx ndx=>?_⟩
 dsimp only [tNil]
 have s1:Same H (upd (upd H dx (.own p)) p (.ins C dx [])):=(Qc fdx _).trans (Qc (by rw [Qi ndx.symm];exact fp) _)
 have hp1:upd (upd H dx (.own p)) p (.ins C dx []) p=some (.ins C dx []):=upd_same
 generalize upd (upd H dx (.own p)) p (.ins C dx [])=H1 at s1 hp1 ⊢
 refine ⟨p,d,dx,n,us,B,rfl,hp1,s1 _ _ hd,hB.same s1,bk,fun H2 hFc fr=>⟨rfl,?_⟩⟩
 have s2:Same H H2:=fun b o e=>fr b o (s1 _ _ e) (Qk e fp)
 obtain ⟨dx2,lw,lb,lh,ls,la,ds,fs,kvs,yh,ysS,ya,hF⟩:=id hFc
 refine ⟨_,rfl,p,dx2,fs,rfl,hF.hp,hF.nC,?_⟩
 dsimp only [tNil]
 refine ⟨p,n,B,rfl,hFc,bk,fun a H3 cA=>?_⟩
 have s3:=cA.sm
 have hA:ChsAt K H3 a (chs n B):=let ⟨ys,h1,h2⟩:=cA.ex;⟨⟨ys,Qb h1,h2⟩,Qaj bk⟩
 refine ⟨_,rfl,_,rfl,p,a,n,B,rfl,hFc.same s3,bk,hA,fun g1 H4 i4=>?_⟩
 have hA4:=hA.same i4.sm
 have s4:=s3.trans i4.sm
 refine ⟨_,rfl,_,rfl,p,a,n,B,rfl,hFc.same s4,bk,hA4,fun g2 H5 i5=>?_⟩
 obtain ⟨y1,h1,r1⟩:=i4.ex
 obtain ⟨y2,h2,r2⟩:=i5.ex
 have l1:=Paired.length r1
 have l2:=Paired.length r2
 refine ⟨g1,g2,y1,y2,rfl,rfl,i5.sm _ _ h1,h2,by omega,fun p6 hp6=>?_⟩
 have i6:=Qfq (Same.refl _) (i5.sm _ _ h1) (r1.same i5.sm) h2 r2 hp6
 have s6:=s4.trans (i5.sm.trans i6.sm)
 generalize upd H5 p6 (.lst (y1 ++ y2))=H6 at i6 s6 ⊢
 refine ⟨_,rfl,_,rfl,p,a,n,B,rfl,hFc.same s6,bk,(hA4.same i5.sm).same i6.sm,fun g3 H7 i7=>?_⟩
 obtain ⟨y6,h6,r6⟩:=i6.ex
 obtain ⟨y7,h7,r7⟩:=i7.ex
 have l6:=Paired.length r6
 have l7:=Paired.length r7
 rw [jY] at l6
 refine ⟨p6,g3,y6,y7,rfl,rfl,i7.sm _ _ h6,h7,by omega,fun p8 hp8=>?_⟩
 have i8:=Qfq (Same.refl _) (i7.sm _ _ h6) (r6.same i7.sm) h7 r7 hp8
 have s8:=s6.trans (i7.sm.trans i8.sm)
 generalize upd H7 p8 (.lst (y6 ++ y7))=H8 at i8 s8 ⊢
 refine ⟨_,rfl,_,rfl,p,a,n,B,rfl,hFc.same s8,bk,(((hA4.same i5.sm).same i6.sm).same i7.sm).same i8.sm,fun g4 H9 i9=>?_⟩
 obtain ⟨y8,h8,r8⟩:=i8.ex
 obtain ⟨y9,h9,r9⟩:=i9.ex
 have l8:=Paired.length r8
 have l9:=Paired.length r9
 rw [jY,jY] at l8
 refine ⟨p8,g4,y8,y9,rfl,rfl,i9.sm _ _ h8,h9,by omega,fun p10 hp10=>?_⟩
 exact q p10 _ (Qfq (s2.trans (s8.trans i9.sm)) (i9.sm _ _ h8) (r8.same i9.sm) h9 r9 hp10)
abbrev sPrb:Stmt:=top 17
def wyL (B:List BR) (w v:Str):Int × Int:=match (B.filterMap (wayR w)).find? (fun x=>decide (x.1=v)) with
 | some x=>x.2
 | none=>(0,0)
theorem Qhb {n:Int} {B:List BR} (wb:WB n B) {w v:Str} {l c:Int} (h:BR.way w v l c ∈ B):wyL B w v=(l,c):=by
 have hm:(v,l,c) ∈ B.filterMap (wayR w):=yJ.mpr ⟨_,h,wayR_some.mpr rfl⟩
 unfold wyL
 cases e:(B.filterMap (wayR w)).find? (fun x=>decide (x.1=v)) with
 | none=>exact absurd (kQ rfl) (List.find?_eq_none.mp e _ hm)
 | some x =>
  have h1:=List.find?_some e
  have h2:=List.mem_of_find?_eq_some e
  obtain ⟨r,hr,er⟩:=yJ.mp h2
  rw [wayR_some,jJ h1] at er
  subst er
  obtain ⟨z1,z2⟩:=wb.way1 hr h
  show x.2=(l,c)
  rw [← z1,← z2]
def prcC (B:List BR) (c:Ch):Int:=Qgt B c.1 c.2.2 (wyL B c.1 c.2.1).1 (wyL B c.1 c.2.1).2
theorem Qll {n:Int} {B:List BR} (bk:BookOk n B) (w:Str):0<=(Jt B w).1/\(Jt B w).1<=100:=by
 have n12:=bk.n12
 by_cases h:∃ d k,BR.late w d k ∈ B
 ·obtain ⟨d,k,h⟩:=h
  rw [Qcg bk.wb h]
  have:0<=d/\d<=n/\_:=bk.wb.ok _ h
  exact ⟨this.1,by show d<=100;omega⟩
 ·rw [Qch (fun d k z=>h ⟨d,k,z⟩)]
  exact ⟨kXe _,by decide⟩
def spPrb (K:Fg):Sp:=fun vs H Q _=>∃ (d:Addr) (n:Int) (us:List V) (B:List BR),vs=[.ref d]/\H d=some (.lst us)/\RowsB H us B/\BookOk n B/\∀ (t l c:Addr) (ys:List V) (H':Hp),Same H H'->SqT K H' t [.ref l,.ref c]->H l=none->H' l=some (.lst ys)->RowsAre K H' ys ((labs n B).map (·.2))->SqT K H' c (((chs n B).map (prcC B)).map V.int)->Q (.ref t) H'
theorem scPrb:FnScope ["book","facts","costs"] ["book"] (Qg sPrb):=⟨rfl,rfl,rfl,by decide +kernel,rfl,by decide +kernel,by decide +kernel⟩
theorem okPrb {C:Addr} {fA:Addr} {fdA:FuncData} {fP:Addr} {fdP:FuncData} {fI:Addr} {fdI:FuncData} (F:Fn K mg "problem_of" sPrb) (M:Mg mg) (T:FcTxt K mg C) (mkI:Mk K C fI) (GI:FnOk P w K mg base CX0 2 fI fdI ["self","book"] (Vk K C)) (bI:Binds K fdI ["self","book"] []) (GA:FnOk P w K mg base CX0 2 fA fdA ["self"] (Qha K C)) (bA:Binds K fdA ["self"] []) (mA:Meth K C "all_choices" fA) (GP:FnOk P w K mg base CX0 2 fP fdP ["self","choice"] (Qci K C)) (bP:Binds K fdP ["self","choice"] []) (mP:Meth K C "price_of" fP) (c_labelled:Cal P w K mg base 4 "labelled" ["book"] (Qpg K)):Cal P w K mg base 5 "problem_of" ["book"] (spPrb K):=by
 refine Xi F scPrb (fun _ _ _ _ _ _=>bind1 (fun _=>rfl)) (fun vs H Q E h=>?_) (fun f cdv A outer s H vs Q E hr h=>?_)
 ·obtain ⟨d,n,us,B,rfl,_⟩:=h
  rfl
 obtain ⟨d,n,us,B,rfl,hd,hB,bk,q⟩:=h
 have hz:(50000:Nat) < sizeLine:=by decide
 obtain ⟨k1,k2,k3,k4⟩:=Vm bk
 have kl:(labs n B).length<=22000:=by
  unfold labs
  rw [jY,jY,jY]
  omega
 refine ⟨_,(Qf (Qp (i:=1) scPrb.nd rfl (Or.inr rfl) (Wl mkI GI (hr.mono (by decide)) rfl T.mgC bI .nil Zd (Qa (pv 0) Qe)))
  (Qf (Qp (i:=2) scPrb.nd rfl (Or.inl rfl) (Xf Xu rfl M.tuple_ Yq (Qa (Yr ["choice","facts"] [none,some 1] rfl (Qt (Qbi (pv 1) T.cl mA GA (hr.mono (by decide)) bA .nil Zd)) (fun _ _ _=>(Ql (i:=0) (show (["choice","facts"]:List Str).Nodup by decide +kernel) rfl (Or.inl rfl) (Or.inr rfl))) (fun _ _ _=>Yl) (fun _ _ _=>(Yj (pv 1) T.cl mP GP (hr.mono (by decide)) bP .nil Zd (Qa (pv 0) Qe)))) Qe)))
  (Qh (Qw (Xd (Qa (Yr ["label","row"] [none,none] rfl (Qt (Xj c_labelled (hr.mono (by decide)) (Qa (pv 0) Qe))) (fun _ _ _=>(Jh (K:=K) (i:=0) (j:=1) rfl rfl (show (["label","row"]:List Str).Nodup by decide +kernel) rfl rfl rfl rfl)) (fun _ _ _=>Yl) (fun _ _ _=>(pv 1))) (Qa (pv 2) Qe))))))),?_⟩
 refine ⟨_,rfl,fun p dx fp fdx ndx=>?_⟩
 dsimp only [tNil]
 have s1:Same H (upd (upd H dx (.own p)) p (.ins C dx [])):=(Qc fdx _).trans (Qc (by rw [Qi ndx.symm];exact fp) _)
 have hp1:upd (upd H dx (.own p)) p (.ins C dx []) p=some (.ins C dx []):=upd_same
 generalize upd (upd H dx (.own p)) p (.ins C dx [])=H1 at s1 hp1 ⊢
 refine ⟨p,d,dx,n,us,B,rfl,hp1,s1 _ _ hd,hB.same s1,bk,fun H2 hFc fr=>⟨rfl,?_⟩⟩
 have s2:Same H H2:=fun b o e=>fr b o (s1 _ _ e) (Qk e fp)
 obtain ⟨dx2,lw,lb,lh,ls,la,ds,fs,kvs,yh,ysS,ya,hF⟩:=id hFc
 refine ⟨_,rfl,p,dx2,fs,rfl,hF.hp,hF.nC,?_⟩
 dsimp only [tNil]
 refine ⟨p,n,B,rfl,hFc,bk,fun a H3 cA=>?_⟩
 have s3:=cA.sm
 have hA:ChsAt K H3 a (chs n B):=let ⟨ys,h1,h2⟩:=cA.ex;⟨⟨ys,Qb h1,h2⟩,Qaj bk⟩
 obtain ⟨vs,hv,_⟩:=hA.ex
 refine ⟨a,rfl,⟨_,hv⟩,fun D hD=>Qah (f:=prcC B) (cs:=[some (.ref p)]) rfl hA hD (fun ch t H4 hc s4 ht Pq k=>?_) (fun H4 s4 hD4=>?_)⟩
 ·obtain ⟨l,cc,hw,b0,b1⟩:=Qai hc
  have n12:=bk.n12
  obtain ⟨z1,z2⟩:=Qll bk ch.1
  refine ⟨_,rfl,p,dx2,fs,rfl,s4 _ _ (s3 _ _ hF.hp),hF.nP,_,rfl,p,t,n,B,ch.1,ch.2.1,ch.2.2,l,cc,rfl,hFc.same (s3.trans s4),bk.wb,ht,hw,b0,by omega,z1,z2,fun H5 s5=>?_⟩
  have:=k H5 s5
  unfold prcC at this
  rw [Qhb bk.wb hw] at this
  exact this
 refine ⟨D,_,rfl,.inl ⟨Qb hD4,fun tc htc=>?_⟩⟩
 have s5:=s2.trans (s3.trans (s4.trans (Qc htc (.tup (((chs n B).map (prcC B)).map V.int)))))
 have hc5:SqT K (upd H4 tc (.tup (((chs n B).map (prcC B)).map V.int))) tc (((chs n B).map (prcC B)).map V.int):=Qu upd_same
 generalize upd H4 tc (.tup (((chs n B).map (prcC B)).map V.int))=H5 at s5 hc5 ⊢
 refine ⟨_,rfl,d,n,us,B,rfl,s5 _ _ hd,hB.same s5,bk,fun g H6 i6=>?_⟩
 obtain ⟨y6,h6,r6⟩:=i6.ex
 have l6:=Paired.length r6
 refine ⟨g,rfl,⟨_,Qb h6⟩,fun D2 hD2=>?_⟩
 let Pv29:Nat->St->List V->Hp->Prop:=fun i τ ys H7=>∃ u v:Option V,τ=[u,v]/\RowsAre K H7 ys (((labs n B).take i).map (·.2))/\H7 D2=some (.lst ys)/\Same H6 H7
 refine Ym (n:=(labs n B).length) Pv29 ?_ (fun i τ ys H7 hi h=>?_) (fun i τ ys H7 hi h=>?_) (fun τ ys H7 h=>?_) ?_ ?_
 ·exact ⟨none,none,rfl,.nil,upd_same,Qc hD2 _⟩
 ·obtain ⟨u,v,rfl,hR,hE,sv⟩:=h
  have:=Paired.length hR
  rw [jX,zK] at this
  exact ⟨hE,by omega⟩
 ·obtain ⟨u,v,rfl,hR,hE,sv⟩:=h
  exact ⟨y6,_,Qb (sv _ _ h6),gE (by omega)⟩
 ·obtain ⟨u,v,rfl,hR,hE,sv⟩:=h
  exact ⟨y6,Qb (sv _ _ h6),by omega⟩
 ·rintro i τ ys H7 x H8 hi ⟨u,v,rfl,hR,hE,sv⟩ ⟨rfl,e1⟩
  obtain ⟨lb,el,t,a1,b1,rfl,z1,z2,z3⟩:=Qr r6 (e1 _ (Qb (sv _ _ h6)))
  refine ⟨t,_,rfl,sv.tup z1,rfl,_,_,rfl,_,_,rfl,rfl,_,rfl,hE,_,_,rfl,?_,upd_same,Xv sv hD2⟩
  rw [Ze el,kJ]
  have up:∀ {t r},RowAt K H8 t r->RowAt K (upd H8 D2 (.lst (ys ++ [.ref b1]))) t r:=fun ⟨p,q1,q2⟩=>⟨p,Xc hE q1,Xc hE q2⟩
  exact Paired.snoc (Paired.mapP hR fun _ _ ⟨t,e,z⟩=>⟨t,e,up z⟩) ⟨b1,rfl,up (z3.same sv)⟩
 rintro τ ys H7 ⟨u,v,rfl,hR,hE,sv⟩
 rw [kW] at hR
 refine ⟨_,rfl,by show 2<=sizeLine;decide,fun t ht=>?_⟩
 have st:=Qc ht (.tup [.ref D2,.ref tc])
 have sA:=s5.trans (i6.sm.trans (sv.trans st))
 refine q t D2 tc ys _ sA (Qu upd_same) ((s5.trans i6.sm).free hD2) (st _ _ hE) (Paired.mapP hR fun _ _ ⟨t,e,z⟩=>⟨t,e,z.same st⟩) ((i6.sm.trans (sv.trans st)).tup hc5)
end
end Nb
namespace L2
open PySem PySem.Spec PyProof.Rows PySem.SeqAt
section
variable {X:Cx}
theorem Qnw {tg a:Expr} {td:TE} (ha:PE X a td):PI X tg a (iKeys (NF X) td):=by
 intro pins s σ H R I h
 refine thn (ha pins s σ H _ I h) fun v s1 hqP=>?_
 obtain ⟨x,H1,I1,r1,q1⟩:=hqP
 obtain ⟨d,kvs,e,hd,q⟩:=q1
 subst e
 obtain rfl:v=Value.ref d:=r1
 have nf:=I1.nf hd
 obtain ⟨o,ho,I2⟩:=I1.freeze hd
 obtain ⟨z,hd',vs,rel,dd⟩:=Qan I1.hok hd
 obtain ⟨o',es',ep,h1,h2,h3,h4⟩:=id dd
 rw [ho] at h1
 cases h1
 obtain ⟨vs',rel',da⟩:=Qkw I2.hok upd_same h3
 have lr:=rel'.length
 refine wpAny_pyIter_dict hd' da ?_
 have I4:Inv X pins σ (upd H1 d (.frz o (.dK kvs))) { s1 with heap:=s1.heap.push { cls:=.type "dict_keyiterator",data:=.fields #[.ref d,.int 0 0,.int vs'.length 0,.int ep 0] } }:=I2.kept (t':=s1.toks) fun b o z=>jW _ z
 refine ⟨s1.heap.objs.size,[s1.heap.objs.size],_,Itk d o kvs,_,rfl,I4,Qle,⟨es',ep,h3,?_⟩,fun c hc=>?_,q nf o⟩
 ·rw [lr]
  exact ⟨_,yK _ rfl,rfl,rfl⟩
 ·simp only [yX,wZ,or_false] at hc
  subst hc
  exact I2.fpOk (jK _) (I2.hok.fresh (jK _))
end
theorem Qnx {d:Addr} {o:Obj} {kvs:List (Key × V)} {g:TG} {tb:TS} {D:Ends} {σ:St} {H:Hp} (Pv:Nat->St->Hp->Prop) (h0:Pv 0 σ H) (hl:∀ i σ H,i<=kvs.length->Pv i σ H->H d=some (.frz o (.dK kvs)))
  (hs:∀ i k x σ H,kvs[i]?=some (k,x)->Pv i σ H->g (kV k) σ H fun σ2 H2=>tb { D with nx:=Pv (i + 1),ct:=Pv (i + 1),bk:=D.nx } σ2 H2) (hd:∀ σ H,Pv kvs.length σ H->D.nx σ H) :
  ∃ W:Nat->Nat->St->Hp->Prop,(∃ m,W 0 m σ H)/\∀ i n σ H,W i n σ H ->
   ((Itk d o kvs).stop i H/\D.nx σ H)\/((Itk d o kvs).go i H/\∃ N:St->Hp->Prop,(∀ σ' H',N σ' H'->∃ m',m' < n/\W (i + 1) m' σ' H')/\∀ x H',(Itk d o kvs).yld i H x H'->g x σ H' fun σ2 H2=>tb { D with nx:=N,ct:=N,bk:=D.nx } σ2 H2):=by
 refine ⟨fun i n σ H=>n=kvs.length - i/\i<=kvs.length/\Pv i σ H,⟨_,rfl,jXe _,h0⟩,?_⟩
 rintro i n σ H ⟨rfl,hi,p⟩
 have q1:=hl i σ H hi p
 by_cases hlt:i < kvs.length
 ·refine .inr ⟨⟨q1,hlt⟩,Pv (i + 1),fun σ' H' p'=>⟨kvs.length - (i + 1),by omega,rfl,hlt,p'⟩,fun x H' y=>?_⟩
  obtain ⟨k,u,rfl,rfl,y1⟩:=y
  exact hs i k u σ H' y1 p
 ·have e:i=kvs.length:=by omega
  subst e
  exact .inl ⟨⟨q1,jK _⟩,hd σ H p⟩
end L2
namespace Nb
open PySem L2
structure BkAt (H:Hp) (d:Addr) (n:Int) (B:List BR):Prop where
 ex:∃ us,H d=some (.lst us)/\RowsB H us B
 bk:BookOk n B
theorem BkAt.same {H H':Hp} (s:Same H H') {d:Addr} {n:Int} {B:List BR} (h:BkAt H d n B):BkAt H' d n B:=⟨let ⟨us,h1,h2⟩:=h.ex;⟨us,s _ _ h1,h2.same s⟩,h.bk⟩
theorem BkAt.days {H:Hp} {d:Addr} {n:Int} {B:List BR} (h:BkAt H d n B):∃ us l0,H d=some (.lst us)/\RowsB H us B/\atI us 0=some (.ref l0)/\H l0=some (.lst ((BR.days n).cells.map kV)):=by
 obtain ⟨us,h1,h2⟩:=h.ex
 have lu:=h2.length
 obtain ⟨u0,eu0⟩:∃ u0,us[0]?=some u0:=⟨_,gE (by
  rw [lu]
  exact (kK.mp h.bk.hd).1)⟩
 obtain ⟨r0,ld,er0,rfl,hr0⟩:=h2.get eu0
 rw [h.bk.hd] at er0
 cases er0
 exact ⟨us,ld,h1,h2,Qka (k:=0) eu0,hr0⟩
theorem Qfr (n:Int):atI ((BR.days n).cells.map kV) 1=some (.int n):=rfl
def WyV (K:Fg) (H:Hp) (v:V) (x:Str × Int × Int):Prop:=∃ t,v=.ref t/\SqT K H t [.str x.1,.int x.2.1,.int x.2.2]
theorem cut1c (a b c:V):cutV [a,b,c] (some 1) none=[b,c]:=by
 unfold cutV
 rfl
theorem at_way {w v:Str} {l c:Int}:atI ((BR.way w v l c).cells.map kV) 1=some (.str w)/\atI ((BR.way w v l c).cells.map kV) 2=some (.str v)/\atI ((BR.way w v l c).cells.map kV) 3=some (.int l)/\atI ((BR.way w v l c).cells.map kV) 4=some (.int c):=⟨rfl,rfl,rfl,rfl⟩
theorem Qrk {w:Str} {r:BR} (h:r.word ≠ "way"):wayR w r=none:=by
 cases r with
 | way w' v l c=>exact absurd rfl h
 | _=>rfl
theorem Qrl {w w' v:Str} {l c:Int} (h:w' ≠ w):wayR w (.way w' v l c)=none:=if_neg h
theorem Qrm {w v:Str} {l c:Int}:wayR w (.way w v l c)=some (v,l,c):=if_pos rfl
abbrev sWys:Stmt:=top 41
def Qny (K:Fg):Sp:=fun vs H Q _=>∃ (d:Addr) (w:Str) (n:Int) (B:List BR),vs=[.ref d,.str w]/\BkAt H d n B/\∀ (D:Addr) (ys:List V) (H':Hp),Same H H'->H D=none->H' D=some (.lst ys)->Paired (WyV K H') ys (B.filterMap (wayR w))->Q (.ref D) H'
section
variable {P:Program} {w:World} {K:Fg} {mg:Str->Option Value} {base:Heap}
theorem scWys:FnScope ["_law_book_here","_law_work"] ["_law_book_here","_law_work"] (Qg sWys):=⟨rfl,rfl,rfl,by decide +kernel,rfl,by decide +kernel,by decide +kernel⟩
theorem okWys (F:Fn K mg "_law_ways" sWys) (M:Mg mg):Cal P w K mg base 1 "_law_ways" ["_law_book_here","_law_work"] (Qny K):=by
 refine Xi F scWys (fun _ _ _ _ _ _=>Zm (fun _ _=>rfl)) (fun vs H Q E h=>?_) (fun f cdv A outer s H vs Q E hr h=>?_)
 ·obtain ⟨d,w,n,B,rfl,_⟩:=h
  rfl
 obtain ⟨d,w,n,B,rfl,hb,q⟩:=h
 have hz:(2000000:Nat) < sizeLine:=by decide
 refine ⟨_,(Qh (Qw (Yr ["_law_row","_law_work"] [none,some 1] rfl (Qt (pv 0)) (fun _ _ _=>(Ql (i:=0) (show (["_law_row","_law_work"]:List Str).Nodup by decide +kernel) rfl (Or.inl rfl) (Or.inr rfl))) (fun _ _ _=>(Zu (PW.pt (Jc (Qn Yb (Qo (Yc (K:=K) rfl) (pv 0) Qd (fun _ _=>rfl)) Xa (Qq _)) (Jf (Qn Yb (Qo (Yc (K:=K) rfl) (pv 0) Qd (fun _ _=>rfl)) (pv 1) (Qq _))))))) (fun _ _ _=>(Xd (Qa (Qo (Yc (K:=K) rfl) (pv 0) Qd (fun _ _=>rfl)) (Qa (Qo (Yc (K:=K) rfl) (pv 0) Qd (fun _ _=>rfl)) (Qa (Qo (Yc (K:=K) rfl) (pv 0) Qd (fun _ _=>rfl)) Qe)))))))),?_⟩
 obtain ⟨us,h1,h2⟩:=hb.ex
 refine ⟨_,rfl,d,rfl,⟨_,Qb h1⟩,fun D hD=>Qdw (f:=wayR w) (WyV K) (fun s ⟨t,e,z⟩=>⟨t,e,s.tup z⟩) (fun hg ⟨t,e,z⟩=>⟨t,e,Xc hg z⟩) (cs:=[some (.str w)]) rfl h1 h2 hb.bk.wb.len hD (fun r lr H1 hm s1 hr P1 P2 k1 k2=>?_) (fun ys H1 s1 hE hR=>q D ys H1 s1 hD hE hR)⟩
 refine ⟨_,rfl,lr,_,_,_,rfl,rfl,Qb hr,Ys r,rfl,_,rfl,ite2 (fun y=>?_) (fun y=>?_)⟩
 ·obtain ⟨w',v,l,c,rfl⟩:=Qgk (eqS y)
  refine ⟨_,rfl,lr,_,_,_,rfl,rfl,Qb hr,at_way.1,_,rfl,rfl,_,rfl,ite2 (fun y2=>?_) (fun y2=>?_)⟩
  ·have e:=eqS y2
   subst e
   refine ⟨_,rfl,lr,_,_,_,rfl,rfl,Qb hr,at_way.2.1,_,rfl,lr,_,_,_,rfl,rfl,Qb hr,at_way.2.2.1,_,rfl,lr,_,_,_,rfl,rfl,Qb hr,at_way.2.2.2,by show 3<=sizeLine;decide,fun t ht=>?_⟩
   exact k1 _ _ _ Qrm (Qc ht _) ⟨t,rfl,Qu upd_same⟩
  ·exact k2 (Qrl fun e=>y2 (by rw [e];exact yesS _)) H1 (Same.refl _)
 ·exact k2 (Qrk fun e=>y (by rw [e];exact yesS _)) H1 (Same.refl _)
abbrev Qlm:Stmt:=top 44
theorem Qph {f:Str × Int × Int->Option Int} {K:Fg} {H:Hp} {a D:Addr} {vs:List V} {xs:List (Str × Int × Int)} {cs τ0:St} {tt:TT} {te:TE} {Q:Addr->Hp->Prop} (hτ:τ0=none :: none :: none :: cs) (h1:H a=some (.lst vs)) (h2:Paired (WyV K H) vs xs) (bl:xs.length<=400) (hD:H D=none)
  (hs:∀ x ∈ xs,∀ (H1:Hp),Same H H1->∀ (P1:V->Hp->Prop) (P2:Hp->Prop),(∀ z H2,f x=some z->Same H1 H2->P1 (.int z) H2)->(f x=none->∀ H2,Same H1 H2->P2 H2) ->
   tt (some (.str x.1) :: some (.int x.2.1) :: some (.int x.2.2) :: cs) H1 fun ok H3=>if ok=true then te (some (.str x.1) :: some (.int x.2.1) :: some (.int x.2.2) :: cs) H3 P1 else P2 H3)
  (hd:∀ H1,Same H H1->H1 D=some (.lst ((xs.filterMap f).map V.int))->Q D H1) :
  LcW (Itl K a) D τ0 H (gTrip K 0 1 2) tt te Q:=by
 subst hτ
 have lu:=Paired.length h2
 have hz:(20000:Nat) < sizeLine:=by decide
 let Pv30:Nat->St->List V->Hp->Prop:=fun i τ ys H1=>∃ u v w:Option V,τ=u :: v :: w :: cs/\ys=((xs.take i).filterMap f).map V.int/\ys.length<=i/\H1 D=some (.lst ys)/\Same H H1
 refine Ym (n:=xs.length) Pv30 ?_ (fun i τ ys H1 hi h=>?_) (fun i τ ys H1 hi h=>?_) (fun τ ys H1 h=>?_) ?_ ?_
 ·exact ⟨none,none,none,rfl,rfl,jK _,upd_same,Qc hD _⟩
 ·obtain ⟨u,v,w,rfl,hR,hl,hE,sv⟩:=h
  exact ⟨hE,by omega⟩
 ·obtain ⟨u,v,w,rfl,hR,hl,hE,sv⟩:=h
  exact ⟨vs,_,Qb (sv _ _ h1),gE (by omega)⟩
 ·obtain ⟨u,v,w,rfl,hR,hl,hE,sv⟩:=h
  exact ⟨vs,Qb (sv _ _ h1),by omega⟩
 ·rintro i τ ys H1 x H2 hi ⟨u,v,w,rfl,hR,hl,hE,sv⟩ ⟨rfl,e1⟩
  obtain ⟨x,er,t,rfl,ht⟩:=Qr h2 (e1 _ (Qb (sv _ _ h1)))
  refine ⟨t,_,rfl,sv.tup ht,rfl,_,_,rfl,_,_,rfl,_,_,rfl,rfl,?_⟩
  refine hs x (kX er) _ sv _ _ (fun z H3 e s3=>⟨s3 _ _ hE,_,_,_,rfl,?_,by rw [jY];exact wJ hl,upd_same,Xv (sv.trans s3) hD⟩) (fun e H3 s3=>⟨_,_,_,rfl,?_,by omega,s3 _ _ hE,sv.trans s3⟩)
  ·rw [Yd f er,e,kJ,hR];rfl
  ·rw [Yd f er,e,jJd,zZ];exact hR
 ·rintro τ ys H1 ⟨u,v,w,rfl,hR,hl,hE,sv⟩
  rw [kW] at hR
  subst hR
  exact hd H1 sv hE
def pkL (v:Str) (x:Str × Int × Int):Option Int:=if x.1=v then some x.2.1 else none
def pkC (v:Str) (x:Str × Int × Int):Option Int:=if x.1=v then some x.2.2 else none
theorem Qhc {xs:List Int} {a:Int} (h:∀ x ∈ xs,x=a) (hm:a ∈ xs):atI (xs.map V.int) 0=some (.int a):=by
 cases xs with
 | nil=>exact nomatch hm
 | cons x xs=>rw [h x (kZ ..)];exact Qka (k:=0) rfl
theorem Qln {n:Int} {B:List BR} (wb:WB n B) {w v:Str} {l c:Int} (h:BR.way w v l c ∈ B):atI (((B.filterMap (wayR w)).filterMap (pkL v)).map V.int) 0=some (.int l)/\atI (((B.filterMap (wayR w)).filterMap (pkC v)).map V.int) 0=some (.int c):=by
 have hm:(v,l,c) ∈ B.filterMap (wayR w):=yJ.mpr ⟨_,h,wayR_some.mpr rfl⟩
 have all:∀ x ∈ B.filterMap (wayR w),x.1=v->x.2.1=l/\x.2.2=c:=fun x hx e=>by
  obtain ⟨r,hr,er⟩:=yJ.mp hx
  rw [wayR_some,e] at er
  subst er
  exact wb.way1 hr h
 refine ⟨Qhc (fun z hz=>?_) (yJ.mpr ⟨_,hm,if_pos rfl⟩),Qhc (fun z hz=>?_) (yJ.mpr ⟨_,hm,if_pos rfl⟩)⟩
 ·obtain ⟨x,hx,e⟩:=yJ.mp hz
  unfold pkL at e
  split at e
  ·rename_i e2
   cases e
   exact (all x hx e2).1
  ·cases e
 ·obtain ⟨x,hx,e⟩:=yJ.mp hz
  unfold pkC at e
  split at e
  ·rename_i e2
   cases e
   exact (all x hx e2).2
  ·cases e
def PlGet (K:Fg) (H:Hp) (P:Addr) (w v:Str) (b:Int):Prop:=∃ t,DGet H P (.str w) (some (.ref t))/\SqT K H t [.str v,.int b]
def Qhd (K:Fg):Sp:=fun vs H Q _=>∃ (d P:Addr) (w v:Str) (b l c n:Int) (B:List BR),vs=[.ref d,.ref P,.str w]/\BkAt H d n B/\PlGet K H P w v b/\BR.way w v l c ∈ B/\∀ (H':Hp),Same H H'->Q (.int (b + l)) H'
theorem scLEnd:FnScope ["_law_book_here","_law_plan","_law_work","_law_way_here","_law_begin"] ["_law_book_here","_law_plan","_law_work"] (Qg Qlm):=⟨rfl,rfl,rfl,by decide +kernel,rfl,by decide +kernel,by decide +kernel⟩
theorem okLEnd (F:Fn K mg "_law_end" Qlm) (M:Mg mg) (cl_ways:Cal P w K mg base 1 "_law_ways" ["_law_book_here","_law_work"] (Qny K)):Cal P w K mg base 2 "_law_end" ["_law_book_here","_law_plan","_law_work"] (Qhd K):=by
 refine Xi F scLEnd (fun _ _ _ _ _ _=>Qii (fun _ _ _=>rfl)) (fun vs H Q E h=>?_) (fun f cdv A outer s H vs Q E hr h=>?_)
 ·obtain ⟨d,P,w,v,b,l,c,n,B,rfl,_⟩:=h
  rfl
 obtain ⟨d,P,w,v,b,l,c,n,B,rfl,hb,hP,hw,q⟩:=h
 have hu:(A.deeper (PyProof.Rows.envOfC "_law_end" (Qg Qlm) s.heap.objs.size f cdv)).units + 1 < cLine:=zV (wQ (by decide) _) hr.un
 have hz:(2000000:Nat) < sizeLine:=by decide
 refine ⟨_,(Qf (ps_asg (Zh hu (pv 1) (pv 2) (fun _ _=>rfl)) (Wg rfl (Xt (Ql (i:=3) scLEnd.nd rfl (Or.inr rfl) (Or.inl rfl)) (Xt (Ql (i:=4) scLEnd.nd rfl (Or.inl rfl) (Or.inl rfl)) Ke))))
  (Qh (Qw (Qj Qs (pv 4) (Qo Qm (Yr ["_law_name_here","_law_length","_law_cost_here","_law_way_here"] [none,none,none,some 3] rfl (Qt (Xj cl_ways (hr.mono (by decide)) (Qa (pv 0) (Qa (pv 2) Qe)))) (fun _ _ _=>(Qbu (K:=K) (i:=0) (j:=1) (l:=2) rfl rfl (show (["_law_name_here","_law_length","_law_cost_here","_law_way_here"]:List Str).Nodup by decide +kernel) rfl rfl rfl rfl rfl rfl)) (fun _ _ _=>(Zu (Qn Yb (pv 0) (pv 3) (Qq _)))) (fun _ _ _=>(pv 1))) Qd (fun _ _=>rfl)))))),?_⟩
 have bl:=hb.bk.wb.len
 have wl:=yV (wayR w) B
 obtain ⟨t,dg,ht⟩:=hP
 refine ⟨_,rfl,_,rfl,P,_,rfl,dg,t,_,rfl,ht,rfl,_,_,rfl,_,_,rfl,rfl,?_⟩
 refine ⟨_,rfl,_,rfl,_,rfl,d,w,n,B,rfl,hb,fun a ys H2 s2 _ ha hW=>?_⟩
 refine ⟨a,rfl,⟨_,Qb ha⟩,fun D hD=>Qph (f:=pkL v) (cs:=[some (.str v)]) rfl ha hW (by omega) hD (fun x hx H3 s3 P1 P2 k1 k2=>?_) (fun H3 s3 hE=>?_)⟩
 ·refine ⟨_,rfl,_,rfl,rfl,_,rfl,ite2 (fun y=>?_) (fun y=>?_)⟩
  ·exact ⟨_,rfl,k1 _ _ (if_pos (eqS y)) (Same.refl _)⟩
  ·exact k2 (if_neg fun e=>y (by rw [e];exact yesS _)) _ (Same.refl _)
 ·exact ⟨D,_,_,_,rfl,rfl,Qb hE,(Qln hb.bk.wb hw).1,_,_,rfl,rfl,q _ (s2.trans s3)⟩
abbrev sChs:Stmt:=top 42
theorem ch_put {K:Fg} {H0 H:Hp} {g t:Addr} {A:List Ch} {c:Ch} (h:ChI K H0 H g A) (ht:H t=none) (hl:A.length<=2000000):∃ ys,upd H t (.tup [.str c.1,.str c.2.1,.int c.2.2]) g=some (.lst ys)/\ys.length < sizeLine/\ChI K H0 (upd (upd H t (.tup [.str c.1,.str c.2.1,.int c.2.2])) g (.lst (ys ++ [.ref t]))) g (A ++ [c]):=by
 obtain ⟨ys,hg,hA⟩:=h.ex
 have s1:=Qc ht (.tup [.str c.1,.str c.2.1,.int c.2.2])
 have hz:(2000000:Nat) < sizeLine:=by decide
 have:=Paired.length hA
 refine ⟨ys,s1 _ _ hg,by omega,h.fr,Xv (h.sm.trans s1) h.fr,_,upd_same,Paired.snoc ((hA.same s1).updL (s1 _ _ hg)) ⟨t,rfl,Xc (s1 _ _ hg) (Qu upd_same)⟩⟩
theorem Qnz {K:Fg} {H H':Hp} (s:Same H H') {ys:List V} {xs:List (Str × Int × Int)} (h:Paired (WyV K H) ys xs):Paired (WyV K H') ys xs:=Paired.mapP h fun _ _ ⟨t,e,z⟩=>⟨t,e,s.tup z⟩
theorem Qrn {K:Fg} {H:Hp} {g:Addr} {as bs:List V} (hg:H g=some (.lst as)) {ys:List V} {xs:List (Str × Int × Int)} (h:Paired (WyV K H) ys xs):Paired (WyV K (upd H g (.lst bs))) ys xs:=Paired.mapP h fun _ _ ⟨t,e,z⟩=>⟨t,e,Xc hg z⟩
def Qro (K:Fg):Sp:=fun vs H Q _=>∃ (d:Addr) (n:Int) (B:List BR),vs=[.ref d]/\BkAt H d n B/\∀ (g:Addr) (H':Hp),ChI K H H' g (chs n B)->Q (.ref g) H'
theorem scChs:FnScope ["_law_book_here","_law_found","_law_row","_law_way_here","_law_length","_law_cost_here","_law_begin"] ["_law_book_here"] (Qg sChs):=⟨rfl,rfl,rfl,by decide +kernel,rfl,by decide +kernel,by decide +kernel⟩
theorem okChs (F:Fn K mg "_law_choices" sChs) (M:Mg mg) (cl_ways:Cal P w K mg base 1 "_law_ways" ["_law_book_here","_law_work"] (Qny K)):Cal P w K mg base 2 "_law_choices" ["_law_book_here"] (Qro K):=by
 refine Xi F scChs (fun _ _ _ _ _ _=>bind1 (fun _=>rfl)) (fun vs H Q E h=>?_) (fun f cdv A outer s H vs Q E hr h=>?_)
 ·obtain ⟨d,n,B,rfl,_⟩:=h
  rfl
 obtain ⟨d,n,B,rfl,hb,q⟩:=h
 have hz:(2000000:Nat) < sizeLine:=by decide
 refine ⟨_,(Qf (Qp (i:=1) scChs.nd rfl (Or.inl rfl) (Xw Qe))
  (Qf (Xe PassesOwn.never rfl (Qt (pv 0)) (Ql (i:=2) scChs.nd rfl (Or.inl rfl) (Or.inl rfl)) (Qh (Yg (Qn Yb (Qo Qm (pv 2) Qd (fun _ _=>rfl)) Xa (Qq _)) (Qh (Xe PassesOwn.never rfl (Qt (Xj cl_ways (hr.mono (by decide)) (Qa (pv 0) (Qa (Qo Qm (pv 2) Qd (fun _ _=>rfl)) Qe)))) (Wg rfl (Xt (Ql (i:=3) scChs.nd rfl (Or.inl rfl) (Or.inl rfl)) (Xt (Ql (i:=4) scChs.nd rfl (Or.inl rfl) (Or.inl rfl)) (Xt (Ql (i:=5) scChs.nd rfl (Or.inl rfl) (Or.inl rfl)) Ke)))) (Qh (Xe PassesOwn.never rfl (Xk rfl M.range_ (Qa (Qj Qs (Qj Kl (Qo Qm (Qo Qm (pv 0) Qd (fun _ _=>rfl)) Qd (fun _ _=>rfl)) (pv 4)) Qd) Qe)) (Ql (i:=6) scChs.nd rfl (Or.inl rfl) (Or.inl rfl)) (Qh (Xm (Zp PySem.F.plainAttrs_list PySem.F.slot_list_append PySem.F.type_list_append Xb (pv 1) (Qa (Xd (Qa (Qo Qm (pv 2) Qd (fun _ _=>rfl)) (Qa (pv 3) (Qa (pv 6) Qe)))) Qe)))))))) Qz)))
  (Qh (Qw (pv 1))))),?_⟩
 obtain ⟨us,l0,h1,h2,a0,hl0⟩:=hb.days
 have lu:=h2.length
 have bk:=hb.bk
 have bl:=bk.wb.len
 have n12:=bk.n12
 refine ⟨by show 0<=sizeLine;decide,fun g hg=>?_⟩
 have c0:ChI K H (upd H g (.lst [])) g []:=⟨hg,Qc hg _,[],upd_same,.nil⟩
 generalize upd H g (.lst [])=H1 at c0 ⊢
 let Pv31:Nat->St->Hp->Prop:=fun i σ H1=>∃ u1 u2 u3 u4 u5:Option V,σ=[some (.ref d),some (.ref g),u1,u2,u3,u4,u5]/\ChI K H H1 g (((B.take i).filterMap Xz).flatMap (chO n B))
 refine ⟨_,rfl,d,rfl,⟨_,Qb (c0.sm _ _ h1)⟩,Xq (xs:=us) Pv31 ⟨none,none,none,none,none,rfl,c0⟩ ?_ ?_ ?_⟩
 ·rintro i σ H1 hi ⟨u1,u2,u3,u4,u5,rfl,c⟩
  exact Qb (c.sm _ _ h1)
 ·rintro i x σ H1 ex ⟨u1,u2,u3,u4,u5,rfl,c⟩
  obtain ⟨r,lr,er,rfl,hr0⟩:=h2.get ex
  have hr:=c.sm _ _ hr0
  refine ⟨_,rfl,lr,_,_,_,rfl,rfl,Qb hr,Ys r,rfl,_,rfl,ite2 (fun y=>?_) (fun y=>?_)⟩
  ·obtain ⟨w,rfl⟩:=Kt (eqS y)
   have aw:atI ((BR.work w).cells.map kV) 1=some (.str w):=rfl
   refine ⟨_,rfl,_,rfl,lr,_,_,_,rfl,rfl,Qb hr,aw,d,w,n,B,rfl,hb.same c.sm,fun D ys H2 s2 nD hD hW=>?_⟩
   have c2:=c.same s2
   have ngD:D ≠ g:=fun e=>by
    obtain ⟨zs,hz1,_⟩:=c.ex
    rw [e,hz1] at nD;cases nD
   let Pv32:Nat->St->Hp->Prop:=fun j σ H3=>∃ u2 u3 u4 u5:Option V,σ=[some (.ref d),some (.ref g),some (.ref lr),u2,u3,u4,u5]/\ChI K H H3 g (((B.take i).filterMap Xz).flatMap (chO n B) ++ ((B.filterMap (wayR w)).take j).flatMap (chW n w))/\H3 D=some (.lst ys)/\Paired (WyV K H3) ys (B.filterMap (wayR w))
   refine ⟨D,rfl,⟨_,Qb hD⟩,Xq (xs:=ys) Pv32 ⟨u2,u3,u4,u5,rfl,by rw [List.take_zero,List.flatMap_nil,zZ];exact c2,hD,hW⟩ ?_ ?_ ?_⟩
   ·rintro j σ H3 hj ⟨u2,u3,u4,u5,rfl,c3,hD3,hW3⟩
    exact Qb hD3
   ·rintro j x σ H3 ex3 ⟨u2,u3,u4,u5,rfl,c3,hD3,hW3⟩
    obtain ⟨⟨v,l,k⟩,ew,t,rfl,ht⟩:=Qr hW3 ex3
    obtain ⟨r',hm,e5⟩:=yJ.mp (kX ew)
    rw [wayR_some] at e5
    subst e5
    have hok:1<=l/\l<=n/\_:=bk.wb.ok _ hm
    have ht':SqT K H3 t [.str v,.int l,.int k]:=ht
    refine ⟨t,_,rfl,ht',rfl,_,_,rfl,_,_,rfl,_,_,rfl,rfl,?_⟩
    let Pv33:Nat->St->Hp->Prop:=fun m σ H4=>∃ u5:Option V,σ=[some (.ref d),some (.ref g),some (.ref lr),some (.str v),some (.int l),some (.int k),u5]/\ChI K H H4 g (((B.take i).filterMap Xz).flatMap (chO n B) ++ ((B.filterMap (wayR w)).take j).flatMap (chW n w) ++ (List.range m).map fun b:Nat=>(w,v,(b:Int)))/\H4 D=some (.lst ys)/\Paired (WyV K H4) ys (B.filterMap (wayR w))
    refine ⟨_,rfl,d,_,_,_,rfl,rfl,Qb (c3.sm _ _ h1),a0,l0,_,_,_,rfl,rfl,Qb (c3.sm _ _ hl0),Qfr n,_,rfl,_,_,rfl,rfl,_,_,rfl,rfl,_,rfl,by omega,by omega,Xs (lo:=0) (n:=(n - l + 1).toNat) Pv33 ⟨u5,rfl,by rw [kZf,jJb,zZ];exact c3,hD3,hW3⟩ ?_ ?_⟩
    ·rintro m σ H4 hm4 ⟨u5,rfl,c4,hD4,hW4⟩
     rw [day0]
     obtain ⟨y4,hy4,_⟩:=c4.ex
     refine ⟨_,rfl,.inl ⟨rfl,_,Qb hy4⟩,_,rfl,lr,_,_,_,rfl,rfl,Qb (c4.sm _ _ hr0),aw,_,rfl,_,rfl,by show 3<=sizeLine;decide,fun t4 ht4=>?_⟩
     obtain ⟨y5,hy5,hl5,c5⟩:=ch_put (c:=(w,v,(m:Int))) c4 ht4 (by
      rw [jY,jY,jX,jYf]
      have a1:=Xr (l:=(B.take i).filterMap Xz) (f:=chO n B) (m:=4800) fun w _=>Qfn bk w
      have a2:=Xr (l:=(B.filterMap (wayR w)).take j) (f:=chW n w) (m:=12) fun x hx=>Qck bk x (jKb hx)
      have a3:=yV Xz (B.take i)
      have a4:=yV (wayR w) B
      rw [zK] at a2 a3
      omega)
     have s5:=Qc ht4 (.tup [.str w,.str v,.int (m:Int)])
     refine ⟨_,_,_,rfl,rfl,hy5,hl5,_,rfl,?_,?_,Qrn hy5 (Qnz s5 hW4)⟩
     ·rw [jKa,kJ,← xV]
      exact c5
     ·rw [Qi ngD]
      exact s5 _ _ hD4
    ·rintro σ H4 ⟨u5,rfl,c4,hD4,hW4⟩
     refine ⟨_,_,_,_,rfl,?_,hD4,hW4⟩
     rw [Yo (chW n w) ew,← xV]
     exact c4
   ·rintro σ H3 ⟨u2,u3,u4,u5,rfl,c3,hD3,hW3⟩
    refine ⟨_,_,_,_,_,rfl,?_⟩
    rw [Paired.length hW,kW] at c3
    rw [Yd Xz er,show Xz (.work w)=some w from rfl,jKe]
    simpa [chO] using c3
  ·refine ⟨_,_,_,_,_,rfl,?_⟩
   rw [Yd Xz er,Kv (fun e=>y (by rw [e];exact yesS _)),jJd,zZ]
   exact c
 ·rintro σ H1 ⟨u1,u2,u3,u4,u5,rfl,c⟩
  rw [lu,kW] at c
  exact ⟨_,rfl,q g H1 c⟩
abbrev Qee:Stmt:=top 21
def Zz (K:Fg) (H:Hp) (pl:List (Str × Str × Int)):List V->List Str->Prop:=Paired fun v w=>∃ t,v=.ref t/\SqT K H t [.str w,.str (look pl w).1,.int (look pl w).2]
def Qfs (K:Fg) (C:Addr):Sp:=fun vs H Q _=>∃ (p P:Addr) (n:Int) (B:List BR) (pl:List (Str × Str × Int)),vs=[.ref p,.ref P]/\FcAt K C H p n B/\BookOk n B/\PlanAt K H P pl/\PlanFor n B pl/\B.flatMap (gW pl)=[]/\∀ (D:Addr) (ys:List V) (H':Hp),Same H H'->H' D=some (.lst ys)->Zz K H' pl ys (wks B)->Q (.ref D) H'
theorem pl_all {n:Int} {B:List BR} {pl:List (Str × Str × Int)} (hpf:PlanFor n B pl) (wb:WB n B) (hW:B.flatMap (gW pl)=[]):pl.Perm ((wks B).map fun w=>(w,look pl w)):=by
 have nd:=hpf.nd wb
 have e2:pl=(pl.map (·.1)).map fun w=>(w,look pl w):=by
  rw [jKc]
  refine (List.map_id pl).symm.trans (wK fun p hp=>?_)
  obtain ⟨w,v,b⟩:=p
  show (w,v,b)=(w,look pl w)
  rw [Vh nd hp]
 have e3:(pl.map (·.1)).Perm (wks B):=by
  rw [hpf.keys]
 have h4:=e3.map fun w=>(w,look pl w)
 rwa [← e2] at h4
theorem Qrp {a b:List Int} (h:a.Perm b):a.sum=b.sum:=by
 induction h with
 | nil=>rfl
 | cons x _ ih=>rw [xX,xX,ih]
 | swap x y l=>rw [xX,xX,xX,xX];omega
 | trans _ _ i j=>exact i.trans j
theorem Qlo {n:Int} {B:List BR} {pl:List (Str × Str × Int)} (hpf:PlanFor n B pl) (wb:WB n B) (hW:B.flatMap (gW pl)=[]) (f:Str × Str × Int->Int):(pl.map f).sum=((wks B).map fun w=>f (w,look pl w)).sum:=by
 have h:=Qrp ((pl_all hpf wb hW).map f)
 rw [jKc] at h
 exact h
theorem Qrq:FnScope ["facts","plan"] ["facts","plan"] (Qg Qee):=⟨rfl,rfl,rfl,by decide +kernel,rfl,by decide +kernel,by decide +kernel⟩
theorem Qrr {C:Addr} (F:Fn K mg "choices_taken" Qee) (T:FcTxt K mg C):Cal P w K mg base 1 "choices_taken" ["facts","plan"] (Qfs K C):=by
 refine Xi F Qrq (fun _ _ _ _ _ _=>Zm (fun _ _=>rfl)) (fun vs H Q E h=>?_) (fun f cdv A outer s H vs Q E hr h=>?_)
 ·obtain ⟨p,P,n,B,pl,rfl,_⟩:=h
  rfl
 obtain ⟨p,P,n,B,pl,rfl,hFc,bk,hP,hpf,hW,q⟩:=h
 obtain ⟨dx,lw,lb,lh,ls,la,ds,fs,kvs,yh,ysS,ya,hF⟩:=id hFc
 have hp:=hF.hp
 have lkW:=hF.fW
 have hlw:=hF.hW
 have hz:(20000:Nat) < sizeLine:=by decide
 have hu:(A.deeper (PyProof.Rows.envOfC "choices_taken" (Qg Qee) s.heap.objs.size f cdv)).units + 1 < cLine:=zV (wQ (by decide) _) hr.un
 have bl:=bk.wb.len
 have wl:(wks B).length<=B.length:=yV _ _
 have nd:=hpf.nd bk.wb
 refine ⟨_,(Qh (Qw (Yr ["work","plan"] [none,some 1] rfl (Qt (Yi (pv 0) rfl)) (fun _ _ _=>(Ql (i:=0) (show (["work","plan"]:List Str).Nodup by decide +kernel) rfl (Or.inl rfl) (Or.inr rfl))) (fun _ _ _=>Yl) (fun _ _ _=>(Qj (Qmw (K:=K) rfl) (Xd (Qa (pv 0) Qe)) (Zh hu (pv 1) (pv 0) (fun _ _=>rfl))))))),?_⟩
 refine ⟨_,rfl,p,C,dx,fs,_,rfl,hp,T.cl,T.nW,lkW,lw,rfl,⟨_,Qb hlw⟩,fun D hD=>?_⟩
 let Pv34:Nat->St->List V->Hp->Prop:=fun m τ ys H1=>∃ v:Option V,τ=[v,some (.ref P)]/\Zz K H1 pl ys ((wks B).take m)/\ys.length<=m/\H1 D=some (.lst ys)/\Same H H1
 refine Ym (n:=(wks B).length) Pv34 ?_ (fun m τ ys H1 hm h=>?_) (fun m τ ys H1 hm h=>?_) (fun τ ys H1 h=>?_) ?_ ?_
 ·exact ⟨none,rfl,.nil,jK _,upd_same,Qc hD _⟩
 ·obtain ⟨v,rfl,hY,hl,hE,s1⟩:=h
  exact ⟨hE,by omega⟩
 ·obtain ⟨v,rfl,hY,hl,hE,s1⟩:=h
  exact ⟨_,.str (wks B)[m],s1.seq (Qb hlw),by rw [yY,gE hm];rfl⟩
 ·obtain ⟨v,rfl,hY,hl,hE,s1⟩:=h
  exact ⟨_,s1.seq (Qb hlw),by rw [jX];exact jK _⟩
 ·rintro m τ ys H1 x H2 hm ⟨v,rfl,hY,hl,hE,s1⟩ ⟨rfl,e1⟩
  have ew:(wks B)[m]?=some (wks B)[m]:=gE hm
  have ex:=e1 _ (s1.seq (Qb hlw))
  rw [yY,ew] at ex
  cases ex
  generalize (wks B)[m]=wk at ew
  obtain ⟨l,c,hmem,_⟩:=hpf.get bk.wb (Jy hW (wks_mem.mp (kX ew)))
  refine ⟨_,rfl,by show 1<=sizeLine;decide,fun t1 ht1=>?_⟩
  have s2:=Qc ht1 (.tup [.str wk])
  obtain ⟨t,dg,hT⟩:=Qng (PlanAt.same hP (s1.trans s2)) nd hmem
  refine ⟨_,rfl,_,rfl,P,_,rfl,dg,t1,t,_,_,rfl,rfl,Qu upd_same,hT,by simp,by show 3<=sizeLine;decide,fun p3 H3 s3 hT3=>?_⟩
  have s23:=s2.trans s3
  have hE3:=s23 _ _ hE
  refine ⟨hE3,_,rfl,?_,by rw [jY];exact wJ hl,upd_same,fun b o e=>?_⟩
  ·rw [Ze ew]
   exact Paired.snoc (Paired.mapP hY fun _ _ ⟨t,e,z⟩=>⟨t,e,Xc hE3 (s23.tup z)⟩) ⟨p3,rfl,Xc hE3 hT3⟩
  ·rw [Qi (Qk e hD)];exact s23 _ _ (s1 _ _ e)
 ·rintro τ ys H1 ⟨v,rfl,hY,hl,hE,s1⟩
  rw [kW] at hY
  exact q D ys H1 s1 hE hY
abbrev sWR:Stmt:=top 25
def TupK (H:Hp):List V->List (List Key)->Prop:=Paired fun v ks=>∃ t,v=.ref t/\H t=some (.tup (ks.map kV))
theorem TupK.same {H H':Hp} {vs:List V} {kss:List (List Key)} (h:TupK H vs kss) (s:Same H H'):TupK H' vs kss:=Paired.mapP h fun _ _ ⟨t,e,z⟩=>⟨t,e,s _ _ z⟩
theorem TupK.updL {H:Hp} {W:Addr} {xs zs:List V} {vs:List V} {kss:List (List Key)} (h:TupK H vs kss) (hW:H W=some (.lst xs)):TupK (upd H W (.lst zs)) vs kss:=Paired.mapP h fun _ _ ⟨t,e,z⟩=>⟨t,e,by rw [Qi (Yp z hW (by intro q;cases q))];exact z⟩
def benchP:BR->Option (Str × Int)
 | .bench b r=>some (b,r)
 | _=>none
def bnP (B:List BR):List (Str × Int):=B.filterMap benchP
theorem bns_eq (B:List BR):bns B=(bnP B).map (·.1):=by
 unfold bns bnP
 rw [List.map_filterMap]
 congr 1
 funext r
 cases r <;> rfl
theorem Qrs {B:List BR} {b:Str} {r:Int} (h:(b,r) ∈ bnP B):BR.bench b r ∈ B:=by
 obtain ⟨q,hq,e⟩:=yJ.mp h
 cases q with
 | bench b' r'=>cases e;exact hq
 | _=>cases e
theorem fm_fm {α β γ:Type} {g:α->List γ} {f:α->Option β} {h:β->List γ} (e:∀ a,g a=match f a with | none=>[] | some b=>h b):∀ L:List α,L.flatMap g=(L.filterMap f).flatMap h
 | []=>rfl
 | a :: L=>by
  rw [wW,fm_fm e L,e a,jQa]
  cases f a with
  | none=>rfl
  | some b=>rw [wW]
def hR (n:Int) (B:List BR) (pl:List (Str × Str × Int)) (q:Str × Int):List (List Key):=(Jm (fun day=>Qao B pl q.1 q.2 day < 0) n.toNat).map fun d:Nat=>[Sum.inr ("room":Str),Sum.inr q.1,Sum.inl (d:Int)]
theorem gR_eq (n:Int) (B:List BR) (pl:List (Str × Str × Int)):B.flatMap (gR n B pl)=(bnP B).flatMap (hR n B pl):=fm_fm (fun a=>by cases a <;> rfl) B
theorem Ju {f:Int->Prop} [DecidablePred f] (j:Nat):Jm f (j + 1)=Jm f j ++ (if f j then [j] else []):=by
 unfold Jm
 rw [jKa,wX]
 congr 1
 by_cases e:f j
 ·rw [if_pos e];simp [jXd,e]
 ·rw [if_neg e];simp [jXd,e]
def spWR (K:Fg) (C:Addr):Sp:=fun vs H Q _=>∃ (p tk:Addr) (n:Int) (B:List BR) (pl:List (Str × Str × Int)) (ys:List V),vs=[.ref p,.ref tk]/\FcAt K C H p n B/\BookOk n B/\PlanFor n B pl/\B.flatMap (gW pl)=[]/\H tk=some (.lst ys)/\Zz K H pl ys (wks B)/\∀ (D:Addr) (xs:List V) (H':Hp),Same H H'->H' D=some (.lst xs)->xs.length<=5000->TupK H' xs (B.flatMap (gR n B pl))->Q (.ref D) H'
theorem scWR:FnScope ["facts","taken","wrong","bench","day"] ["facts","taken"] (Qg sWR):=⟨rfl,rfl,rfl,by decide +kernel,rfl,by decide +kernel,by decide +kernel⟩
theorem okWR {C fU fR:Addr} {fdU fdR:FuncData} (F:Fn K mg "wrong_rooms" sWR) (M:Mg mg) (T:FcTxt K mg C) (GU:FnOk P w K mg base CX0 2 fU fdU ["self","choice","bench","day"] (Qfj K C)) (bU:Binds K fdU ["self","choice","bench","day"] []) (mU:Meth K C "used_by" fU) (GR:FnOk P w K mg base CX0 1 fR fdR ["self","bench","day"] (Qfl K C)) (bR:Binds K fdR ["self","bench","day"] []) (mR:Meth K C "room_of" fR):Cal P w K mg base 4 "wrong_rooms" ["facts","taken"] (spWR K C):=by
 refine Xi F scWR (fun _ _ _ _ _ _=>Zm (fun _ _=>rfl)) (fun vs H Q E h=>?_) (fun f cdv A outer s H vs Q E hr h=>?_)
 ·obtain ⟨p,tk,n,B,pl,ys,rfl,_⟩:=h
  rfl
 obtain ⟨p,tk,n,B,pl,ys,rfl,hFc,bk,hpf,hW,htk,hTk,q⟩:=h
 obtain ⟨dx,lw,lb,lh,ls,la,ds,fs,kvs,yh,ysS,ya,hF⟩:=id hFc
 have hz:(20000:Nat) < sizeLine:=by decide
 have bl:=bk.wb.len
 have n1:=bk.n1
 have n12:=bk.n12
 have lT:=Paired.length hTk
 have wl:(wks B).length<=B.length:=yV _ _
 have pl1:(bnP B).length<=B.length:=yV _ _
 have hlb:H lb=some (.lst (((bnP B).map (·.1)).map V.str)):=by rw [← bns_eq];exact hF.hB
 refine ⟨_,(Qf (Qp (i:=2) scWR.nd rfl (Or.inl rfl) (Xw Qe))
  (Qf (Xe PassesOwn.never rfl (Qt (Yi (pv 0) rfl)) (Ql (i:=3) scWR.nd rfl (Or.inr rfl) (Or.inl rfl)) (Qh (Xe PassesOwn.never rfl (Xk rfl M.range_ (Qa (Yi (pv 0) rfl) Qe)) (Ql (i:=4) scWR.nd rfl (Or.inr rfl) (Or.inl rfl))
   (Qh (Yg (Qn Qje (Qy (Ko rfl) rfl M.sum Qgf (Qa (Yr ["choice","facts","bench","day"] [none,some 0,some 3,some 4] rfl (Qt (pv 1)) (fun _ _ _=>(Ql (i:=0) (show (["choice","facts","bench","day"]:List Str).Nodup by decide +kernel) rfl (Or.inl rfl) (Or.inr rfl))) (fun _ _ _=>Yl) (fun _ _ _=>(Yj (pv 1) T.cl mU GU (hr.mono (by decide)) bU .nil Zd (Qa (pv 0) (Qa (pv 2) (Qa (pv 3) Qe)))))) Qe)) (Yj (pv 0) T.cl mR GR (hr.mono (by decide)) bR .nil Zd (Qa (pv 3) (Qa (pv 4) Qe))) (Qq _)) (Qh (Xm (Zp PySem.F.plainAttrs_list PySem.F.slot_list_append PySem.F.type_list_append Xb (pv 2) (Qa (Xd (Qa Xa (Qa (pv 3) (Qa (pv 4) Qe)))) Qe)))) Qz)))))
  (Qh (Qw (pv 2))))),?_⟩
 refine ⟨by show 0<=sizeLine;decide,fun W hW0=>?_⟩
 have s0:=Qc hW0 (.lst [])
 let Pv35:Nat->St->Hp->Prop:=fun i σ H1=>∃ (v3 v4:Option V) (xs:List V),σ=[some (.ref p),some (.ref tk),some (.ref W),v3,v4]/\H1 W=some (.lst xs)/\xs.length<=12 * i/\TupK H1 xs (((bnP B).take i).flatMap (hR n B pl))/\Same H H1
 refine ⟨_,rfl,p,C,dx,fs,_,rfl,s0 _ _ hF.hp,T.cl,T.nB,hF.fB,lb,rfl,⟨_,Qb (s0 _ _ hlb)⟩,Xq (K:=K) (a:=lb) (xs:=((bnP B).map (·.1)).map V.str) Pv35 ⟨none,none,[],rfl,upd_same,jK _,.nil,s0⟩ (fun i σ H1 _ h=>?_) ?_ ?_⟩
 ·obtain ⟨v3,v4,xs,rfl,hx,lx,tx,s1⟩:=h
  exact s1.seq (Qb hlb)
 ·rintro i x σ H1 e1 ⟨v3,v4,xs,rfl,hx,lx,tx,s1⟩
  rw [yY,yY] at e1
  obtain ⟨⟨bn,r⟩,eb⟩:∃ q,(bnP B)[i]?=some q:=by
   cases e:(bnP B)[i]? with
   | none=>rw [e] at e1;cases e1
   | some q=>exact ⟨q,rfl⟩
  rw [eb] at e1
  cases e1
  have hben:=Qrs (kX eb)
  have il:=(kK.mp eb).1
  let Pv36:Nat->St->Hp->Prop:=fun j σ H2=>∃ (v4:Option V) (xs:List V),σ=[some (.ref p),some (.ref tk),some (.ref W),some (.str bn),v4]/\H2 W=some (.lst xs)/\xs.length<=12 * i + j/\TupK H2 xs (((bnP B).take i).flatMap (hR n B pl) ++ (Jm (fun day=>Qao B pl bn r day < 0) j).map fun d:Nat=>[Sum.inr ("room":Str),Sum.inr bn,Sum.inl (d:Int)])/\Same H H2
  refine ⟨_,rfl,p,C,dx,fs,_,rfl,s1 _ _ hF.hp,T.cl,T.nD,hF.fD,n,rfl,by omega,by omega,Xs (lo:=0) (n:=n.toNat) Pv36 ⟨_,_,rfl,hx,lx,by rw [show Jm (fun day=>Qao B pl bn r day < 0) 0=[] from rfl,jJb,zZ];exact tx,s1⟩ ?_ ?_⟩
  ·rintro j σ H2 hj ⟨v4,xs,rfl,hx,lx,tx,s2⟩
   rw [jYd]
   have htk2:=s2 _ _ htk
   refine ⟨_,rfl,tk,rfl,⟨_,Qb htk2⟩,fun D hD=>?_⟩
   let Pv37:Nat->St->List V->Hp->Prop:=fun m τ zs H3=>∃ v:Option V,τ=[v,some (.ref p),some (.str bn),some (.int j)]/\zs=(((wks B).take m).map fun w=>useR B bn j (w,look pl w)).map V.int/\H3 D=some (.lst zs)/\Same H2 H3
   refine Ym (n:=(wks B).length) Pv37 ?_ (fun m τ zs H3 hm h=>?_) (fun m τ zs H3 hm h=>?_) (fun τ zs H3 h=>?_) ?_ ?_
   ·exact ⟨none,rfl,rfl,upd_same,Qc hD _⟩
   ·obtain ⟨v,rfl,rfl,hE,s3⟩:=h
    exact ⟨hE,by rw [jX,jX,zK];omega⟩
   ·obtain ⟨v,rfl,rfl,hE,s3⟩:=h
    exact ⟨ys,ys[m]'(by omega),s3.seq (Qb htk2),gE (by omega)⟩
   ·obtain ⟨v,rfl,rfl,hE,s3⟩:=h
    exact ⟨ys,s3.seq (Qb htk2),by omega⟩
   ·rintro m τ zs H3 x H4 hm ⟨v,rfl,rfl,hE,s3⟩ ⟨rfl,e2⟩
    obtain ⟨wk,ewk,t,rfl,hT⟩:=Qr hTk (e2 _ (s3.seq (Qb htk2)))
    obtain ⟨l,c,hmem,hway,b0,b1⟩:=hpf.get bk.wb (Jy hW (wks_mem.mp (kX ewk)))
    have s23:=s2.trans s3
    refine ⟨_,rfl,p,dx,fs,rfl,s23 _ _ hF.hp,hF.nU,_,rfl,_,rfl,_,rfl,p,t,n,B,wk,_,bn,_,l,c,j,rfl,hFc.same s23,bk.wb,s23.tup hT,hway,fun H5 s5=>?_⟩
    refine ⟨s5 _ _ hE,_,rfl,?_,upd_same,fun b o e=>?_⟩
    ·rw [Ze ewk,kJ,kJ];rfl
    ·rw [Qi (Qk e hD)];exact s5 _ _ (s3 _ _ e)
   ·rintro τ zs H3 ⟨v,rfl,rfl,hE,s3⟩
    rw [kW] at hE
    have s23:=s2.trans s3
    refine ⟨D,_,rfl,Qb hE,_,rfl,p,dx,fs,rfl,s23 _ _ hF.hp,hF.nR,_,rfl,_,rfl,p,n,B,bn,r,j,rfl,hFc.same s23,bk.wb,hben,fun H4 s4=>?_⟩
    have s24:=s3.trans s4
    have hx4:=s24 _ _ hx
    have tx4:=tx.same s24
    rw [← Qlo hpf bk.wb hW (useR B bn j)]
    refine ⟨_,_,rfl,rfl,_,rfl,ite2 (fun y=>?_) (fun y=>?_)⟩
    ·have hneg:Qao B pl bn r j < 0:=by
      have z:(pl.map (useR B bn j)).sum > Kw B bn r j:=jJ y
      unfold Qao
      omega
     refine ⟨_,rfl,.inl ⟨rfl,_,Qb hx4⟩,_,rfl,_,rfl,by show 3<=sizeLine;decide,fun t ht=>?_⟩
     have s5:=Qc ht (.tup [.str "room",.str bn,.int j])
     have hx5:=s5 _ _ hx4
     refine ⟨W,_,_,rfl,rfl,hx5,by omega,_,_,rfl,upd_same,by rw [jY];exact wJ lx,?_,fun b o e=>?_⟩
     ·rw [Ju,if_pos hneg,kJ,← xV]
      exact Paired.snoc ((tx4.same s5).updL hx5) ⟨t,rfl,by rw [Qi (Yp upd_same hx5 (by intro z;cases z))];exact upd_same⟩
     ·rw [Qi (Qk e hW0)];exact s5 _ _ (s24 _ _ (s2 _ _ e))
    ·have hpos:¬ Qao B pl bn r j < 0:=fun z=>y (kQ (by
      unfold Qao at z
      show (pl.map (useR B bn j)).sum > Kw B bn r j
      omega))
     refine ⟨_,_,rfl,hx4,by omega,?_,s2.trans s24⟩
     rw [Ju,if_neg hpos,zZ]
     exact tx4
  ·rintro σ H2 ⟨v4,xs,rfl,hx,lx,tx,s2⟩
   refine ⟨_,_,_,rfl,hx,by omega,?_,s2⟩
   rw [Qcd _ eb]
   exact tx
 ·rintro σ H1 ⟨v3,v4,xs,rfl,hx,lx,tx,s1⟩
  rw [jX,jX] at lx tx
  rw [kW,← gR_eq] at tx
  exact ⟨_,rfl,q W xs H1 s1 hx (by omega) tx⟩
abbrev sWS:Stmt:=top 26
theorem Qft (c m:Int):∀ N:Nat,((List.range N).map fun dd:Nat=>if c=(dd:Int) then m else 0).sum=if 0<=c/\c < N then m else 0
 | 0=>by rw [if_neg (by omega)];rfl
 | N + 1=>by
  rw [Yy (fun dd:Nat=>if c=(dd:Int) then m else 0),Qft c m N]
  by_cases e:c=(N:Int)
  ·rw [if_pos e,if_neg (by omega),if_pos (by omega)];omega
  ·rw [if_neg e]
   by_cases e2:0<=c/\c < N
   ·rw [if_pos e2,if_pos (by omega)];omega
   ·rw [if_neg e2,if_neg (by omega)];omega
theorem Qlp (f g:Nat->Int):∀ N:Nat,((List.range N).map fun dd:Nat=>f dd - g dd).sum=((List.range N).map f).sum - ((List.range N).map g).sum
 | 0=>rfl
 | N + 1=>by rw [Yy (fun dd=>f dd - g dd),Yy f,Yy g,Qlp f g N];omega
theorem Qhe {α:Type} (f:Nat->α->Int) (N:Nat):∀ L:List α,((List.range N).map fun dd:Nat=>(L.map (f dd)).sum).sum=(L.map fun a=>((List.range N).map fun dd:Nat=>f dd a).sum).sum
 | []=>by
  show ((List.range N).map fun _:Nat=>(0:Int)).sum=0
  induction N with
  | zero=>rfl
  | succ N ih=>rw [Yy (fun _=>(0:Int)),ih];rfl
 | a :: L=>by
  have h:=Qhe f N L
  have e:∀ M:Nat,((List.range M).map fun dd:Nat=>((a :: L).map (f dd)).sum).sum=((List.range M).map fun dd:Nat=>f dd a).sum + ((List.range M).map fun dd:Nat=>(L.map (f dd)).sum).sum:=by
   intro M
   induction M with
   | zero=>rfl
   | succ M ih =>
    rw [Yy (fun dd=>((a :: L).map (f dd)).sum),Yy (fun dd=>f dd a),Yy (fun dd=>(L.map (f dd)).sum),ih,yQ,xX]
    omega
  rw [e N,h,yQ,xX]
theorem Qrt {n:Int} {B:List BR} {pl:List (Str × Str × Int)} (wb:WB n B) (hg:Qgr n B pl) {p:Str × Str × Int} (hp:p ∈ pl) (st:Str) (day:Nat):((List.range (day + 1)).map fun dd:Nat=>chP B st dd p).sum=Yz B st day p:=by
 obtain ⟨l,c,hway,b0,b1⟩:=hg p hp
 have hok:=wb.ok _ hway
 have l1:1<=l:=hok.1
 have hl:=Zn wb hway
 unfold Yz
 have e:(fun dd:Nat=>chP B st dd p)=fun dd:Nat=>(if p.2.2 + lenB B p.1 p.2.1=(dd:Int) then Yx B 2 p.1 p.2.1 st else 0) - (if p.2.2=(dd:Int) then Yx B 1 p.1 p.2.1 st else 0):=rfl
 rw [e,Qlp (fun dd:Nat=>if p.2.2 + lenB B p.1 p.2.1=(dd:Int) then Yx B 2 p.1 p.2.1 st else 0),Qft,Qft,hl]
 congr 1
 ·by_cases e:p.2.2 + l<=day
  ·rw [if_pos e,if_pos (by omega)]
  ·rw [if_neg e,if_neg (by omega)]
 ·by_cases e:p.2.2<=day
  ·rw [if_pos e,if_pos (by omega)]
  ·rw [if_neg e,if_neg (by omega)]
theorem Qef {n:Int} {B:List BR} {pl:List (Str × Str × Int)} (wb:WB n B) (hg:Qgr n B pl) (st:Str) (fi:Int) (day:Nat):Zo B pl st fi day=fi + (pl.map (Yz B st day)).sum:=by
 unfold Zo
 congr 1
 have h:=Qhe (fun dd p=>chP B st (dd:Nat) p) (day + 1) pl
 refine h.trans ?_
 congr 1
 exact wK fun p hp=>Qrt wb hg hp st day
theorem Qak {α β:Type} {g:α->List β} {f:α->Bool} (e:∀ a,f a=false->g a=[]):∀ L:List α,L.flatMap g=(L.filter f).flatMap g
 | []=>rfl
 | a :: L=>by
  rw [wW,Qak e L]
  cases h:f a with
  | true=>rw [kQd h,wW]
  | false=>rw [kQe (by rw [h];decide),e a h];rfl
def spWS (K:Fg) (C:Addr):Sp:=fun vs H Q _=>∃ (p tk:Addr) (n:Int) (B:List BR) (pl:List (Str × Str × Int)) (ys:List V),vs=[.ref p,.ref tk]/\FcAt K C H p n B/\BookOk n B/\PlanFor n B pl/\B.flatMap (gW pl)=[]/\H tk=some (.lst ys)/\Zz K H pl ys (wks B)/\∀ (D:Addr) (xs:List V) (H':Hp),Same H H'->H' D=some (.lst xs)->xs.length<=5200->TupK H' xs (B.flatMap (gS n B pl))->Q (.ref D) H'
theorem scWS:FnScope ["facts","taken","wrong","store","most","first","day"] ["facts","taken"] (Qg sWS):=⟨rfl,rfl,rfl,by decide +kernel,rfl,by decide +kernel,by decide +kernel⟩
theorem okWS {C fG:Addr} {fdG:FuncData} (F:Fn K mg "wrong_stores" sWS) (M:Mg mg) (T:FcTxt K mg C) (GG:FnOk P w K mg base CX0 2 fG fdG ["self","choice","store","day"] (Qfk K C)) (bG:Binds K fdG ["self","choice","store","day"] []) (mG:Meth K C "gain_by" fG):Cal P w K mg base 4 "wrong_stores" ["facts","taken"] (spWS K C):=by
 refine Xi F scWS (fun _ _ _ _ _ _=>Zm (fun _ _=>rfl)) (fun vs H Q E h=>?_) (fun f cdv A outer s H vs Q E hr h=>?_)
 ·obtain ⟨p,tk,n,B,pl,ys,rfl,_⟩:=h
  rfl
 obtain ⟨p,tk,n,B,pl,ys,rfl,hFc,bk,hpf,hW,htk,hTk,q⟩:=h
 obtain ⟨dx,lw,lb,lh,ls,la,ds,fs,kvs,yh,ysS,ya,hF⟩:=id hFc
 have hz:(20000:Nat) < sizeLine:=by decide
 have bl:=bk.wb.len
 have n1:=bk.n1
 have n12:=bk.n12
 have lT:=Paired.length hTk
 have wl:(wks B).length<=B.length:=yV _ _
 have sl1:(B.filter (selW "store")).length<=B.length:=jJa _ _
 have lS:=Paired.length hF.tS
 have egS:B.flatMap (gS n B pl)=(B.filter (selW "store")).flatMap (gS n B pl):=Qak (fun a h=>gS_no (of_decide_eq_false h)) B
 rw [egS] at q
 refine ⟨_,(Qf (Qp (i:=2) scWS.nd rfl (Or.inl rfl) (Xw Qe))
  (Qf (Xe PassesOwn.never rfl (Qt (Yi (pv 0) rfl)) (Wg rfl (Xt (Ql (i:=3) scWS.nd rfl (Or.inr rfl) (Or.inl rfl)) (Xt (Ql (i:=4) scWS.nd rfl (Or.inl rfl) (Or.inl rfl)) (Xt (Ql (i:=5) scWS.nd rfl (Or.inl rfl) (Or.inl rfl)) Ke)))) (Qh (Xe PassesOwn.never rfl (Xk rfl M.range_ (Qa (Qj Qs (Yi (pv 0) rfl) Qd) Qe)) (Ql (i:=6) scWS.nd rfl (Or.inr rfl) (Or.inl rfl))
   (Qh (Yg (Wf (Qga Km Km Qd (Qj Qs (pv 5) (Qy (Ko rfl) rfl M.sum Qgf (Qa (Yr ["choice","facts","store","day"] [none,some 0,some 3,some 6] rfl (Qt (pv 1)) (fun _ _ _=>(Ql (i:=0) (show (["choice","facts","store","day"]:List Str).Nodup by decide +kernel) rfl (Or.inl rfl) (Or.inr rfl))) (fun _ _ _=>Yl) (fun _ _ _=>(Yj (pv 1) T.cl mG GG (hr.mono (by decide)) bG .nil Zd (Qa (pv 0) (Qa (pv 2) (Qa (pv 3) Qe)))))) Qe))) (pv 4))) (Qh (Xm (Zp PySem.F.plainAttrs_list PySem.F.slot_list_append PySem.F.type_list_append Xb (pv 2) (Qa (Xd (Qa Xa (Qa (pv 3) (Qa (pv 6) Qe)))) Qe)))) Qz)))))
  (Qh (Qw (pv 2))))),?_⟩
 refine ⟨by show 0<=sizeLine;decide,fun W hW0=>?_⟩
 have s0:=Qc hW0 (.lst [])
 let Pv38:Nat->St->Hp->Prop:=fun i σ H1=>∃ (v3 v4 v5 v6:Option V) (xs:List V),σ=[some (.ref p),some (.ref tk),some (.ref W),v3,v4,v5,v6]/\H1 W=some (.lst xs)/\xs.length<=13 * i/\TupK H1 xs (((B.filter (selW "store")).take i).flatMap (gS n B pl))/\Same H H1
 refine ⟨_,rfl,p,C,dx,fs,_,rfl,s0 _ _ hF.hp,T.cl,T.nS,hF.fS,ls,rfl,⟨_,Qb (s0 _ _ hF.hS)⟩,Xq (K:=K) (a:=ls) (xs:=ysS) Pv38 ⟨none,none,none,none,[],rfl,upd_same,jK _,.nil,s0⟩ (fun i σ H1 _ h=>?_) ?_ ?_⟩
 ·obtain ⟨v3,v4,v5,v6,xs,rfl,hx,lx,tx,s1⟩:=h
  exact s1.seq (Qb hF.hS)
 ·rintro i x σ H1 e1 ⟨v3,v4,v5,v6,xs,rfl,hx,lx,tx,s1⟩
  obtain ⟨r',er',t,rfl,hT⟩:=Qr hF.tS e1
  obtain ⟨st,mo,fi,rfl⟩:=Jz (jJ (jQb.mp (kX er')).2)
  have hT':SqT K H1 t [.str st,.int mo,.int fi]:=s1.tup hT
  have il:=(kK.mp er').1
  refine ⟨t,_,rfl,hT',rfl,_,_,rfl,_,_,rfl,_,_,rfl,rfl,?_⟩
  have eN:(n + 1).toNat=n.toNat + 1:=by omega
  refine ⟨_,rfl,p,C,dx,fs,_,rfl,s1 _ _ hF.hp,T.cl,T.nD,hF.fD,_,_,rfl,rfl,n + 1,rfl,by omega,by omega,?_⟩
  rw [eN]
  let Pv39:Nat->St->Hp->Prop:=fun j σ H2=>∃ (v6:Option V) (xs:List V),σ=[some (.ref p),some (.ref tk),some (.ref W),some (.str st),some (.int mo),some (.int fi),v6]/\H2 W=some (.lst xs)/\xs.length<=13 * i + j/\TupK H2 xs (((B.filter (selW "store")).take i).flatMap (gS n B pl) ++ (Jm (fun day=>Zo B pl st fi day.toNat < 0\/mo < Zo B pl st fi day.toNat) j).map fun d:Nat=>[Sum.inr ("store":Str),Sum.inr st,Sum.inl (d:Int)])/\Same H H2
  refine Xs (lo:=0) (n:=n.toNat + 1) Pv39 ⟨_,_,rfl,hx,lx,by rw [show Jm (fun day=>Zo B pl st fi day.toNat < 0\/mo < Zo B pl st fi day.toNat) 0=[] from rfl,jJb,zZ];exact tx,s1⟩ ?_ ?_
  ·rintro j σ H2 hj ⟨v6,xs,rfl,hx,lx,tx,s2⟩
   rw [jYd]
   have htk2:=s2 _ _ htk
   refine ⟨_,rfl,_,rfl,tk,rfl,⟨_,Qb htk2⟩,fun D hD=>?_⟩
   let Pv40:Nat->St->List V->Hp->Prop:=fun m τ zs H3=>∃ v:Option V,τ=[v,some (.ref p),some (.str st),some (.int j)]/\zs=(((wks B).take m).map fun w=>Yz B st j (w,look pl w)).map V.int/\H3 D=some (.lst zs)/\Same H2 H3
   refine Ym (n:=(wks B).length) Pv40 ?_ (fun m τ zs H3 hm h=>?_) (fun m τ zs H3 hm h=>?_) (fun τ zs H3 h=>?_) ?_ ?_
   ·exact ⟨none,rfl,rfl,upd_same,Qc hD _⟩
   ·obtain ⟨v,rfl,rfl,hE,s3⟩:=h
    exact ⟨hE,by rw [jX,jX,zK];omega⟩
   ·obtain ⟨v,rfl,rfl,hE,s3⟩:=h
    exact ⟨ys,ys[m]'(by omega),s3.seq (Qb htk2),gE (by omega)⟩
   ·obtain ⟨v,rfl,rfl,hE,s3⟩:=h
    exact ⟨ys,s3.seq (Qb htk2),by omega⟩
   ·rintro m τ zs H3 x H4 hm ⟨v,rfl,rfl,hE,s3⟩ ⟨rfl,e2⟩
    obtain ⟨wk,ewk,t',rfl,hT2⟩:=Qr hTk (e2 _ (s3.seq (Qb htk2)))
    obtain ⟨l,c,hmem,hway,b0,b1⟩:=hpf.get bk.wb (Jy hW (wks_mem.mp (kX ewk)))
    have s23:=s2.trans s3
    refine ⟨_,rfl,p,dx,fs,rfl,s23 _ _ hF.hp,hF.nG,_,rfl,_,rfl,_,rfl,p,t',n,B,wk,_,st,_,l,c,j,rfl,hFc.same s23,bk.wb,s23.tup hT2,hway,fun H5 s5=>?_⟩
    refine ⟨s5 _ _ hE,_,rfl,?_,upd_same,fun b o e=>?_⟩
    ·rw [Ze ewk,kJ,kJ];rfl
    ·rw [Qi (Qk e hD)];exact s5 _ _ (s3 _ _ e)
   ·rintro τ zs H3 ⟨v,rfl,rfl,hE,s3⟩
    rw [kW] at hE
    have hx4:=s3 _ _ hx
    have tx4:=tx.same s3
    have eS:=Qef bk.wb hpf.good st fi j
    rw [Qlo hpf bk.wb hW (Yz B st j)] at eS
    refine ⟨D,_,rfl,Qb hE,_,_,rfl,rfl,_,_,rfl,rfl,_,rfl,?_⟩
    dsimp only
    rw [← eS]
    refine ite2 (fun y=>⟨_,rfl,_,_,rfl,rfl,_,rfl,ite2 (fun y2=>?_) (fun y2=>?_)⟩) (fun y=>⟨_,rfl,ite2 (fun y2=>?_) (fun y2=>absurd rfl y2)⟩)
    ·have hneg:Zo B pl st fi ((j:Nat):Int).toNat < 0\/mo < Zo B pl st fi ((j:Nat):Int).toNat:=by
      rw [jXf]
      refine .inr (Int.not_le.mp fun z=>?_)
      rw [kQ z] at y2
      cases y2
     refine ⟨_,rfl,.inl ⟨rfl,_,Qb hx4⟩,_,rfl,_,rfl,by show 3<=sizeLine;decide,fun t ht=>?_⟩
     have s5:=Qc ht (.tup [.str "store",.str st,.int j])
     have hx5:=s5 _ _ hx4
     refine ⟨W,_,_,rfl,rfl,hx5,by omega,_,_,rfl,upd_same,by rw [jY];exact wJ lx,?_,fun b o e=>?_⟩
     ·rw [Ju,if_pos hneg,kJ,← xV]
      exact Paired.snoc ((tx4.same s5).updL hx5) ⟨t,rfl,by rw [Qi (Yp upd_same hx5 (by intro z;cases z))];exact upd_same⟩
     ·rw [Qi (Qk e hW0)];exact s5 _ _ (s3 _ _ (s2 _ _ e))
    ·have hpos:¬ (Zo B pl st fi ((j:Nat):Int).toNat < 0\/mo < Zo B pl st fi ((j:Nat):Int).toNat):=by
      rw [jXf]
      have z1:0<=Zo B pl st fi j:=jJ y
      intro z
      rcases z with z | z
      ·omega
      ·refine y2 ?_
       rw [xJ (by omega)]
       rfl
     refine ⟨_,_,rfl,hx4,by omega,?_,s2.trans s3⟩
     rw [Ju,if_neg hpos,zZ]
     exact tx4
    ·have hneg:Zo B pl st fi ((j:Nat):Int).toNat < 0\/mo < Zo B pl st fi ((j:Nat):Int).toNat:=by
      rw [jXf]
      exact .inl (Int.not_le.mp fun z=>y (kQ z))
     refine ⟨_,rfl,.inl ⟨rfl,_,Qb hx4⟩,_,rfl,_,rfl,by show 3<=sizeLine;decide,fun t ht=>?_⟩
     have s5:=Qc ht (.tup [.str "store",.str st,.int j])
     have hx5:=s5 _ _ hx4
     refine ⟨W,_,_,rfl,rfl,hx5,by omega,_,_,rfl,upd_same,by rw [jY];exact wJ lx,?_,fun b o e=>?_⟩
     ·rw [Ju,if_pos hneg,kJ,← xV]
      exact Paired.snoc ((tx4.same s5).updL hx5) ⟨t,rfl,by rw [Qi (Yp upd_same hx5 (by intro z;cases z))];exact upd_same⟩
     ·rw [Qi (Qk e hW0)];exact s5 _ _ (s3 _ _ (s2 _ _ e))
  ·rintro σ H2 ⟨v6,xs,rfl,hx,lx,tx,s2⟩
   refine ⟨_,_,_,_,_,rfl,hx,by omega,?_,s2⟩
   rw [Qcd _ er']
   exact tx
 ·rintro σ H1 ⟨v3,v4,v5,v6,xs,rfl,hx,lx,tx,s1⟩
  rw [show ysS.length=(B.filter (selW "store")).length from lS] at lx tx
  rw [kW] at tx
  exact ⟨_,rfl,q W xs H1 s1 hx (by omega) tx⟩
abbrev sWA:Stmt:=top 27
theorem Qcn {f:Str->V} {w:Str}:∀ (ws:List Str) (acc:List (Key × V)),(w ∈ ws\/valV acc (Sum.inr w:Key)=some (f w))->valV ((ws.map fun w=>((Sum.inr w:Key),f w)).foldl (fun d p=>putK d p.1 p.2) acc) (Sum.inr w:Key)=some (f w)
 | [],acc,h=>h.resolve_left (fun z=>nomatch z)
 | a :: ws,acc,h=>by
  rw [yQ,kYb]
  refine Qcn ws _ ?_
  by_cases e:a=w
  ·exact .inr (by rw [Vx,e,if_pos rfl])
  ·rcases h with h | h
   ·exact .inl ((yX.mp h).resolve_left fun z=>e z.symm)
   ·exact .inr (by rw [Vx,if_neg (fun z=>e (Sum.inr.inj z).symm)];exact h)
def endE (B:List BR) (pl:List (Str × Str × Int)) (w:Str):V:=.int ((look pl w).2 + lenB B w (look pl w).1)
def begE (pl:List (Str × Str × Int)) (w:Str):V:=.int (look pl w).2
theorem Qbb {K:Fg} {H H':Hp} {vs:List V} {ps:List (Key × V)} (h:PairsK K H vs ps) (s:Same H H'):PairsK K H' vs ps:=h.imp fun _ _ z=>s.tup z
theorem Qbc {K:Fg} {H:Hp} {W:Addr} {xs zs:List V} {vs:List V} {ps:List (Key × V)} (h:PairsK K H vs ps) (hW:H W=some (.lst xs)):PairsK K (upd H W (.lst zs)) vs ps:=h.imp fun _ _ z=>Xc hW z
def spWA (K:Fg) (C:Addr):Sp:=fun vs H Q _=>∃ (p tk:Addr) (n:Int) (B:List BR) (pl:List (Str × Str × Int)) (ys:List V),vs=[.ref p,.ref tk]/\FcAt K C H p n B/\BookOk n B/\PlanFor n B pl/\B.flatMap (gW pl)=[]/\H tk=some (.lst ys)/\Zz K H pl ys (wks B)/\∀ (D:Addr) (xs:List V) (H':Hp),Same H H'->H' D=some (.lst xs)->xs.length<=5200->TupK H' xs (B.flatMap (gA B pl))->Q (.ref D) H'
theorem scWA:FnScope ["facts","taken","ends","begins"] ["facts","taken"] (Qg sWA):=⟨rfl,rfl,rfl,by decide +kernel,rfl,by decide +kernel,by decide +kernel⟩
theorem okWA {C fE:Addr} {fdE:FuncData} (F:Fn K mg "wrong_afters" sWA) (M:Mg mg) (T:FcTxt K mg C) (GE:FnOk P w K mg base CX0 1 fE fdE ["self","choice"] (Qax K C)) (bE:Binds K fdE ["self","choice"] []) (mE:Meth K C "end_of" fE):Cal P w K mg base 4 "wrong_afters" ["facts","taken"] (spWA K C):=by
 refine Xi F scWA (fun _ _ _ _ _ _=>Zm (fun _ _=>rfl)) (fun vs H Q E h=>?_) (fun f cdv A outer s H vs Q E hr h=>?_)
 ·obtain ⟨p,tk,n,B,pl,ys,rfl,_⟩:=h
  rfl
 obtain ⟨p,tk,n,B,pl,ys,rfl,hFc,bk,hpf,hW,htk,hTk,q⟩:=h
 obtain ⟨dx,lw,lb,lh,ls,la,ds,fs,kvs,yh,ysS,ya,hF⟩:=id hFc
 have hz:(20000:Nat) < sizeLine:=by decide
 have hu:(A.deeper (PyProof.Rows.envOfC "wrong_afters" (Qg sWA) s.heap.objs.size f cdv)).units + 1 < cLine:=zV (wQ (by decide) _) hr.un
 have bl:=bk.wb.len
 have lT:=Paired.length hTk
 have wl:(wks B).length<=B.length:=yV _ _
 have sl1:(B.filter (selW "after")).length<=B.length:=jJa _ _
 have lA:=Paired.length hF.tA
 have egA:B.flatMap (gA B pl)=(B.filter (selW "after")).flatMap (gA B pl):=Qak (fun a h=>gA_no (of_decide_eq_false h)) B
 rw [egA] at q
 refine ⟨_,(Qf (Qp (i:=2) scWA.nd rfl (Or.inr rfl) (Xf (Zv rfl) rfl M.dict_ Wt (Qa (Yr ["choice","facts"] [none,some 0] rfl (Qt (pv 1)) (fun _ _ _=>(Ql (i:=0) (show (["choice","facts"]:List Str).Nodup by decide +kernel) rfl (Or.inl rfl) (Or.inr rfl))) (fun _ _ _=>Yl) (fun _ _ _=>(Xd (Qa (Qo (Ji (K:=K) rfl) (pv 0) Qd (fun _ _=>rfl)) (Qa (Yj (pv 1) T.cl mE GE (hr.mono (by decide)) bE .nil Zd (Qa (pv 0) Qe)) Qe))))) Qe)))
  (Qf (Qp (i:=3) scWA.nd rfl (Or.inr rfl) (Xf (Zv rfl) rfl M.dict_ Wt (Qa (Yr ["choice"] [none] rfl (Qt (pv 1)) (fun _ _ _=>(Ql (i:=0) (show (["choice"]:List Str).Nodup by decide +kernel) rfl (Or.inl rfl) (Or.inr rfl))) (fun _ _ _=>Yl) (fun _ _ _=>(Xd (Qa (Qo (Ji (K:=K) rfl) (pv 0) Qd (fun _ _=>rfl)) (Qa (Qo (Ji (K:=K) rfl) (pv 0) Qd (fun _ _=>rfl)) Qe))))) Qe)))
  (Qh (Qw (Yr ["work","other","gap","ends","begins"] [none,none,none,some 2,some 3] rfl (Qt (Yi (pv 0) rfl)) (fun _ _ _=>(Qbu (K:=K) (i:=0) (j:=1) (l:=2) rfl rfl (show (["work","other","gap","ends","begins"]:List Str).Nodup by decide +kernel) rfl rfl rfl rfl rfl rfl)) (fun _ _ _=>(Zu (Qn Qct (Zh hu (pv 4) (pv 1) (fun _ _=>rfl)) (Qj Qs (Zh hu (pv 3) (pv 0) (fun _ _=>rfl)) (pv 2)) (Qq _)))) (fun _ _ _=>(Xd (Qa Xa (Qa (pv 0) (Qa (pv 1) Qe)))))))))),?_⟩
 refine ⟨_,rfl,tk,rfl,⟨_,Qb htk⟩,fun D hD=>?_⟩
 let Pv41:Nat->St->List V->Hp->Prop:=fun m τ zs H1=>∃ v:Option V,τ=[v,some (.ref p)]/\PairsK K H1 zs (((wks B).take m).map fun w=>((Sum.inr w:Key),endE B pl w))/\zs.length<=m/\H1 D=some (.lst zs)/\Same H H1
 refine Ym (n:=(wks B).length) Pv41 ?_ (fun m τ zs H1 hm h=>?_) (fun m τ zs H1 hm h=>?_) (fun τ zs H1 h=>?_) ?_ ?_
 ·exact ⟨none,rfl,.nil,jK _,upd_same,Qc hD _⟩
 ·obtain ⟨v,rfl,hY,hl,hE,s1⟩:=h
  exact ⟨hE,by omega⟩
 ·obtain ⟨v,rfl,hY,hl,hE,s1⟩:=h
  exact ⟨ys,ys[m]'(by omega),s1.seq (Qb htk),gE (by omega)⟩
 ·obtain ⟨v,rfl,hY,hl,hE,s1⟩:=h
  exact ⟨ys,s1.seq (Qb htk),by omega⟩
 ·rintro m τ zs H1 x H2 hm ⟨v,rfl,hY,hl,hE,s1⟩ ⟨rfl,e1⟩
  obtain ⟨wk,ewk,t,rfl,hT⟩:=Qr hTk (e1 _ (s1.seq (Qb htk)))
  obtain ⟨l,c,hmem,hway,b0,b1⟩:=hpf.get bk.wb (Jy hW (wks_mem.mp (kX ewk)))
  have hT1:=s1.tup hT
  refine ⟨_,rfl,t,_,_,_,rfl,rfl,hT1,(show atI [V.str wk,V.str (look pl wk).1,V.int (look pl wk).2] 0=some (.str wk) from rfl),?_⟩
  refine ⟨_,rfl,p,dx,fs,rfl,s1 _ _ hF.hp,hF.nE,_,rfl,p,t,n,B,wk,_,_,l,c,rfl,hFc.same s1,hT1,hway,fun H3 s3=>?_⟩
  refine ⟨by show 2<=sizeLine;decide,fun t2 ht2=>?_⟩
  have s4:=s3.trans (Qc ht2 (.tup [.str wk,.int ((look pl wk).2 + l)]))
  have hE4:=s4 _ _ hE
  refine ⟨hE4,_,rfl,?_,by rw [jY];exact wJ hl,upd_same,fun b o e=>?_⟩
  ·rw [Ze ewk,kJ]
   refine Paired.snoc (Qbc (Qbb hY s4) hE4) ⟨t2,rfl,Xc hE4 ?_⟩
   show SqT K _ t2 [.str wk,endE B pl wk]
   rw [show endE B pl wk=.int ((look pl wk).2 + l) by unfold endE;rw [Zn bk.wb hway]]
   exact Qu upd_same
  ·rw [Qi (Qk e hD)];exact s4 _ _ (s1 _ _ e)
 rintro τ zs H1 ⟨v,rfl,hY,hl,hE,s1⟩
 rw [kW] at hY
 refine ⟨D,zs,_,rfl,Qb hE,hY,by rw [jX];omega,fun d1 hd1=>?_⟩
 have s2:=Qc hd1 (.dK (Xp ((wks B).map fun w=>((Sum.inr w:Key),endE B pl w))))
 have s12:=s1.trans s2
 have htk2:=s12 _ _ htk
 refine ⟨_,rfl,tk,rfl,⟨_,Qb htk2⟩,fun D2 hD2=>?_⟩
 let Pv42:Nat->St->List V->Hp->Prop:=fun m τ zs H3=>∃ v:Option V,τ=[v]/\PairsK K H3 zs (((wks B).take m).map fun w=>((Sum.inr w:Key),begE pl w))/\zs.length<=m/\H3 D2=some (.lst zs)/\Same (upd H1 d1 (.dK (Xp ((wks B).map fun w=>((Sum.inr w:Key),endE B pl w))))) H3
 refine Ym (n:=(wks B).length) Pv42 ?_ (fun m τ zs H3 hm h=>?_) (fun m τ zs H3 hm h=>?_) (fun τ zs H3 h=>?_) ?_ ?_
 ·exact ⟨none,rfl,.nil,jK _,upd_same,Qc hD2 _⟩
 ·obtain ⟨v,rfl,hY,hl,hE,s3⟩:=h
  exact ⟨hE,by omega⟩
 ·obtain ⟨v,rfl,hY,hl,hE,s3⟩:=h
  exact ⟨ys,ys[m]'(by omega),s3.seq (Qb htk2),gE (by omega)⟩
 ·obtain ⟨v,rfl,hY,hl,hE,s3⟩:=h
  exact ⟨ys,s3.seq (Qb htk2),by omega⟩
 ·rintro m τ zs H3 x H4 hm ⟨v,rfl,hY,hl,hE,s3⟩ ⟨rfl,e1⟩
  obtain ⟨wk,ewk,t,rfl,hT⟩:=Qr hTk (e1 _ (s3.seq (Qb htk2)))
  have hT1:=s3.tup (s12.tup hT)
  refine ⟨_,rfl,t,_,_,_,rfl,rfl,hT1,(show atI [V.str wk,V.str (look pl wk).1,V.int (look pl wk).2] 0=some (.str wk) from rfl),?_⟩
  refine ⟨_,rfl,t,_,_,_,rfl,rfl,hT1,(show atI [V.str wk,V.str (look pl wk).1,V.int (look pl wk).2] 2=some (.int (look pl wk).2) from rfl),?_⟩
  refine ⟨by show 2<=sizeLine;decide,fun t2 ht2=>?_⟩
  have s4:=Qc ht2 (.tup [.str wk,.int (look pl wk).2])
  have hE4:=s4 _ _ hE
  refine ⟨hE4,_,rfl,?_,by rw [jY];exact wJ hl,upd_same,fun b o e=>?_⟩
  ·rw [Ze ewk,kJ]
   exact Paired.snoc (Qbc (Qbb hY s4) hE4) ⟨t2,rfl,Xc hE4 (Qu upd_same)⟩
  ·rw [Qi (Qk e hD2)];exact s4 _ _ (s3 _ _ e)
 rintro τ zs2 H3 ⟨v,rfl,hY2,hl2,hE2,s3⟩
 rw [kW] at hY2
 refine ⟨D2,zs2,_,rfl,Qb hE2,hY2,by rw [jX];omega,fun d2 hd2=>?_⟩
 have s4:=Qc hd2 (.dK (Xp ((wks B).map fun w=>((Sum.inr w:Key),begE pl w))))
 have sA:=(s12.trans s3).trans s4
 have h1:=s4 _ _ (s3 _ _ (upd_same (H:=H1) (a:=d1) (o:=.dK (Xp ((wks B).map fun w=>((Sum.inr w:Key),endE B pl w))))))
 have h2:(upd H3 d2 (.dK (Xp ((wks B).map fun w=>((Sum.inr w:Key),begE pl w))))) d2=some (.dK (Xp ((wks B).map fun w=>((Sum.inr w:Key),begE pl w)))):=upd_same
 generalize upd H3 d2 (.dK (Xp ((wks B).map fun w=>((Sum.inr w:Key),begE pl w))))=H5 at s4 sA h1 h2
 refine ⟨_,rfl,p,C,dx,fs,_,rfl,sA _ _ hF.hp,T.cl,T.nA,hF.fA,la,rfl,⟨_,Qb (sA _ _ hF.hA)⟩,fun D3 hD3=>?_⟩
 let Pv43:Nat->St->List V->Hp->Prop:=fun m τ xs H6=>∃ v0 v1 v2:Option V,τ=[v0,v1,v2,some (.ref d1),some (.ref d2)]/\TupK H6 xs (((B.filter (selW "after")).take m).flatMap (gA B pl))/\xs.length<=m/\H6 D3=some (.lst xs)/\Same H5 H6
 refine Ym (n:=(B.filter (selW "after")).length) Pv43 ?_ (fun m τ xs H6 hm h=>?_) (fun m τ xs H6 hm h=>?_) (fun τ xs H6 h=>?_) ?_ ?_
 ·exact ⟨none,none,none,rfl,.nil,jK _,upd_same,Qc hD3 _⟩
 ·obtain ⟨v0,v1,v2,rfl,hX,hl,hE,s6⟩:=h
  exact ⟨hE,by omega⟩
 ·obtain ⟨v0,v1,v2,rfl,hX,hl,hE,s6⟩:=h
  exact ⟨ya,ya[m]'(by omega),(sA.trans s6).seq (Qb hF.hA),gE (by omega)⟩
 ·obtain ⟨v0,v1,v2,rfl,hX,hl,hE,s6⟩:=h
  exact ⟨ya,(sA.trans s6).seq (Qb hF.hA),by omega⟩
 ·rintro m τ xs H6 x H7 hm ⟨v0,v1,v2,rfl,hX,hl,hE,s6⟩ ⟨rfl,e1⟩
  obtain ⟨r',er',t,rfl,hT⟩:=Qr hF.tA (e1 _ ((sA.trans s6).seq (Qb hF.hA)))
  have hr':=jQb.mp (kX er')
  obtain ⟨wk,ot,g,rfl⟩:=Jw (jJ hr'.2)
  have hT':SqT K _ t [.str wk,.str ot,.int g]:=(sA.trans s6).tup hT
  have hw1:wk ∈ wks B:=wks_mem.mpr (bk.wb.ref _ hr'.1 wk (by show wk ∈ [wk,ot];exact kZ))
  have hw2:ot ∈ wks B:=wks_mem.mpr (bk.wb.ref _ hr'.1 ot (by show ot ∈ [wk,ot];exact yZ _ kZ))
  have g1:=DGet.k (k:=Sum.inr ot) (s6 _ _ h2)
  have g2:=DGet.k (k:=Sum.inr wk) (s6 _ _ h1)
  rw [show valV (Xp ((wks B).map fun w=>((Sum.inr w:Key),begE pl w))) (Sum.inr ot)=some (begE pl ot) from Qcn (f:=begE pl) (wks B) [] (.inl hw2)] at g1
  rw [show valV (Xp ((wks B).map fun w=>((Sum.inr w:Key),endE B pl w))) (Sum.inr wk)=some (endE B pl wk) from Qcn (f:=endE B pl) (wks B) [] (.inl hw1)] at g2
  refine ⟨t,_,rfl,hT',rfl,_,_,rfl,_,_,rfl,_,_,rfl,rfl,?_⟩
  refine ⟨_,rfl,_,rfl,d2,_,rfl,g1,_,rfl,_,rfl,d1,_,rfl,g2,_,rfl,_,_,rfl,rfl,_,_,rfl,rfl,_,rfl,?_⟩
  have eg:gA B pl (.after wk ot g)=if (look pl ot).2 - (look pl wk).2 - lenB B wk (look pl wk).1 < g then [[Sum.inr ("after":Str),Sum.inr wk,Sum.inr ot]] else []:=rfl
  refine ite2 (fun y=>?_) (fun y=>?_)
  ·have y':(look pl ot).2 < (look pl wk).2 + lenB B wk (look pl wk).1 + g:=jJ y
   refine ⟨_,rfl,_,rfl,by show 3<=sizeLine;decide,fun t2 ht2=>?_⟩
   have s7:=Qc ht2 (.tup [.str "after",.str wk,.str ot])
   have hE7:=s7 _ _ hE
   refine ⟨hE7,_,_,_,rfl,?_,by rw [jY];exact wJ hl,upd_same,fun b o e=>?_⟩
   ·rw [Qcd _ er',eg,if_pos (by omega)]
    exact Paired.snoc ((hX.same s7).updL hE7) ⟨t2,rfl,by rw [Qi (Yp upd_same hE7 (by intro z;cases z))];exact upd_same⟩
   ·rw [Qi (Qk e hD3)];exact s7 _ _ (s6 _ _ e)
  ·have y':¬ (look pl ot).2 < (look pl wk).2 + lenB B wk (look pl wk).1 + g:=fun z=>y (kQ z)
   refine ⟨_,_,_,rfl,?_,by omega,hE,s6⟩
   rw [Qcd _ er',eg,if_neg (by omega),zZ]
   exact hX
 ·rintro τ xs H6 ⟨v0,v1,v2,rfl,hX,hl,hE,s6⟩
  rw [kW] at hX
  exact q D3 xs H6 (sA.trans s6) hE (by omega) hX
abbrev sIW:Stmt:=top 1
abbrev sIP:Stmt:=top 2
abbrev Qoa:Stmt:=top 23
abbrev sWW:Stmt:=top 24
def spIW (K:Fg):Sp:=fun vs H Q _=>∃ i:Int,vs=[.int i]/\Q (.bl true) H
def spIP (K:Fg):Sp:=fun vs H Q _=>(vs=[.non]/\Q (.bl false) H)\/∃ (t:Addr) (a b:V),vs=[.ref t]/\SqT K H t [a,b]/\Q (.bl true) H
def Qpi (K:Fg) (C:Addr):Sp:=fun vs H Q _=>∃ (p:Addr) (n:Int) (B:List BR) (w:Str),FcAt K C H p n B /\
 ((vs=[.ref p,.str w,.non]/\∀ H',Same H H'->Q (.bl false) H')\/∃ (t:Addr) (v:Str) (b l c:Int),vs=[.ref p,.str w,.ref t]/\SqT K H t [.str v,.int b]/\BR.way w v l c ∈ B/\0<=b/\b + l<=n/\∀ H',Same H H'->Q (.bl true) H')
def noK (pl:List (Str × Str × Int)) (w:Str):Bool:=!hasK pl w
theorem gW_eq (pl:List (Str × Str × Int)):∀ B:List BR,B.flatMap (gW pl)=((wks B).filter (noK pl)).map fun w=>[(Sum.inr ("work":Str):Key),Sum.inr w]
 | []=>rfl
 | r :: B=>by
  rw [wW,gW_eq pl B]
  cases r with
  | work w =>
   show (if hasK pl w=true then [] else [[(Sum.inr ("work":Str):Key),Sum.inr w]]) ++ _=((w :: wks B).filter (noK pl)).map _
   cases e:hasK pl w with
   | true=>rw [if_pos rfl,kQe (by unfold noK;rw [e];decide)];rfl
   | false=>rw [if_neg (by decide),kQd (by unfold noK;rw [e];rfl)];rfl
  | _=>rfl
theorem Qob (ws:List Str):(ws.map V.str).all Ka=true:=jXa.mpr fun v hv=>by
 obtain ⟨w,_,rfl⟩:=xQ.mp hv
 rfl
theorem Qru {w:Str} {ws:List Str} (h:w ∈ ws):inV (.str w) (ws.map V.str)=true:=jXc.mpr ⟨.str w,xQ.mpr ⟨w,h,rfl⟩,by
 show (w == w)=true
 exact beq_self_eq_true w⟩
theorem Qco {K:Fg} {H:Hp} {kvs:List (Key × V)} {pl:List (Str × Str × Int)} {w v:Str} {b:Int} (h2:Paired (fun (p:Key × V) (q:Str × Str × Int)=>p.1=Sum.inr q.1/\∃ t,p.2=.ref t/\SqT K H t [.str q.2.1,.int q.2.2]) kvs pl) (nd:(pl.map (·.1)).Nodup) (hm:(w,v,b) ∈ pl):∃ t,valV kvs (Sum.inr w)=some (.ref t)/\SqT K H t [.str v,.int b]:=by
 obtain ⟨i,ei⟩:=jYa.mp hm
 obtain ⟨⟨k,x⟩,ex,ek,t,et,hT⟩:=Kj h2 ei
 have ek':k=Sum.inr w:=ek
 have et':x=.ref t:=et
 subst ek' et'
 have ndk:(kvs.map (·.1)).Nodup:=by
  rw [Je h2]
  exact List.Pairwise.map Sum.inr (fun a b (hab:a ≠ b) e=>hab (Sum.inr.inj e)) nd
 exact ⟨t,Qdn ndk ex,hT⟩
def spWW (K:Fg) (C:Addr):Sp:=fun vs H Q _=>∃ (p P:Addr) (n:Int) (B:List BR) (pl:List (Str × Str × Int)),vs=[.ref p,.ref P]/\FcAt K C H p n B/\BookOk n B/\PlanAt K H P pl/\PlanFor n B pl/\pl.length < 64/\∀ (D:Addr) (xs:List V) (H':Hp),Same H H'->H' D=some (.lst xs)->xs.length<=5200->TupK H' xs (B.flatMap (gW pl))->Q (.ref D) H'
theorem scIW:FnScope ["thing"] ["thing"] (Qg sIW):=⟨rfl,rfl,rfl,by decide +kernel,rfl,by decide +kernel,by decide +kernel⟩
theorem okIW (F:Fn K mg "is_whole" sIW) (M:Mg mg):Cal P w K mg base 1 "is_whole" ["thing"] (spIW K):=by
 refine Xi F scIW (fun _ _ _ _ _ _=>bind1 (fun _=>rfl)) (fun vs H Q E h=>?_) (fun f cdv A outer s H vs Q E hr h=>?_)
 ·obtain ⟨i,rfl,_⟩:=h
  rfl
 obtain ⟨i,rfl,q⟩:=h
 refine ⟨_,(Qh (Qw (Qfx (Qy Jr rfl M.isinstance Zb (Qa (pv 0) (Qa (Qjy M.int_ bt_int) Qe))) (Qfw (pe_not (Qy Jr rfl M.isinstance Zb (Qa (pv 0) (Qa (Qjy M.bool_ Qqb) Qe)))))))),?_⟩
 exact ⟨_,rfl,_,_,_,rfl,.int,rfl,_,rfl,_,rfl,_,_,_,rfl,.bool,rfl,_,rfl,q⟩
theorem scIP:FnScope ["thing"] ["thing"] (Qg sIP):=⟨rfl,rfl,rfl,by decide +kernel,rfl,by decide +kernel,by decide +kernel⟩
theorem okIP (F:Fn K mg "is_pair" sIP) (M:Mg mg):Cal P w K mg base 1 "is_pair" ["thing"] (spIP K):=by
 refine Xi F scIP (fun _ _ _ _ _ _=>bind1 (fun _=>rfl)) (fun vs H Q E h=>?_) (fun f cdv A outer s H vs Q E hr h=>?_)
 ·rcases h with ⟨rfl,_⟩ | ⟨t,a,b,rfl,_⟩ <;> rfl
 refine ⟨_,(Qh (Qw (Qfx (Qy Jr rfl M.isinstance Zb (Qa (pv 0) (Qa (Qjy M.tuple_ Yq) Qe))) (Qfw (Vb Yb (Qy Xo rfl M.len Jq (Qa (pv 0) Qe)) Qd (Qq _)))))),?_⟩
 rcases h with ⟨rfl,q⟩ | ⟨t,a,b,rfl,hT,q⟩
 ·exact ⟨_,rfl,_,_,_,rfl,.tuple,rfl,_,rfl,q⟩
 ·exact ⟨_,rfl,_,_,_,rfl,.tuple,.inl ⟨⟨_,hT⟩,rfl⟩,_,rfl,_,rfl,_,_,rfl,.inr hT,rfl,q⟩
theorem scTold:FnScope ["facts","work","thing"] ["facts","work","thing"] (Qg Qoa):=⟨rfl,rfl,rfl,by decide +kernel,rfl,by decide +kernel,by decide +kernel⟩
theorem okTold {C fY fL:Addr} {fdY fdL:FuncData} (F:Fn K mg "is_as_told" Qoa) (M:Mg mg) (T:FcTxt K mg C) (GY:FnOk P w K mg base CX0 1 fY fdY ["self","work","way"] (Qgs K C)) (bY:Binds K fdY ["self","work","way"] []) (mY:Meth K C "is_way" fY) (GL:FnOk P w K mg base CX0 1 fL fdL ["self","work","way"] (Qfh K C)) (bL:Binds K fdL ["self","work","way"] []) (mL:Meth K C "last_begin" fL) (c_is_whole:Cal P w K mg base 1 "is_whole" ["thing"] (spIW K)) (c_is_pair:Cal P w K mg base 1 "is_pair" ["thing"] (spIP K)):Cal P w K mg base 2 "is_as_told" ["facts","work","thing"] (Qpi K C):=by
 refine Xi F scTold (fun _ _ _ _ _ _=>Qii (fun _ _ _=>rfl)) (fun vs H Q E h=>?_) (fun f cdv A outer s H vs Q E hr h=>?_)
 ·obtain ⟨p,n,B,w,_,⟨rfl,_⟩ | ⟨t,v,b,l,c,rfl,_⟩⟩:=h <;> rfl
 refine ⟨_,(Qf (Yg (PW.pt (We (Wf (Vp (Xj c_is_pair (hr.mono (by decide)) (Qa (pv 2) Qe)))) (We (Wf (Vp (Qy Jr rfl M.isinstance Zb (Qa (Qo Xn (pv 2) Qd (fun _ _=>rfl)) (Qa (Qjy M.str_ bt_str) Qe))))) (Vq (Wf (Vp (Yj (pv 0) T.cl mY GY (hr.mono (by decide)) bY .nil Zd (Qa (pv 1) (Qa (Qo Xn (pv 2) Qd (fun _ _=>rfl)) Qe))))))))) (Qh (Qw Wc)) Qz)
  (Qh (Qw (Qfx (Xj c_is_whole (hr.mono (by decide)) (Qa (Qo Xn (pv 2) Qd (fun _ _=>rfl)) Qe)) (Qfw (Qfz Km Km Qd (Qo Xn (pv 2) Qd (fun _ _=>rfl)) (Yj (pv 0) T.cl mL GL (hr.mono (by decide)) bL .nil Zd (Qa (pv 1) (Qa (Qo Xn (pv 2) Qd (fun _ _=>rfl)) Qe))))))))),?_⟩
 obtain ⟨p,n,B,w,hFc,⟨rfl,q⟩ | ⟨t,v,b,l,c,rfl,hT,hway,b0,b1,q⟩⟩:=h
 ·refine ⟨_,rfl,.inl ⟨rfl,?_⟩⟩
  exact ⟨_,rfl,ite2 (fun _=>ite2 (fun _=>q H (Same.refl _)) (fun y=>absurd rfl y)) (fun y=>absurd rfl y)⟩
 obtain ⟨dx,lw,lb,lh,ls,la,ds,fs,kvs,yh,ysS,ya,hF⟩:=id hFc
 refine ⟨_,rfl,.inr ⟨t,_,_,rfl,hT,?_⟩⟩
 refine ⟨_,rfl,ite2 (fun y=>nomatch y) (fun _=>?_)⟩
 refine ⟨_,rfl,t,_,_,_,rfl,rfl,hT,(show atI [V.str v,V.int b] 0=some (.str v) from rfl),_,_,_,rfl,.str,rfl,_,rfl,ite2 (fun y=>nomatch y) (fun _=>?_)⟩
 refine ⟨_,rfl,p,dx,fs,rfl,hF.hp,hF.nY,_,rfl,_,rfl,t,_,_,_,rfl,rfl,hT,(show atI [V.str v,V.int b] 0=some (.str v) from rfl),?_⟩
 refine ⟨p,n,B,w,v,l,c,rfl,hFc,hway,fun H1 s1=>?_⟩
 refine ⟨_,rfl,ite2 (fun y=>nomatch y) (fun _=>?_)⟩
 have hT1:=s1.tup hT
 refine ⟨_,rfl,t,_,_,_,rfl,rfl,hT1,(show atI [V.str v,V.int b] 1=some (.int b) from rfl),b,rfl,_,rfl,ite2 (fun _=>?_) (fun y=>absurd rfl y)⟩
 refine ⟨_,rfl,t,_,_,_,rfl,rfl,hT1,(show atI [V.str v,V.int b] 1=some (.int b) from rfl),?_⟩
 refine ⟨_,_,rfl,rfl,_,rfl,ite2 (fun _=>?_) (fun y=>absurd (kQ b0) y)⟩
 refine ⟨_,rfl,p,dx,fs,rfl,s1 _ _ hF.hp,hF.nL,_,rfl,_,rfl,t,_,_,_,rfl,rfl,hT1,(show atI [V.str v,V.int b] 0=some (.str v) from rfl),p,n,B,w,v,l,c,rfl,hFc.same s1,hway,fun H2 s2=>⟨_,_,rfl,rfl,?_⟩⟩
 dsimp only
 rw [kQ (show b<=n - l by omega)]
 exact q _ (s1.trans s2)
theorem scWW:FnScope ["facts","plan","wrong"] ["facts","plan"] (Qg sWW):=⟨rfl,rfl,rfl,by decide +kernel,rfl,by decide +kernel,by decide +kernel⟩
theorem okWW {C:Addr} (F:Fn K mg "wrong_works" sWW) (M:Mg mg) (T:FcTxt K mg C) (c_is_as_told:Cal P w K mg base 2 "is_as_told" ["facts","work","thing"] (Qpi K C)):Cal P w K mg base 4 "wrong_works" ["facts","plan"] (spWW K C):=by
 refine Xi F scWW (fun _ _ _ _ _ _=>Zm (fun _ _=>rfl)) (fun vs H Q E h=>?_) (fun f cdv A outer s H vs Q E hr h=>?_)
 ·obtain ⟨p,P,n,B,pl,rfl,_⟩:=h
  rfl
 obtain ⟨p,P,n,B,pl,rfl,hFc,bk,hP,hpf,h64,q⟩:=h
 obtain ⟨dx,lw,lb,lh,ls,la,ds,fs,kvs,yh,ysS,ya,hF⟩:=id hFc
 have hz:(20000:Nat) < sizeLine:=by decide
 have hu:(A.deeper (PyProof.Rows.envOfC "wrong_works" (Qg sWW) s.heap.objs.size f cdv)).units + 1 < cLine:=zV (wQ (by decide) _) hr.un
 have bl:=bk.wb.len
 have wl:(wks B).length<=B.length:=yV _ _
 have fl:((wks B).filter (noK pl)).length<=(wks B).length:=jJa _ _
 have nd:=hpf.nd bk.wb
 rw [gW_eq] at q
 refine ⟨_,(Qf (Vd (i:=2) ["work","facts","plan"] [none,some 0,some 1] rfl scWW.nd rfl (Or.inl rfl) (Qt (Yi (pv 0) rfl)) (fun _ _ _=>(Ql (i:=0) (show (["work","facts","plan"]:List Str).Nodup by decide +kernel) rfl (Or.inl rfl) (Or.inr rfl))) (fun _ _ _=>(Zu (Wf (Vp (Xj c_is_as_told (hr.mono (by decide)) (Qa (pv 1) (Qa (pv 0) (Qa (Qmu hu (pv 2) (pv 0) ⟨rfl,rfl,rfl,rfl⟩) Qe)))))))) (fun _ _ _=>(pv 0)))
  (Qh (Qw (Yr ["work"] [none] rfl (Qt (Qj Kc (pv 2) (Yr ["work","facts"] [none,some 0] rfl (Qt (Qy (Qea rfl) rfl M.sorted Ws (Qa (pv 1) Qe))) (fun _ _ _=>(Ql (i:=0) (show (["work","facts"]:List Str).Nodup by decide +kernel) rfl (Or.inl rfl) (Or.inr rfl))) (fun _ _ _=>(Zu (Qn (Qbq (K:=K) rfl) (pv 0) (Qqy (K:=K) rfl (pv 1) rfl) rfl))) (fun _ _ _=>(pv 0))))) (fun _ _ _=>(Ql (i:=0) (show (["work"]:List Str).Nodup by decide +kernel) rfl (Or.inl rfl) (Or.inr rfl))) (fun _ _ _=>Yl) (fun _ _ _=>(Xd (Qa Xa (Qa (pv 0) Qe)))))))),?_⟩
 refine ⟨_,rfl,p,C,dx,fs,_,rfl,hF.hp,T.cl,T.nW,hF.fW,lw,rfl,⟨_,Qb hF.hW⟩,fun D hD=>?_⟩
 let Pv44:Nat->St->List V->Hp->Prop:=fun m τ zs H1=>∃ v:Option V,τ=[v,some (.ref p),some (.ref P)]/\zs=(((wks B).take m).filter (noK pl)).map V.str/\H1 D=some (.lst zs)/\Same H H1
 refine Ym (n:=(wks B).length) Pv44 ?_ (fun m τ zs H1 hm h=>?_) (fun m τ zs H1 hm h=>?_) (fun τ zs H1 h=>?_) ?_ ?_
 ·exact ⟨none,rfl,rfl,upd_same,Qc hD _⟩
 ·obtain ⟨v,rfl,rfl,hE,s1⟩:=h
  have:=jJa (noK pl) ((wks B).take m)
  rw [zK] at this
  exact ⟨hE,by rw [jX];omega⟩
 ·obtain ⟨v,rfl,rfl,hE,s1⟩:=h
  exact ⟨_,.str (wks B)[m],s1.seq (Qb hF.hW),by rw [yY,gE hm];rfl⟩
 ·obtain ⟨v,rfl,rfl,hE,s1⟩:=h
  exact ⟨_,s1.seq (Qb hF.hW),by rw [jX];exact jK _⟩
 ·rintro m τ zs H1 x H2 hm ⟨v,rfl,rfl,hE,s1⟩ ⟨rfl,e1⟩
  have ew:(wks B)[m]?=some (wks B)[m]:=gE hm
  have ex:=e1 _ (s1.seq (Qb hF.hW))
  rw [yY,ew] at ex
  cases ex
  generalize (wks B)[m]=wk at ew
  have hP1:=PlanAt.same hP s1
  obtain ⟨kvs1,hk1,hk2⟩:=id hP1
  refine ⟨_,rfl,_,rfl,_,rfl,P,rfl,.inl ⟨kvs1,.inl hk1⟩,_,rfl,_,DGet.k (k:=Sum.inr wk) hk1,?_⟩
  cases ehk:hasK pl wk with
  | false =>
   have en:valV kvs1 (Sum.inr wk)=none:=by
    have:=Qky (w:=wk) hk2
    rw [ehk] at this
    cases e:valV kvs1 (Sum.inr wk) with
    | none=>rfl
    | some v=>rw [e] at this;cases this
   rw [en]
   refine ⟨p,n,B,wk,hFc.same s1,.inl ⟨rfl,fun H3 s3=>⟨_,rfl,ite2 (fun y=>⟨_,rfl,s3 _ _ hE,_,rfl,?_,upd_same,fun b o e=>?_⟩) (fun y=>absurd rfl y)⟩⟩⟩
   ·rw [Ze ew,wX,kJ,kQd (by unfold noK;rw [ehk];rfl)];rfl
   ·rw [Qi (Qk e hD)];exact s3 _ _ (s1 _ _ e)
  | true =>
   obtain ⟨l,c,hmem,hway,b0,b1⟩:=hpf.get bk.wb ehk
   obtain ⟨t,en,hT⟩:=Qco hk2 nd hmem
   rw [en]
   refine ⟨p,n,B,wk,hFc.same s1,.inr ⟨t,_,_,l,c,rfl,hT,hway,b0,b1,fun H3 s3=>⟨_,rfl,ite2 (fun y=>nomatch y) (fun y=>⟨_,rfl,?_,s3 _ _ hE,s1.trans s3⟩)⟩⟩⟩
   rw [Ze ew,wX,kJ,kQe (by unfold noK;rw [ehk];decide)]
   simp
 rintro τ zs H1 ⟨v,rfl,rfl,hE,s1⟩
 rw [kW] at hE
 have hP1:=PlanAt.same hP s1
 obtain ⟨kvs1,hk1,hk2⟩:=id hP1
 have lk:=Paired.length hk2
 refine ⟨_,rfl,_,rfl,P,kvs1,pl.map (·.1),rfl,hk1,Je hk2,by omega,fun S qs hS hq _=>?_⟩
 have s2:=Qc hS (.lst (qs.map V.str))
 have s12:=s1.trans s2
 have lq:qs.length=pl.length:=by rw [hq.length_eq,jX]
 have hqs:(upd H1 S (.lst (qs.map V.str))) S=some (.lst (qs.map V.str)):=upd_same
 have hD2:=s2 _ _ hE
 generalize upd H1 S (.lst (qs.map V.str))=H2 at s2 s12 hqs hD2
 have qw:∀ x ∈ qs,x ∈ wks B:=fun x hx=>by
  have:=hq.mem_iff.mp hx
  rw [hpf.keys] at this
  exact this
 refine ⟨S,rfl,⟨_,Qb hqs⟩,fun D2 hD20=>?_⟩
 let Pv45:Nat->St->List V->Hp->Prop:=fun m τ zs H3=>∃ v:Option V,τ=[v,some (.ref p)]/\zs=[]/\H3 D2=some (.lst zs)/\Same H2 H3
 refine Ym (n:=qs.length) Pv45 ?_ (fun m τ zs H3 hm h=>?_) (fun m τ zs H3 hm h=>?_) (fun τ zs H3 h=>?_) ?_ ?_
 ·exact ⟨none,rfl,rfl,upd_same,Qc hD20 _⟩
 ·obtain ⟨v,rfl,rfl,hE,s3⟩:=h
  exact ⟨hE,by decide⟩
 ·obtain ⟨v,rfl,rfl,hE,s3⟩:=h
  exact ⟨_,.str qs[m],s3.seq (Qb hqs),by rw [yY,gE hm];rfl⟩
 ·obtain ⟨v,rfl,rfl,hE,s3⟩:=h
  exact ⟨_,s3.seq (Qb hqs),by rw [jX];exact jK _⟩
 ·rintro m τ zs H3 x H4 hm ⟨v,rfl,rfl,hE,s3⟩ ⟨rfl,e1⟩
  have ew:qs[m]?=some qs[m]:=gE hm
  have ex:=e1 _ (s3.seq (Qb hqs))
  rw [yY,ew] at ex
  cases ex
  have hin:=qw _ (kX ew)
  generalize qs[m]=wk at ew hin
  have s13:=s12.trans s3
  refine ⟨_,rfl,_,rfl,p,C,dx,fs,_,rfl,s13 _ _ hF.hp,T.cl,T.nW,hF.fW,lw,_,rfl,.inl (s13.seq (Qb hF.hW)),rfl,Qob _,_,rfl,ite2 (fun y=>?_) (fun y=>⟨_,rfl,rfl,hE,s3⟩)⟩
  have y':(!inV (.str wk) ((wks B).map V.str))=true:=y
  rw [Qru hin] at y'
  exact nomatch y'
 rintro τ zs H3 ⟨v,rfl,rfl,hE3,s3⟩
 refine ⟨D,D2,_,_,rfl,rfl,s3 _ _ hD2,hE3,?_,fun W hW0=>?_⟩
 ·rw [jX,kZd];omega
 rw [zZ]
 have s4:=Qc hW0 (.lst (((wks B).filter (noK pl)).map V.str))
 have hWx:(upd H3 W (.lst (((wks B).filter (noK pl)).map V.str))) W=some (.lst (((wks B).filter (noK pl)).map V.str)):=upd_same
 have sA:=(s12.trans s3).trans s4
 generalize upd H3 W (.lst (((wks B).filter (noK pl)).map V.str))=H4 at s4 hWx sA
 refine ⟨W,rfl,⟨_,Qb hWx⟩,fun D3 hD3=>?_⟩
 let Pv46:Nat->St->List V->Hp->Prop:=fun m τ xs H5=>∃ v:Option V,τ=[v]/\TupK H5 xs ((((wks B).filter (noK pl)).take m).map fun w=>[(Sum.inr ("work":Str):Key),Sum.inr w])/\xs.length<=m/\H5 D3=some (.lst xs)/\Same H4 H5
 refine Ym (n:=((wks B).filter (noK pl)).length) Pv46 ?_ (fun m τ xs H5 hm h=>?_) (fun m τ xs H5 hm h=>?_) (fun τ xs H5 h=>?_) ?_ ?_
 ·exact ⟨none,rfl,.nil,jK _,upd_same,Qc hD3 _⟩
 ·obtain ⟨v,rfl,hX,hl,hE,s5⟩:=h
  exact ⟨hE,by omega⟩
 ·obtain ⟨v,rfl,hX,hl,hE,s5⟩:=h
  exact ⟨_,.str ((wks B).filter (noK pl))[m],s5.seq (Qb hWx),by rw [yY,gE hm];rfl⟩
 ·obtain ⟨v,rfl,hX,hl,hE,s5⟩:=h
  exact ⟨_,s5.seq (Qb hWx),by rw [jX];exact jK _⟩
 ·rintro m τ xs H5 x H6 hm ⟨v,rfl,hX,hl,hE,s5⟩ ⟨rfl,e1⟩
  have ew:((wks B).filter (noK pl))[m]?=some ((wks B).filter (noK pl))[m]:=gE hm
  have ex:=e1 _ (s5.seq (Qb hWx))
  rw [yY,ew] at ex
  cases ex
  generalize ((wks B).filter (noK pl))[m]=wk at ew
  refine ⟨_,rfl,by show 2<=sizeLine;decide,fun t2 ht2=>?_⟩
  have s7:=Qc ht2 (.tup [.str "work",.str wk])
  have hE7:=s7 _ _ hE
  refine ⟨hE7,_,rfl,?_,by rw [jY];exact wJ hl,upd_same,fun b o e=>?_⟩
  ·rw [Ze ew,kJ]
   exact Paired.snoc ((hX.same s7).updL hE7) ⟨t2,rfl,by rw [Qi (Yp upd_same hE7 (by intro z;cases z))];exact upd_same⟩
  ·rw [Qi (Qk e hD3)];exact s7 _ _ (s5 _ _ e)
 ·rintro τ xs H5 ⟨v,rfl,hX,hl,hE,s5⟩
  rw [kW] at hX
  exact q D3 xs H5 (sA.trans s5) hE (by omega) hX
abbrev Qcp:Stmt:=top 28
theorem Xy (e:DictEntry) (l:List DictEntry) (x:Str) (t:Tok) (h:e.key=.str x t) (s:Str):PySem.findBy PySem.Value.isStrOf ⟨e :: l⟩ s=if s=x then some e.val else PySem.findBy PySem.Value.isStrOf ⟨l⟩ s:=by
 unfold PySem.findBy
 rw [List.find?_toArray,List.find?_toArray,jJf]
 by_cases hs:s=x
 ·subst hs
  rw [if_pos rfl,h]
  have:PySem.Value.isStrOf s (.str s t)=true:=by simp [PySem.Value.isStrOf]
  rw [this]
  rfl
 ·rw [if_neg hs,h]
  have:PySem.Value.isStrOf s (.str x t)=false:=by simp [PySem.Value.isStrOf];exact fun z=>hs z.symm
  rw [this]
theorem Qlq {w:World} {K:Fg} {mg:Str->Option Value} {aN:Addr} {es:Array DictEntry} {m:Nat} {h1 h2 h3 h4 h5 h6 h7 h8 h9 h10 h11:Int} {t1 j1 t2 j2 t3 j3 t4 j4 t5 j5 t6 j6 t7 j7 t8 j8 t9 j9 t10 j10 t11 j11:Tok}
  (b1:mg "NAMES"=some (.ref aN)) (l1:K.lookup aN=some ⟨.type "dict",none,.dict es m,#[]⟩) (k1:PySem.W.KeysLit w.params es.toList) (o1:(aN == sysModules)=false) (e1:es=⟨[⟨h1,.str "days" t1,.int 0 j1⟩,⟨h2,.str "bench" t2,.int 1 j2⟩,⟨h3,.str "shut" t3,.int 1 j3⟩,⟨h4,.str "store" t4,.int 1 j4⟩,⟨h5,.str "work" t5,.int 1 j5⟩,⟨h6,.str "way" t6,.int 2 j6⟩,⟨h7,.str "uses" t7,.int 3 j7⟩,⟨h8,.str "takes" t8,.int 3 j8⟩,⟨h9,.str "gives" t9,.int 3 j9⟩,⟨h10,.str "after" t10,.int 2 j10⟩,⟨h11,.str "late" t11,.int 1 j11⟩]⟩):∃ fN,Tab w K mg "NAMES" aN fN/\Qce fN:=by
 refine ⟨_,tab_mk b1 l1 k1 o1,fun r=>?_⟩
 have ef:∀ s:Str,PySem.findBy PySem.Value.isStrOf es s=if s="days" then some (.int 0 j1) else if s="bench" then some (.int 1 j2) else if s="shut" then some (.int 1 j3) else if s="store" then some (.int 1 j4) else if s="work" then some (.int 1 j5) else if s="way" then some (.int 2 j6) else if s="uses" then some (.int 3 j7) else if s="takes" then some (.int 3 j8) else if s="gives" then some (.int 3 j9) else if s="after" then some (.int 2 j10) else if s="late" then some (.int 1 j11) else none:=fun s=>by
  subst e1
  rw [Xy _ _ "days" t1 rfl,Xy _ _ "bench" t2 rfl,Xy _ _ "shut" t3 rfl,Xy _ _ "store" t4 rfl,Xy _ _ "work" t5 rfl,Xy _ _ "way" t6 rfl,Xy _ _ "uses" t7 rfl,Xy _ _ "takes" t8 rfl,Xy _ _ "gives" t9 rfl,Xy _ _ "after" t10 rfl,Xy _ _ "late" t11 rfl]
  rfl
 cases r with
 | days n=>exact ⟨j1,by rw [ef];rw [if_pos (show (BR.days n).word="days" from rfl)];rfl⟩
 | bench b r=>exact ⟨j2,by rw [ef];rw [if_neg (by show ¬ (("bench":Str)="days");decide +kernel),if_pos (show (BR.bench b r).word="bench" from rfl)];rfl⟩
 | shut b f t=>exact ⟨j3,by rw [ef];rw [if_neg (by show ¬ (("shut":Str)="days");decide +kernel),if_neg (by show ¬ (("shut":Str)="bench");decide +kernel),if_pos (show (BR.shut b f t).word="shut" from rfl)];rfl⟩
 | store b m f=>exact ⟨j4,by rw [ef];rw [if_neg (by show ¬ (("store":Str)="days");decide +kernel),if_neg (by show ¬ (("store":Str)="bench");decide +kernel),if_neg (by show ¬ (("store":Str)="shut");decide +kernel),if_pos (show (BR.store b m f).word="store" from rfl)];rfl⟩
 | work w=>exact ⟨j5,by rw [ef];rw [if_neg (by show ¬ (("work":Str)="days");decide +kernel),if_neg (by show ¬ (("work":Str)="bench");decide +kernel),if_neg (by show ¬ (("work":Str)="shut");decide +kernel),if_neg (by show ¬ (("work":Str)="store");decide +kernel),if_pos (show (BR.work w).word="work" from rfl)];rfl⟩
 | way w v l c=>exact ⟨j6,by rw [ef];rw [if_neg (by show ¬ (("way":Str)="days");decide +kernel),if_neg (by show ¬ (("way":Str)="bench");decide +kernel),if_neg (by show ¬ (("way":Str)="shut");decide +kernel),if_neg (by show ¬ (("way":Str)="store");decide +kernel),if_neg (by show ¬ (("way":Str)="work");decide +kernel),if_pos (show (BR.way w v l c).word="way" from rfl)];rfl⟩
 | use k w v t m=>match k with
  | 0=>exact ⟨j7,by rw [ef];rw [if_neg (by show ¬ (("uses":Str)="days");decide +kernel),if_neg (by show ¬ (("uses":Str)="bench");decide +kernel),if_neg (by show ¬ (("uses":Str)="shut");decide +kernel),if_neg (by show ¬ (("uses":Str)="store");decide +kernel),if_neg (by show ¬ (("uses":Str)="work");decide +kernel),if_neg (by show ¬ (("uses":Str)="way");decide +kernel),if_pos (show (BR.use 0 w v t m).word="uses" from rfl)];rfl⟩
  | 1=>exact ⟨j8,by rw [ef];rw [if_neg (by show ¬ (("takes":Str)="days");decide +kernel),if_neg (by show ¬ (("takes":Str)="bench");decide +kernel),if_neg (by show ¬ (("takes":Str)="shut");decide +kernel),if_neg (by show ¬ (("takes":Str)="store");decide +kernel),if_neg (by show ¬ (("takes":Str)="work");decide +kernel),if_neg (by show ¬ (("takes":Str)="way");decide +kernel),if_neg (by show ¬ (("takes":Str)="uses");decide +kernel),if_pos (show (BR.use 1 w v t m).word="takes" from rfl)];rfl⟩
  | 2=>exact ⟨j9,by rw [ef];rw [if_neg (by show ¬ (("gives":Str)="days");decide +kernel),if_neg (by show ¬ (("gives":Str)="bench");decide +kernel),if_neg (by show ¬ (("gives":Str)="shut");decide +kernel),if_neg (by show ¬ (("gives":Str)="store");decide +kernel),if_neg (by show ¬ (("gives":Str)="work");decide +kernel),if_neg (by show ¬ (("gives":Str)="way");decide +kernel),if_neg (by show ¬ (("gives":Str)="uses");decide +kernel),if_neg (by show ¬ (("gives":Str)="takes");decide +kernel),if_pos (show (BR.use 2 w v t m).word="gives" from rfl)];rfl⟩
 | after w x g=>exact ⟨j10,by rw [ef];rw [if_neg (by show ¬ (("after":Str)="days");decide +kernel),if_neg (by show ¬ (("after":Str)="bench");decide +kernel),if_neg (by show ¬ (("after":Str)="shut");decide +kernel),if_neg (by show ¬ (("after":Str)="store");decide +kernel),if_neg (by show ¬ (("after":Str)="work");decide +kernel),if_neg (by show ¬ (("after":Str)="way");decide +kernel),if_neg (by show ¬ (("after":Str)="uses");decide +kernel),if_neg (by show ¬ (("after":Str)="takes");decide +kernel),if_neg (by show ¬ (("after":Str)="gives");decide +kernel),if_pos (show (BR.after w x g).word="after" from rfl)];rfl⟩
 | late w d c=>exact ⟨j11,by rw [ef];rw [if_neg (by show ¬ (("late":Str)="days");decide +kernel),if_neg (by show ¬ (("late":Str)="bench");decide +kernel),if_neg (by show ¬ (("late":Str)="shut");decide +kernel),if_neg (by show ¬ (("late":Str)="store");decide +kernel),if_neg (by show ¬ (("late":Str)="work");decide +kernel),if_neg (by show ¬ (("late":Str)="way");decide +kernel),if_neg (by show ¬ (("late":Str)="uses");decide +kernel),if_neg (by show ¬ (("late":Str)="takes");decide +kernel),if_neg (by show ¬ (("late":Str)="gives");decide +kernel),if_neg (by show ¬ (("late":Str)="after");decide +kernel),if_pos (show (BR.late w d c).word="late" from rfl)];rfl⟩
theorem Qrv {α:Type} [DecidableEq α]:∀ {l m:List α},l.Nodup->(∀ x ∈ l,x ∈ m)->l.length<=m.length
 | [],_,_,_=>jXe _
 | a :: l,m,nd,h=>by
  obtain ⟨n1,n2⟩:=jYc.mp nd
  have ha:=h a kZ
  have:=Qrv (m:=m.erase a) n2 fun x hx=>(List.mem_erase_of_ne (fun e=>n1 (by rw [← e];exact hx))).mpr (h x (yZ _ hx))
  rw [List.length_erase_of_mem ha] at this
  have:=List.length_pos_of_mem ha
  rw [xW]
  omega
theorem Qoc {n:Int} {B:List BR} {pl:List (Str × Str × Int)} (wb:WB n B) (h:PlanFor n B pl):pl.length < 64:=by
 obtain ⟨nm,l5,hm⟩:=wb.few
 have:=Qrv (h.nd wb) (m:=nm) fun x hx=>by
  rw [h.keys] at hx
  exact hm _ (wks_mem.mp hx) x (by show x ∈ [x];exact kZ)
 rw [jX] at this
 omega
theorem TupK.app {H:Hp} {a b:List V} {ks ls:List (List Key)} (h1:TupK H a ks) (h2:TupK H b ls):TupK H (a ++ b) (ks ++ ls):=by
 unfold TupK at h1 h2 ⊢
 induction h1 with
 | nil=>exact h2
 | cons z _ ih=>exact .cons z ih
theorem scBroken:FnScope ["book","plan","facts","wrong","taken"] ["book","plan"] (Qg Qcp):=⟨rfl,rfl,rfl,by decide +kernel,rfl,by decide +kernel,by decide +kernel⟩
theorem Qod {C fI:Addr} {fdI:FuncData} (F:Fn K mg "broken" Qcp) (M:Mg mg) (T:FcTxt K mg C) (mkI:Mk K C fI) (GI:FnOk P w K mg base CX0 2 fI fdI ["self","book"] (Vk K C)) (bI:Binds K fdI ["self","book"] []) (c_wrong_works:Cal P w K mg base 4 "wrong_works" ["facts","plan"] (spWW K C)) (c_choices_taken:Cal P w K mg base 1 "choices_taken" ["facts","plan"] (Qfs K C)) (c_wrong_rooms:Cal P w K mg base 4 "wrong_rooms" ["facts","taken"] (spWR K C)) (c_wrong_stores:Cal P w K mg base 4 "wrong_stores" ["facts","taken"] (spWS K C)) (c_wrong_afters:Cal P w K mg base 4 "wrong_afters" ["facts","taken"] (spWA K C)):Cal P w K mg base 5 "broken" ["book","plan"] (spDue K):=by
 refine Xi F scBroken (fun _ _ _ _ _ _=>Zm (fun _ _=>rfl)) (fun vs H Q E h=>?_) (fun f cdv A outer s H vs Q E hr h=>?_)
 ·obtain ⟨d,P,n,us,B,pl,rfl,_⟩:=h
  rfl
 obtain ⟨d,P,n,us,B,pl,rfl,hd,hB,bk,hP,hpf,q⟩:=h
 have hz:(20000:Nat) < sizeLine:=by decide
 refine ⟨_,(Qf (Qp (i:=2) scBroken.nd rfl (Or.inl rfl) (Wl mkI GI (hr.mono (by decide)) rfl T.mgC bI .nil Zd (Qa (pv 0) Qe)))
  (Qf (Qp (i:=3) scBroken.nd rfl (Or.inl rfl) (Xj c_wrong_works (hr.mono (by decide)) (Qa (pv 2) (Qa (pv 1) Qe))))
  (Qf (Yg (Qn Yb (Qy Xo rfl M.len Jq (Qa (pv 3) Qe)) Qd (Qq _)) (Qf (Qp (i:=4) scBroken.nd rfl (Or.inl rfl) (Xj c_choices_taken (hr.mono (by decide)) (Qa (pv 2) (Qa (pv 1) Qe))))
  (Qh (Qp (i:=3) scBroken.nd rfl (Or.inl rfl) (Qj Kc (Qj Kc (Xj c_wrong_rooms (hr.mono (by decide)) (Qa (pv 2) (Qa (pv 4) Qe))) (Xj c_wrong_stores (hr.mono (by decide)) (Qa (pv 2) (Qa (pv 4) Qe)))) (Xj c_wrong_afters (hr.mono (by decide)) (Qa (pv 2) (Qa (pv 4) Qe))))))) Qz)
  (Qh (Qw (Kk (Qn Qje (Qy Xo rfl M.len Jq (Qa (pv 3) Qe)) Qd (Qq _)) (Qo Qm (pv 3) Qd (fun _ _=>rfl)) Qot)))))),?_⟩
 refine ⟨_,rfl,fun p dx fp fdx ndx=>?_⟩
 dsimp only [tNil]
 have s1:Same H (upd (upd H dx (.own p)) p (.ins C dx [])):=(Qc fdx _).trans (Qc (by rw [Qi ndx.symm];exact fp) _)
 have hp1:upd (upd H dx (.own p)) p (.ins C dx []) p=some (.ins C dx []):=upd_same
 generalize upd (upd H dx (.own p)) p (.ins C dx [])=H1 at s1 hp1 ⊢
 refine ⟨p,d,dx,n,us,B,rfl,hp1,s1 _ _ hd,hB.same s1,bk,fun H2 hF fr=>⟨rfl,?_⟩⟩
 have s2:Same H H2:=fun b o e=>fr b o (s1 _ _ e) (Qk e fp)
 refine ⟨_,rfl,_,rfl,p,P,n,B,pl,rfl,hF,bk,PlanAt.same hP s2,hpf,Qoc bk.wb hpf,fun D xs H3 s3 hD hl hX=>?_⟩
 have s23:=s2.trans s3
 refine ⟨_,rfl,_,_,rfl,.inl (Qb hD),rfl,_,rfl,ite2 (fun y=>?_) (fun y=>?_)⟩
 rotate_left
 ·have eD:dueF n B pl=(B.flatMap (gW pl)).head?:=by
   unfold dueF
   cases e:B.flatMap (gW pl) with
   | nil =>
    rw [e] at hX
    cases hX
    exact absurd rfl y
   | cons k r=>rfl
  generalize B.flatMap (gW pl)=ks at eD hX
  refine ⟨_,rfl,_,_,rfl,.inl (Qb hD),_,_,rfl,rfl,_,rfl,ite2 (fun y=>?_) (fun y=>?_)⟩
  ·cases hX with
   | nil=>exact nomatch y
   | cons z zs =>
    obtain ⟨t,rfl,ht⟩:=z
    exact ⟨_,rfl,D,_,_,_,rfl,rfl,Qb hD,(show atI (V.ref t :: _) ((0:Nat):Int)=some (V.ref t) from Vc rfl),q (.ref t) H3 s23 (by rw [eD];exact ⟨t,rfl,ht⟩)⟩
  ·cases hX with
   | nil=>exact q .non H3 s23 (by rw [eD];rfl)
   | cons z zs=>exact absurd (kQ (by rw [xW];omega)) y
 have hW:B.flatMap (gW pl)=[]:=by
  cases e:B.flatMap (gW pl) with
  | nil=>rfl
  | cons k r =>
   rw [e] at hX
   cases hX
   exact nomatch y
 have hF3:=hF.same s3
 refine ⟨_,rfl,_,rfl,p,P,n,B,pl,rfl,hF3,bk,PlanAt.same hP s23,hpf,hW,fun tk ys H4 s4 htk hTk=>?_⟩
 have hF4:=hF3.same s4
 refine ⟨_,rfl,_,rfl,p,tk,n,B,pl,ys,rfl,hF4,bk,hpf,hW,htk,hTk,fun D1 x1 H5 s5 h1 l1 t1=>?_⟩
 have hTk5:Zz K H5 pl ys (wks B):=Paired.mapP hTk fun _ _ ⟨t,e,z⟩=>⟨t,e,s5.tup z⟩
 refine ⟨_,rfl,_,rfl,p,tk,n,B,pl,ys,rfl,hF4.same s5,bk,hpf,hW,s5 _ _ htk,hTk5,fun D2 x2 H6 s6 h2 l2 t2=>?_⟩
 refine ⟨D1,D2,x1,x2,rfl,rfl,s6 _ _ h1,h2,by omega,fun W1 hW1=>?_⟩
 have s7:=Qc hW1 (.lst (x1 ++ x2))
 have h7:(upd H6 W1 (.lst (x1 ++ x2))) W1=some (.lst (x1 ++ x2)):=upd_same
 have t7:=(TupK.app (t1.same s6) t2).same s7
 generalize upd H6 W1 (.lst (x1 ++ x2))=H7 at s7 h7 t7
 have s57:=s6.trans s7
 have hTk7:Zz K H7 pl ys (wks B):=Paired.mapP hTk5 fun _ _ ⟨t,e,z⟩=>⟨t,e,s57.tup z⟩
 refine ⟨_,rfl,_,rfl,p,tk,n,B,pl,ys,rfl,(hF4.same s5).same s57,bk,hpf,hW,s57 _ _ (s5 _ _ htk),hTk7,fun D3 x3 H8 s8 h3 l3 t3=>?_⟩
 refine ⟨W1,D3,x1 ++ x2,x3,rfl,rfl,s8 _ _ h7,h3,by rw [jY];omega,fun W2 hW2=>?_⟩
 have s9:=Qc hW2 (.lst (x1 ++ x2 ++ x3))
 have h9:(upd H8 W2 (.lst (x1 ++ x2 ++ x3))) W2=some (.lst (x1 ++ x2 ++ x3)):=upd_same
 have t9:=(TupK.app (t7.same s8) t3).same s9
 generalize upd H8 W2 (.lst (x1 ++ x2 ++ x3))=H9 at s9 h9 t9
 have sA:Same H H9:=((((s23.trans s4).trans s5).trans s57).trans s8).trans s9
 have eD:dueF n B pl=(B.flatMap (gR n B pl) ++ B.flatMap (gS n B pl) ++ B.flatMap (gA B pl)).head?:=by
  unfold dueF
  rw [hW,List.nil_append,xV]
 generalize x1 ++ x2 ++ x3=xs at h9 t9
 generalize B.flatMap (gR n B pl) ++ B.flatMap (gS n B pl) ++ B.flatMap (gA B pl)=ks at eD t9
 refine ⟨_,rfl,_,_,rfl,.inl (Qb h9),_,_,rfl,rfl,_,rfl,ite2 (fun y=>?_) (fun y=>?_)⟩
 ·cases t9 with
  | nil=>exact nomatch y
  | cons z zs =>
   obtain ⟨t,rfl,ht⟩:=z
   exact ⟨_,rfl,W2,_,_,_,rfl,rfl,Qb h9,(show atI (V.ref t :: _) ((0:Nat):Int)=some (V.ref t) from Vc rfl),q (.ref t) H9 sA (by rw [eD];exact ⟨t,rfl,ht⟩)⟩
 ·cases t9 with
  | nil=>exact q .non H9 sA (by rw [eD];rfl)
  | cons z zs=>exact absurd (kQ (by rw [xW];omega)) y
abbrev Qoe:Stmt:=top 9
theorem Qlr {X:Cx} {K:Fg} (hK:X.K=K):SlR X (rSlT K):=by subst hK;exact Qcz
theorem ChI.at {K:Fg} {H0 H:Hp} {g:Addr} {A:List Ch} (h:ChI K H0 H g A) (fw:A.length<=2000000):ChsAt K H g A:=by obtain ⟨ys,h1,h2⟩:=h.ex;exact ⟨⟨ys,Qb h1,h2⟩,fw⟩
def selC (pl:List Ch) (c:Ch):Bool:=decide (look pl c.1=c.2)
def ptC (pl:List Ch) (c:Ch):Int:=if selC pl c=true then 1 else 0
theorem Qbd {α:Type} [DecidableEq α] {p:α->Bool} {a:α}:∀ {l:List α},l.Nodup->a ∈ l->(∀ x ∈ l,p x=true ↔ x=a)->l.filter p=[a]
 | b :: l,nd,hm,h=>by
  obtain ⟨n1,n2⟩:=jYc.mp nd
  rw [jXd]
  by_cases e:b=a
  ·rw [if_pos ((h b (kZ ..)).mpr e),e,jYe.mpr fun x hx hp=>?_]
   have:=(h x (yZ _ hx)).mp hp
   rw [this,← e] at hx
   exact n1 hx
  ·rw [if_neg (fun z=>e ((h b (kZ ..)).mp z))]
   exact Qbd n2 ((yX.mp hm).resolve_left fun z=>e z.symm) fun x hx=>h x (yZ _ hx)
theorem Kz {α β:Type} {f:α->List β}:∀ {l:List α},(∀ x ∈ l,(f x).Nodup)->l.Pairwise (fun x y=>∀ z ∈ f x,z ∉ f y)->(l.flatMap f).Nodup
 | [],_,_=>List.nodup_nil
 | a :: l,h1,h2=>by
  rw [wW]
  rw [jZe] at h2
  refine List.nodup_append.mpr ⟨h1 a (kZ ..),Kz (fun x hx=>h1 x (yZ _ hx)) h2.2,fun x hx y hy e=>?_⟩
  obtain ⟨b,hb,hy⟩:=zW.mp hy
  rw [← e] at hy
  exact h2.1 b hb x hx hy
theorem wys_nd {n:Int} {B:List BR} (wb:WB n B) (w:Str):(B.filterMap (wayR w)).Pairwise fun x y=>x.1 ≠ y.1:=by
 rw [kQf]
 refine wb.nd.imp fun {r q} ha x hx y hy=>?_
 have e1:=wayR_some.mp hx
 have e2:=wayR_some.mp hy
 subst e1 e2
 intro e
 have ns:¬ ("way":Str)="shut":=by decide +kernel
 rcases ha with z | z | z
 ·exact ns z
 ·exact ns z
 ·exact z (by show [(Sum.inr ("way":Str):Key),Sum.inr w,Sum.inr x.1]=[Sum.inr ("way":Str),Sum.inr w,Sum.inr y.1];rw [e])
theorem chO_nd {n:Int} {B:List BR} (wb:WB n B) (w:Str):(chO n B w).Nodup:=by
 refine Kz (fun x _=>?_) ((wys_nd wb w).imp fun {x y} ne z hz hz'=>?_)
 ·unfold chW
  refine List.Pairwise.map _ (fun a b (h:a ≠ b) e=>?_) List.nodup_range
  injection e with _ e
  injection e with _ e
  exact h (Int.ofNat.inj e)
 ·obtain ⟨b,_,rfl⟩:=xQ.mp hz
  obtain ⟨b',_,e⟩:=xQ.mp hz'
  injection e with _ e
  injection e with e _
  exact ne e.symm
theorem Qrw {n:Int} {B:List BR} {w v:Str} {b l c:Int} (h:BR.way w v l c ∈ B) (b0:0<=b) (b1:b + l<=n):(w,v,b) ∈ chO n B w:=by
 refine zW.mpr ⟨(v,l,c),yJ.mpr ⟨_,h,wayR_some.mpr rfl⟩,xQ.mpr ⟨b.toNat,jYb.mpr (by show b.toNat < (n - l + 1).toNat;omega),?_⟩⟩
 show (w,v,((b.toNat:Nat):Int))=(w,v,b)
 rw [Int.toNat_of_nonneg b0]
theorem Qls {n:Int} {B:List BR} {pl:List Ch} (h:PlanFor n B pl) (wb:WB n B):pl=(wks B).map fun w=>(w,look pl w):=by
 rw [← h.keys,jKc]
 refine (List.map_id pl).symm.trans (wK fun p hp=>?_)
 obtain ⟨w,v,b⟩:=p
 show (w,v,b)=(w,look pl w)
 rw [Vh (h.nd wb) hp]
theorem Vt {n:Int} {B:List BR} {pl:List Ch} (h:PlanFor n B pl) {w:Str} (hw:w ∈ wks B):hasK pl w=true:=hasK_iff.mpr (by rw [h.keys];exact hw)
theorem Qpj {n:Int} {B:List BR} {pl:List Ch} (h:PlanFor n B pl) (wb:WB n B):(chs n B).filter (selC pl)=pl:=by
 have e:∀ ws:List Str,(∀ w ∈ ws,w ∈ wks B)->(ws.flatMap (chO n B)).filter (selC pl)=ws.map fun w=>(w,look pl w):=by
  intro ws
  induction ws with
  | nil=>intro _;rfl
  | cons w ws ih =>
   intro hs
   obtain ⟨l,c,_,hw,b0,b1⟩:=h.get wb (Vt h (hs w (kZ ..)))
   rw [wW,wX,yQ,ih fun x hx=>hs x (yZ _ hx),Qbd (a:=(w,look pl w)) (chO_nd wb w) (Qrw hw b0 b1) fun x hx=>?_]
   ·rfl
   ·have ex:=(Jb hx).1
    unfold selC
    rw [decide_eq_true_iff,ex]
    exact ⟨fun z=>Prod.ext ex z.symm,fun z=>by rw [z]⟩
 exact (e (wks B) fun _ z=>z).trans (Qls h wb).symm
theorem chs_wk {n:Int} {B:List BR} {c:Ch} (h:c ∈ chs n B):c.1 ∈ wks B:=by
 obtain ⟨w,hw,hc⟩:=zW.mp h
 rw [(Jb hc).1];exact hw
theorem Qlt {pl:List Ch} (f:Ch->Int):∀ A:List Ch,(List.zipWith (· * ·) (A.map f) (A.map (ptC pl))).sum=((A.filter (selC pl)).map f).sum
 | []=>rfl
 | c :: A=>by
  rw [yQ,yQ,jJe,xX,Qlt f A,jXd]
  unfold ptC
  by_cases h:selC pl c=true
  ·rw [if_pos h,if_pos h,yQ,xX,Int.mul_one]
  ·rw [if_neg h,if_neg h,Int.mul_zero,jYd]
def Qhf (K:Fg):Sp:=fun vs H Q _=>∃ (d:Addr) (n:Int) (us:List V) (B:List BR),vs=[.ref d]/\H d=some (.lst us)/\RowsB H us B/\BookOk n B/\∀ (g:Addr) (H':Hp),ChI K H H' g (chs n B)->Q (.ref g) H'
theorem scChoi:FnScope ["book"] ["book"] (Qg Qoe):=⟨rfl,rfl,rfl,by decide +kernel,rfl,by decide +kernel,by decide +kernel⟩
theorem okChoi {C:Addr} {fA:Addr} {fdA:FuncData} {fI:Addr} {fdI:FuncData} (F:Fn K mg "choices" Qoe) (M:Mg mg) (T:FcTxt K mg C) (mkI:Mk K C fI) (GI:FnOk P w K mg base CX0 2 fI fdI ["self","book"] (Vk K C)) (bI:Binds K fdI ["self","book"] []) (GA:FnOk P w K mg base CX0 2 fA fdA ["self"] (Qha K C)) (bA:Binds K fdA ["self"] []) (mA:Meth K C "all_choices" fA):Cal P w K mg base 4 "choices" ["book"] (Qhf K):=by
 refine Xi F scChoi (fun _ _ _ _ _ _=>bind1 (fun _=>rfl)) (fun vs H Q E h=>?_) (fun f cdv A outer s H vs Q E hr h=>?_)
 ·obtain ⟨d,n,us,B,rfl,_⟩:=h
  rfl
 obtain ⟨d,n,us,B,rfl,hd,hB,bk,q⟩:=h
 refine ⟨_,(Qh (Qw (Qbi (Wl mkI GI (hr.mono (by decide)) rfl T.mgC bI .nil Zd (Qa (pv 0) Qe)) T.cl mA GA (hr.mono (by decide)) bA .nil Zd))),?_⟩
 refine ⟨_,rfl,fun p dx fp fdx ndx=>?_⟩
 dsimp only [tNil]
 have s1:Same H (upd (upd H dx (.own p)) p (.ins C dx [])):=(Qc fdx _).trans (Qc (by rw [Qi ndx.symm];exact fp) _)
 have hp1:upd (upd H dx (.own p)) p (.ins C dx []) p=some (.ins C dx []):=upd_same
 generalize upd (upd H dx (.own p)) p (.ins C dx [])=H1 at s1 hp1 ⊢
 refine ⟨p,d,dx,n,us,B,rfl,hp1,s1 _ _ hd,hB.same s1,bk,fun H2 hFc fr=>⟨rfl,?_⟩⟩
 have s2:Same H H2:=fun b o e=>fr b o (s1 _ _ e) (Qk e fp)
 obtain ⟨dx2,lw,lb,lh,ls,la,ds,fs,kvs,yh,ysS,ya,hF⟩:=id hFc
 refine ⟨p,dx2,fs,rfl,hF.hp,hF.nC,?_⟩
 exact ⟨p,n,B,rfl,hFc,bk,fun g H3 cA=>q g H3 ⟨s2.free cA.fr,s2.trans cA.sm,cA.ex⟩⟩
abbrev sCoP:Stmt:=top 22
theorem Qeg {K:Fg} {H:Hp} {pl:List Ch}:∀ {ys:List V} {ws:List Str},Zz K H pl ys ws->ChsAre K H ys (ws.map fun w=>(w,look pl w))
 | _,_,.nil=>.nil
 | _,_,.cons z r=>.cons z (Qeg r)
theorem Qpk {n:Int} {B:List BR} {pl:List Ch} (h:PlanFor n B pl):B.flatMap (gW pl)=[]:=jQf.mpr fun r hr=>by
 cases r with
 | work w=>exact if_pos (Vt h (wks_mem.mpr hr))
 | _=>rfl
theorem pl_len {n:Int} {B:List BR} {pl:List Ch} (h:PlanFor n B pl) (bk:BookOk n B):pl.length<=400:=by
 have e:=congrArg List.length h.keys
 rw [jX] at e
 have b2:(wks B).length<=B.length:=yV Xz B
 have:=bk.wb.len
 omega
def spCoP (K:Fg):Sp:=fun vs H Q _=>∃ (d P:Addr) (n:Int) (us:List V) (B:List BR) (pl:List Ch),vs=[.ref d,.ref P]/\H d=some (.lst us)/\RowsB H us B/\BookOk n B/\PlanAt K H P pl/\PlanFor n B pl/\∀ (H':Hp),Same H H'->Q (.int (pl.map (prcC B)).sum) H'
theorem scCoP:FnScope ["book","plan","facts"] ["book","plan"] (Qg sCoP):=⟨rfl,rfl,rfl,by decide +kernel,rfl,by decide +kernel,by decide +kernel⟩
theorem okCoP {C:Addr} {fP:Addr} {fdP:FuncData} {fI:Addr} {fdI:FuncData} (F:Fn K mg "cost_of_plan" sCoP) (M:Mg mg) (T:FcTxt K mg C) (mkI:Mk K C fI) (GI:FnOk P w K mg base CX0 2 fI fdI ["self","book"] (Vk K C)) (bI:Binds K fdI ["self","book"] []) (GP:FnOk P w K mg base CX0 2 fP fdP ["self","choice"] (Qci K C)) (bP:Binds K fdP ["self","choice"] []) (mP:Meth K C "price_of" fP) (c_choices_taken:Cal P w K mg base 1 "choices_taken" ["facts","plan"] (Qfs K C)):Cal P w K mg base 4 "cost_of_plan" ["book","plan"] (spCoP K):=by
 refine Xi F scCoP (fun _ _ _ _ _ _=>Zm (fun _ _=>rfl)) (fun vs H Q E h=>?_) (fun f cdv A outer s H vs Q E hr h=>?_)
 ·obtain ⟨d,P,n,us,B,pl,rfl,_⟩:=h
  rfl
 obtain ⟨d,P,n,us,B,pl,rfl,hd,hB,bk,hP,hpf,q⟩:=h
 refine ⟨_,(Qf (Qp (i:=2) scCoP.nd rfl (Or.inr rfl) (Wl mkI GI (hr.mono (by decide)) rfl T.mgC bI .nil Zd (Qa (pv 0) Qe)))
  (Qh (Qw (Qy (Ko rfl) rfl M.sum Qgf (Qa (Yr ["choice","facts"] [none,some 2] rfl (Qt (Xj c_choices_taken (hr.mono (by decide)) (Qa (pv 2) (Qa (pv 1) Qe)))) (fun _ _ _=>(Ql (i:=0) (show (["choice","facts"]:List Str).Nodup by decide +kernel) rfl (Or.inl rfl) (Or.inr rfl))) (fun _ _ _=>Yl) (fun _ _ _=>(Yj (pv 1) T.cl mP GP (hr.mono (by decide)) bP .nil Zd (Qa (pv 0) Qe)))) Qe))))),?_⟩
 refine ⟨_,rfl,fun p dx fp fdx ndx=>?_⟩
 dsimp only [tNil]
 have s1:Same H (upd (upd H dx (.own p)) p (.ins C dx [])):=(Qc fdx _).trans (Qc (by rw [Qi ndx.symm];exact fp) _)
 have hp1:upd (upd H dx (.own p)) p (.ins C dx []) p=some (.ins C dx []):=upd_same
 generalize upd (upd H dx (.own p)) p (.ins C dx [])=H1 at s1 hp1 ⊢
 refine ⟨p,d,dx,n,us,B,rfl,hp1,s1 _ _ hd,hB.same s1,bk,fun H2 hFc fr=>⟨rfl,?_⟩⟩
 have s2:Same H H2:=fun b o e=>fr b o (s1 _ _ e) (Qk e fp)
 obtain ⟨dx2,lw,lb,lh,ls,la,ds,fs,kvs,yh,ysS,ya,hF⟩:=id hFc
 refine ⟨_,rfl,_,rfl,p,P,n,B,pl,rfl,hFc,bk,PlanAt.same hP s2,hpf,Qpk hpf,fun D ys H3 s3 hD hT=>?_⟩
 have hc:=Qeg hT
 rw [← Qls hpf bk.wb] at hc
 have ll:=pl_len hpf bk
 refine ⟨D,rfl,⟨_,Qb hD⟩,fun D2 hD2=>Qah (f:=prcC B) (cs:=[some (.ref p)]) rfl ⟨⟨ys,Qb hD,hc⟩,by omega⟩ hD2 (fun ch t H4 hm s4 ht Pq k=>?_) (fun H4 s4 hD4=>?_)⟩
 ·obtain ⟨l,cc,hw,b0,b1⟩:=hpf.good _ hm
  have n12:=bk.n12
  obtain ⟨z1,z2⟩:=Qll bk ch.1
  refine ⟨_,rfl,p,dx2,fs,rfl,s4 _ _ (s3 _ _ hF.hp),hF.nP,_,rfl,p,t,n,B,ch.1,ch.2.1,ch.2.2,l,cc,rfl,hFc.same (s3.trans s4),bk.wb,ht,hw,b0,by omega,z1,z2,fun H5 s5=>?_⟩
  have:=k H5 s5
  unfold prcC at this
  rw [Qhb bk.wb hw] at this
  exact this
 ·exact ⟨D2,_,rfl,Qb hD4,q H4 (s2.trans (s3.trans s4))⟩
abbrev Qeh:Stmt:=top 45
theorem Qrx {n:Int} {B:List BR} (wb:WB n B) (w:Str):(B.filterMap (Js w)).Pairwise fun _ _=>False:=by
 rw [kQf]
 refine wb.nd.imp fun {r q} ha x hx y hy=>?_
 have e1:=lateR_some.mp hx
 have e2:=lateR_some.mp hy
 subst e1 e2
 have ns:¬ ("late":Str)="shut":=by decide +kernel
 rcases ha with z | z | z
 ·exact ns z
 ·exact ns z
 ·exact z rfl
def ltS (w:Str) (e:Int) (B:List BR):Int:=((B.filterMap (Js w)).map fun x=>x.2 * (if e - x.1 > 0 then e - x.1 else 0)).sum
theorem Qlu {n:Int} {B:List BR} (wb:WB n B) {w:Str} {b l c:Int}:c + ltS w (b + l) B=Qgt B w b l c:=by
 unfold ltS Qgt
 have hp:=Qrx wb w
 by_cases h:∃ d k,BR.late w d k ∈ B
 ·obtain ⟨d,k,h⟩:=h
  rw [Qcg wb h]
  have hm:(d,k) ∈ B.filterMap (Js w):=yJ.mpr ⟨_,h,lateR_some.mpr rfl⟩
  have hx:∀ x ∈ B.filterMap (Js w),x=(d,k):=fun x hx=>by
   obtain ⟨r,hr,er⟩:=yJ.mp hx
   rw [lateR_some] at er
   subst er
   have:=wb.uniq hr h rfl (by show ¬ (("late":Str)="shut");decide +kernel)
   injection this with _ e1 e2
   exact Prod.ext e1 e2
  generalize B.filterMap (Js w)=xs at hm hx hp
  match xs,hm,hx,hp with
  | [x],_,hx,_ =>
   rw [hx x (kZ ..)]
   simp [Int.mul_comm]
  | x :: y :: xs,_,_,hp=>exact absurd (List.rel_of_pairwise_cons hp (kZ ..)) id
 ·rw [Qch (fun d k z=>h ⟨d,k,z⟩)]
  have:B.filterMap (Js w)=[]:=by
   rw [List.filterMap_eq_nil_iff]
   intro r hr
   cases e:Js w r with
   | none=>rfl
   | some x=>rw [lateR_some] at e;subst e;exact absurd ⟨_,_,hr⟩ h
  rw [this]
  simp
theorem Qhg {K:Fg} {H:Hp} {P t:Addr} {kvs:List (Key × V)} {o:HO} {xs:List V} (hP:H P=some (.dK kvs)) (h:SqT K H t xs):SqT K (upd H P o) t xs:=by
 rcases h with (h | ⟨p,h⟩) | h
 ·exact .inl (.inl (by rw [Qi (Yp h hP (by intro z;cases z))];exact h))
 ·exact .inl (.inr ⟨p,by rw [Qi (Yp h hP (by intro z;cases z))];exact h⟩)
 ·exact .inr h
theorem BkAt.updO {H:Hp} {P d:Addr} {kvs:List (Key × V)} {o:HO} {n:Int} {B:List BR} (hP:H P=some (.dK kvs)) (h:BkAt H d n B):BkAt (upd H P o) d n B:=by
 obtain ⟨us,h1,h2⟩:=h.ex
 exact ⟨⟨us,by rw [Qi (Yp h1 hP (by intro z;cases z))];exact h1,h2.imp fun l r _ z=>by rw [Qi (Yp z hP (by intro z;cases z))];exact z⟩,h.bk⟩
theorem Qhh {K:Fg} {H:Hp} {P:Addr} {n:Int} {B:List BR} {pl:List Ch} (hP:PlanAt K H P pl) (hpf:PlanFor n B pl) (wb:WB n B) {w:Str} (hw:w ∈ wks B):PlGet K H P w (look pl w).1 (look pl w).2:=by
 obtain ⟨kvs,h1,h2⟩:=hP
 obtain ⟨l,c,hmem,_⟩:=hpf.get wb (Vt hpf hw)
 obtain ⟨t,en,hT⟩:=Qco h2 (hpf.nd wb) hmem
 exact ⟨t,.inl ⟨kvs,Sum.inr w,.inl h1,rfl,en.symm⟩,hT⟩
def endP (B:List BR) (pl:List Ch) (w:Str):Int:=(look pl w).2 + lenB B w (look pl w).1
theorem Vn {w:Str} {x:Int}:∀ {pl:List Ch},(pl.map (·.1)).Nodup->w ∈ pl.map (·.1)->(pl.map fun p=>if p.1=w then x else 0).sum=x
 | p :: pl,nd,h=>by
  rw [yQ,jYc] at nd
  rw [yQ,xX]
  by_cases e:p.1=w
  ·have hz:∀ ql:List Ch,w ∉ ql.map (·.1)->(ql.map fun p=>if p.1=w then x else 0).sum=0:=by
    intro ql
    induction ql with
    | nil=>intro _;rfl
    | cons q ql ih =>
     intro hn
     rw [yQ,yX] at hn
     rw [yQ,xX,if_neg (fun z=>hn (.inl z.symm)),ih fun z=>hn (.inr z),jYd]
   rw [if_pos e,hz pl (by rw [← e];exact nd.1),jQe]
  ·rw [if_neg e,jYd]
   exact Vn nd.2 ((yX.mp h).resolve_left fun z=>e z.symm)
theorem sum_add {α:Type} (f g:α->Int) (l:List α):(l.map fun x=>f x + g x).sum=(l.map f).sum + (l.map g).sum:=by
 induction l with
 | nil=>rfl
 | cons a l ih=>rw [yQ,yQ,yQ,xX,xX,xX,ih];omega
theorem Va {α:Type} (l:List α):(l.map fun _=>(0:Int)).sum=0:=by
 induction l with
 | nil=>rfl
 | cons a l ih=>rw [yQ,xX,ih];rfl
theorem sum_rows {pl:List Ch} (F:Ch->BR->Int) (G:BR->Int):∀ B:List BR,(∀ r ∈ B,(pl.map fun p=>F p r).sum=G r)->(pl.map fun p=>(B.map (F p)).sum).sum=(B.map G).sum
 | [],_=>Va pl
 | r :: B,h=>by
  rw [show (fun p=>((r :: B).map (F p)).sum)=fun p=>F p r + (B.map (F p)).sum from rfl,sum_add,h r (kZ ..),sum_rows F G B fun q hq=>h q (yZ _ hq),yQ,xX]
def valO {α:Type} (g:α->Int):Option α->Int
 | some x=>g x
 | none=>0
theorem Qei {α:Type} (f:BR->Option α) (g:α->Int):∀ B:List BR,((B.filterMap f).map g).sum=(B.map fun r=>valO g (f r)).sum
 | []=>rfl
 | r :: B=>by
  rw [jQa,yQ,xX,← Qei f g B]
  cases f r with
  | none=>exact (jYd _).symm
  | some x=>rw [yQ,xX];rfl
def Qej:BR->Option (Str × Int × Int)
 | .late w d k=>some (w,d,k)
 | _=>none
def ltV (B:List BR) (pl:List Ch) (x:Str × Int × Int):Int:=x.2.2 * (if endP B pl x.1 - x.2.1 > 0 then endP B pl x.1 - x.2.1 else 0)
theorem Qof {r:BR} (h:r.word ≠ "late"):Qej r=none:=by
 cases r with
 | late w d k=>exact absurd rfl h
 | _=>rfl
theorem Qaq {n:Int} {B:List BR} (wb:WB n B) {r:BR} (hr:r ∈ B) {w:Str} (hw:w ∈ r.own):w ∈ wks B:=wks_mem.mpr (wb.ref r hr w hw)
theorem Qog {n:Int} {B:List BR} {pl:List Ch} (h:PlanFor n B pl) (wb:WB n B):(pl.map fun p=>(wyL B p.1 p.2.1).2).sum + ((B.filterMap Qej).map (ltV B pl)).sum=(pl.map (prcC B)).sum:=by
 have nd:=h.nd wb
 have e1:((B.filterMap Qej).map (ltV B pl)).sum=(pl.map fun p=>ltS p.1 (endP B pl p.1) B).sum:=by
  rw [Qei]
  unfold ltS
  rw [show (fun p:Ch=>((B.filterMap (Js p.1)).map fun x=>x.2 * (if endP B pl p.1 - x.1 > 0 then endP B pl p.1 - x.1 else 0)).sum)=fun p:Ch=>(B.map fun r=>valO (fun x:Int × Int=>x.2 * (if endP B pl p.1 - x.1 > 0 then endP B pl p.1 - x.1 else 0)) (Js p.1 r)).sum from funext fun p=>Qei _ _ B]
  refine (sum_rows (fun p r=>valO (fun x:Int × Int=>x.2 * (if endP B pl p.1 - x.1 > 0 then endP B pl p.1 - x.1 else 0)) (Js p.1 r)) _ B fun r hr=>?_).symm
  cases r with
  | late w d k =>
   have hw:w ∈ pl.map (·.1):=by rw [h.keys];exact Qaq wb hr (jZ.mpr rfl)
   have:=Vn (x:=ltV B pl (w,d,k)) nd hw
   refine Eq.trans (congrArg List.sum (wK fun p _=>?_)) this
   show valO (fun x:Int × Int=>x.2 * (if endP B pl p.1 - x.1 > 0 then endP B pl p.1 - x.1 else 0)) (if w=p.1 then some (d,k) else none)=_
   by_cases e:p.1=w
   ·rw [if_pos e.symm,if_pos e,e];rfl
   ·rw [if_neg (fun z=>e z.symm),if_neg e];rfl
  | _=>exact Va pl
 rw [e1,← sum_add]
 refine congrArg List.sum (wK fun p hp=>?_)
 obtain ⟨l,c,hw,_,_⟩:=h.good p hp
 have ek:look pl p.1=p.2:=Vh (v:=p.2.1) (b:=p.2.2) nd hp
 unfold prcC endP
 rw [ek,Qhb wb hw,Zn wb hw]
 exact Qlu wb
def Qlv (K:Fg):Sp:=fun vs H Q _=>∃ (d P:Addr) (n:Int) (B:List BR) (pl:List Ch),vs=[.ref d,.ref P]/\BkAt H d n B/\PlanAt K H P pl/\PlanFor n B pl/\∀ (H':Hp),Same H H'->Q (.int (pl.map (prcC B)).sum) H'
theorem scLCost:FnScope ["_law_book_here","_law_plan","_law_total","_law_work","_law_row"] ["_law_book_here","_law_plan"] (Qg Qeh):=⟨rfl,rfl,rfl,by decide +kernel,rfl,by decide +kernel,by decide +kernel⟩
theorem Qry (F:Fn K mg "_law_cost" Qeh) (M:Mg mg) (cl_ways:Cal P w K mg base 1 "_law_ways" ["_law_book_here","_law_work"] (Qny K)) (cl_end:Cal P w K mg base 2 "_law_end" ["_law_book_here","_law_plan","_law_work"] (Qhd K)):Cal P w K mg base 3 "_law_cost" ["_law_book_here","_law_plan"] (Qlv K):=by
 refine Xi F scLCost (fun _ _ _ _ _ _=>Zm (fun _ _=>rfl)) (fun vs H Q E h=>?_) (fun f cdv A outer s H vs Q E hr h=>?_)
 ·obtain ⟨d,P,n,B,pl,rfl,_⟩:=h
  rfl
 obtain ⟨d,P,n,B,pl,rfl,hb,hPl,hpf,q⟩:=h
 have hu:(A.deeper (PyProof.Rows.envOfC "_law_cost" (Qg Qeh) s.heap.objs.size f cdv)).units + 1 < cLine:=zV (wQ (by decide) _) hr.un
 have hz:(2000000:Nat) < sizeLine:=by decide
 refine ⟨_,(Qf (Qp (i:=2) scLCost.nd rfl (Or.inl rfl) Qd)
  (Qf (Qqn (Xe PassesOwn.never rfl (Qnw (pv 1)) (Ql (i:=3) scLCost.nd rfl (Or.inr rfl) (Or.inl rfl)) (Qh (Qp (i:=2) scLCost.nd rfl (Or.inl rfl) (Qj Qs (pv 2) (Qo Qm (Yr ["_law_name_here","_law_length","_law_cost_here","_law_plan","_law_work"] [none,none,none,some 1,some 3] rfl (Qt (Xj cl_ways (hr.mono (by decide)) (Qa (pv 0) (Qa (pv 3) Qe)))) (fun _ _ _=>(Qbu (K:=K) (i:=0) (j:=1) (l:=2) rfl rfl (show (["_law_name_here","_law_length","_law_cost_here","_law_plan","_law_work"]:List Str).Nodup by decide +kernel) rfl rfl rfl rfl rfl rfl)) (fun _ _ _=>(Zu (Qn Yb (pv 0) (Qo (Ji (K:=K) rfl) (Zh hu (pv 3) (pv 4) (fun _ _=>rfl)) Qd (fun _ _=>rfl)) (Qq _)))) (fun _ _ _=>(pv 2))) Qd (fun _ _=>rfl)))))))
  (Qf (Xe PassesOwn.never rfl (Qt (pv 0)) (Ql (i:=4) scLCost.nd rfl (Or.inl rfl) (Or.inl rfl)) (Qh (Yg (Qn Yb (Qo Qm (pv 4) Qd (fun _ _=>rfl)) Xa (Qq _)) (Qh (Qp (i:=2) scLCost.nd rfl (Or.inl rfl) (Qj Qs (pv 2) (Qj Zr (Qo Qm (pv 4) Qd (fun _ _=>rfl)) (Qy (Qcu rfl) rfl M.max Qpa (Qa Qd (Qa (Qj Kl (Xj cl_end (hr.mono (by decide)) (Qa (pv 0) (Qa (pv 1) (Qa (Qo Qm (pv 4) Qd (fun _ _=>rfl)) Qe)))) (Qo Qm (pv 4) Qd (fun _ _=>rfl))) Qe))))))) Qz)))
  (Qh (Qw (pv 2)))))),?_⟩
 have bk:=hb.bk
 have bl:=bk.wb.len
 have n12:=bk.n12
 have nd:=hpf.nd bk.wb
 obtain ⟨kvs,hP,hrel⟩:=id hPl
 have lk:=Paired.length hrel
 refine ⟨_,rfl,P,_,rfl,hP,fun nf o=>?_⟩
 have hbf:=hb.updO (o:=.frz o (.dK kvs)) hP
 have relf:Paired (fun (p:Key × V) (q:Ch)=>p.1=Sum.inr q.1/\∃ t,p.2=.ref t/\SqT K (upd H P (.frz o (.dK kvs))) t [.str q.2.1,.int q.2.2]) kvs pl:=Paired.mapP hrel fun _ _ ⟨e,t,e2,z⟩=>⟨e,t,e2,Qhg hP z⟩
 have sf:∀ b u,H b=some u->b ≠ P->upd H P (.frz o (.dK kvs)) b=some u:=fun b u e ne=>by rw [Qi ne];exact e
 have hfz:upd H P (.frz o (.dK kvs)) P=some (.frz o (.dK kvs)):=upd_same
 generalize upd H P (.frz o (.dK kvs))=Hf at hbf relf sf hfz ⊢
 refine Qnx (kvs:=kvs) (fun i σ H1=>(∃ u:Option V,σ=[some (.ref d),some (.ref P),some (.int ((pl.take i).map fun p=>(wyL B p.1 p.2.1).2).sum),u,none])/\Same Hf H1) ⟨⟨none,rfl⟩,Same.refl _⟩ ?_ ?_ ?_
 ·rintro i σ H1 hi ⟨_,s1⟩
  exact s1 _ _ hfz
 ·rintro i k x σ H1 e ⟨⟨u,rfl⟩,s1⟩
  obtain ⟨⟨w,v,b⟩,ep,ek,t,ex,ht⟩:=Qr relf e
  have ek':k=Sum.inr w:=ek
  have ex':x=.ref t:=ex
  subst ek' ex'
  have hm:=kX ep
  obtain ⟨l,c,hw,_,_⟩:=hpf.good _ hm
  have wl:=yV (wayR w) B
  have ev:valV kvs (Sum.inr w)=some (.ref t):=Qdn (by rw [Je hrel];exact List.Pairwise.map _ (fun a b (h:a ≠ b) e=>h (Sum.inr.inj e)) nd) e
  refine ⟨_,rfl,_,rfl,_,rfl,d,w,n,B,rfl,hbf.same s1,fun a ys H2 s2 _ ha hW=>?_⟩
  refine ⟨a,rfl,⟨_,Qb ha⟩,fun D hD=>Qph (f:=pkC v) (cs:=[some (.ref P),some (.str w)]) rfl ha hW (by omega) hD (fun x hx H3 s3 P1 P2 k1 k2=>?_) (fun H3 s3 hE=>?_)⟩
  ·have s13:=(s1.trans s2).trans s3
   refine ⟨_,rfl,_,rfl,_,rfl,P,_,rfl,.inl ⟨kvs,Sum.inr w,.inr ⟨o,s13 _ _ hfz⟩,rfl,ev.symm⟩,t,_,_,_,rfl,rfl,s13.tup ht,at0,rfl,_,rfl,ite2 (fun y=>?_) (fun y=>?_)⟩
   ·exact ⟨_,rfl,k1 _ _ (if_pos (eqS y)) (Same.refl _)⟩
   ·exact k2 (if_neg fun e=>y (by rw [e];exact yesS _)) _ (Same.refl _)
  ·refine ⟨D,_,_,_,rfl,rfl,Qb hE,(Qln bk.wb hw).2,_,_,rfl,rfl,⟨some (.str w),?_⟩,(s1.trans s2).trans s3⟩
   rw [Ze ep,kJ,kYc,show ([(w,v,b)].map fun p:Ch=>(wyL B p.1 p.2.1).2).sum=c by
    show (wyL B w v).2 + 0=c
    rw [Qhb bk.wb hw];exact jQe _]
   rfl
 ·rintro σ H1 ⟨⟨u,rfl⟩,s1⟩
  refine ⟨P,o,_,nf,s1 _ _ hfz,?_⟩
  rw [lk,kW]
  have s2:Same H (upd H1 P (.dK kvs)):=fun b u e=>by
   by_cases c:b=P
   ·subst c;rw [upd_same,← hP];exact e
   ·rw [Qi c];exact s1 _ _ (sf b u e c)
  generalize upd H1 P (.dK kvs)=H2 at s2 ⊢
  clear hbf relf sf hfz s1
  obtain ⟨us,h1,h2⟩:=hb.ex
  have lu:=h2.length
  generalize ez:(pl.map fun p=>(wyL B p.1 p.2.1).2).sum=z
  let Pv47:Nat->St->Hp->Prop:=fun i σ H3=>(∃ u v:Option V,σ=[some (.ref d),some (.ref P),some (.int (z + (((B.take i).filterMap Qej).map (ltV B pl)).sum)),u,v])/\Same H H3
  refine ⟨_,rfl,d,rfl,⟨_,Qb (s2 _ _ h1)⟩,Xq (xs:=us) Pv47 ⟨⟨u,none,by rw [show (((B.take 0).filterMap Qej).map (ltV B pl)).sum=0 from rfl,jQe]⟩,s2⟩ ?_ ?_ ?_⟩
  ·rintro i σ H3 hi ⟨_,s3⟩
   exact Qb (s3 _ _ h1)
  ·rintro i x σ H3 ex ⟨⟨u,v',rfl⟩,s3⟩
   obtain ⟨r,lr,er,rfl,hr0⟩:=h2.get ex
   have hr:=s3 _ _ hr0
   refine ⟨_,rfl,lr,_,_,_,rfl,rfl,Qb hr,Ys r,rfl,_,rfl,ite2 (fun y=>?_) (fun y=>⟨⟨_,_,by rw [Yd Qej er,Qof fun e=>y (by rw [e];exact yesS _),jJd,zZ];rfl⟩,s3⟩)⟩
   obtain ⟨w,dd,k,rfl⟩:=Qdo (eqS y)
   have hm:=kX er
   have hwk:w ∈ wks B:=Qaq bk.wb hm (jZ.mpr rfl)
   obtain ⟨l,c,_,hw,b0,b1⟩:=hpf.get bk.wb (Vt hpf hwk)
   have hok:0<=dd/\dd<=n/\_:=bk.wb.ok _ hm
   have a1:atI ((BR.late w dd k).cells.map kV) 1=some (.str w):=rfl
   refine ⟨_,rfl,_,rfl,lr,_,_,_,rfl,rfl,Qb hr,(show atI ((BR.late w dd k).cells.map kV) 3=some (.int k) from rfl),_,rfl,_,rfl,_,rfl,lr,_,_,_,rfl,rfl,Qb hr,a1,d,P,w,_,_,l,c,n,B,rfl,hb.same s3,Qhh (PlanAt.same hPl s3) hpf bk.wb hwk,hw,fun H4 s4=>?_⟩
   have el:(look pl w).2 + l=endP B pl w:=by unfold endP;rw [Zn bk.wb hw]
   refine ⟨_,rfl,lr,_,_,_,rfl,rfl,Qb (s4 _ _ hr),(show atI ((BR.late w dd k).cells.map kV) 2=some (.int dd) from rfl),_,_,rfl,rfl,_,_,rfl,_,_,rfl,rfl,.inr ?_,_,_,rfl,rfl,⟨u,some (.ref lr),?_⟩,s3.trans s4⟩
   ·constructor
    ·show -(2 ^ 64) < (if (look pl w).2 + l - dd > 0 then (look pl w).2 + l - dd else 0)
     split <;> omega
    ·show (if (look pl w).2 + l - dd > 0 then (look pl w).2 + l - dd else 0) < 2 ^ 64
     split <;> omega
   ·rw [Yd Qej er,show Qej (BR.late w dd k)=some (w,dd,k) from rfl,kJ,kYc,← Int.add_assoc,show (((some (w,dd,k)).toList.map (ltV B pl)).sum)=k * (if (look pl w).2 + l - dd > 0 then (look pl w).2 + l - dd else 0) by
     rw [el]
     show ltV B pl (w,dd,k) + 0=_
     exact jQe _]
    rfl
  ·rintro σ H3 ⟨⟨u,v',rfl⟩,s3⟩
   rw [lu,kW,← ez,Qog hpf bk.wb]
   exact ⟨_,rfl,q H3 s3⟩
abbrev sMvd:Stmt:=top 46
def useA (k:Fin 3) (t:Str):BR->Option (Str × Str × Int)
 | .use k' w v t' m=>if k'=k/\t'=t then some (w,v,m) else none
 | _=>none
abbrev act (k:Fin 3) (b e day:Int):Prop:=(k=0/\b<=day/\day < e)\/(k=1/\b<=day)\/(k=2/\e<=day)
def mvV (B:List BR) (pl:List Ch) (k:Fin 3) (day:Int) (x:Str × Str × Int):Int:=if (look pl x.1).1=x.2.1 then (if act k (look pl x.1).2 (endP B pl x.1) day then x.2.2 else 0) else 0
def mvd (B:List BR) (pl:List Ch) (k:Fin 3) (t:Str) (day:Int):Int:=((B.filterMap (useA k t)).map (mvV B pl k day)).sum
theorem Qrz {k:Fin 3} {b e day m:Int}:(if k=0/\b<=day/\day < e then m else 0) + (if (k=1/\b<=day)\/(k=2/\e<=day) then m else 0)=if act k b e day then m else 0:=by
 by_cases h0:k=0/\b<=day/\day < e
 ·have h1:¬ ((k=1/\b<=day)\/(k=2/\e<=day)):=fun z=>by
   obtain ⟨rfl,_⟩:=h0
   rcases z with z | z
   ·exact absurd z.1 (by decide)
   ·exact absurd z.1 (by decide)
  rw [if_pos h0,if_neg h1,if_pos (.inl h0),jQe]
 ·rw [if_neg h0,jYd]
  by_cases h1:(k=1/\b<=day)\/(k=2/\e<=day)
  ·rw [if_pos h1,if_pos (.inr h1)]
  ·rw [if_neg h1,if_neg (fun z=>z.elim h0 h1)]
def spMvd (K:Fg):Sp:=fun vs H Q _=>∃ (d P:Addr) (k:Fin 3) (t:Str) (day n:Int) (B:List BR) (pl:List Ch),vs=[.ref d,.ref P,.str (useW k),.str t,.int day]/\BkAt H d n B/\PlanAt K H P pl/\PlanFor n B pl/\∀ (H':Hp),Same H H'->Q (.int (mvd B pl k t day)) H'
theorem scMvd:FnScope ["_law_book_here","_law_plan","_law_word","_law_thing","_law_day","_law_total","_law_row","_law_begin","_law_end_here"] ["_law_book_here","_law_plan","_law_word","_law_thing","_law_day"] (Qg sMvd):=⟨rfl,rfl,rfl,by decide +kernel,rfl,by decide +kernel,by decide +kernel⟩
theorem okMvd (F:Fn K mg "_law_moved" sMvd) (M:Mg mg) (cl_end:Cal P w K mg base 2 "_law_end" ["_law_book_here","_law_plan","_law_work"] (Qhd K)):Cal P w K mg base 3 "_law_moved" ["_law_book_here","_law_plan","_law_word","_law_thing","_law_day"] (spMvd K):=by
 refine Xi F scMvd (fun _ _ _ _ _ _=>bind5 (fun _ _ _ _ _=>rfl)) (fun vs H Q E h=>?_) (fun f cdv A outer s H vs Q E hr h=>?_)
 ·obtain ⟨d,P,k,t,day,n,B,pl,rfl,_⟩:=h
  rfl
 obtain ⟨d,P,k,t,day,n,B,pl,rfl,hb,hPl,hpf,q⟩:=h
 have hu:(A.deeper (PyProof.Rows.envOfC "_law_moved" (Qg sMvd) s.heap.objs.size f cdv)).units + 1 < cLine:=zV (wQ (by decide) _) hr.un
 have hz:(2000000:Nat) < sizeLine:=by decide
 refine ⟨_,(Qf (Qp (i:=5) scMvd.nd rfl (Or.inl rfl) Qd)
  (Qf (Xe PassesOwn.never rfl (Qt (pv 0)) (Ql (i:=6) scMvd.nd rfl (Or.inl rfl) (Or.inl rfl)) (Qh (Yg (PW.pt (Jc (Qn Yb (Qo Qm (pv 6) Qd (fun _ _=>rfl)) (pv 2) (Qq _)) (Jc (Qn Yb (Qo Qm (pv 6) Qd (fun _ _=>rfl)) (pv 3) (Qq _)) (Jf (Qn Yb (Qo Xn (Zh hu (pv 1) (Qo Qm (pv 6) Qd (fun _ _=>rfl)) (fun _ _=>rfl)) Qd (fun _ _=>rfl)) (Qo Qm (pv 6) Qd (fun _ _=>rfl)) (Qq _)))))) (Qf (Qp (i:=7) scMvd.nd rfl (Or.inl rfl) (Qo Xn (Zh hu (pv 1) (Qo Qm (pv 6) Qd (fun _ _=>rfl)) (fun _ _=>rfl)) Qd (fun _ _=>rfl)))
  (Qf (Qp (i:=8) scMvd.nd rfl (Or.inl rfl) (Xj cl_end (hr.mono (by decide)) (Qa (pv 0) (Qa (pv 1) (Qa (Qo Qm (pv 6) Qd (fun _ _=>rfl)) Qe)))))
  (Qf (Yg (PW.pt (Jc (Qn Yb (pv 2) Xa (Qq _)) (Jc (Qn Km (pv 7) (pv 4) (Qq _)) (Jf (Qn Qct (pv 4) (pv 8) (Qq _)))))) (Qh (Qp (i:=5) scMvd.nd rfl (Or.inl rfl) (Qj Qs (pv 5) (Qo Qm (pv 6) Qd (fun _ _=>rfl))))) Qz)
  (Qh (Yg (PW.pt (We (PW.pt (Jc (Qn Yb (pv 2) Xa (Qq _)) (Jf (Qn Km (pv 7) (pv 4) (Qq _))))) (Vq (PW.pt (Jc (Qn Yb (pv 2) Xa (Qq _)) (Jf (Qn Km (pv 8) (pv 4) (Qq _)))))))) (Qh (Qp (i:=5) scMvd.nd rfl (Or.inl rfl) (Qj Qs (pv 5) (Qo Qm (pv 6) Qd (fun _ _=>rfl))))) Qz))))) Qz)))
  (Qh (Qw (pv 5))))),?_⟩
 have bk:=hb.bk
 obtain ⟨us,h1,h2⟩:=hb.ex
 have lu:=h2.length
 let Pv48:Nat->St->Hp->Prop:=fun i σ H1=>(∃ u v x:Option V,σ=[some (.ref d),some (.ref P),some (.str (useW k)),some (.str t),some (.int day),some (.int ((((B.take i).filterMap (useA k t)).map (mvV B pl k day)).sum)),u,v,x])/\Same H H1
 refine ⟨_,rfl,d,rfl,⟨_,Qb h1⟩,Xq (xs:=us) Pv48 ⟨⟨none,none,none,rfl⟩,Same.refl _⟩ ?_ ?_ ?_⟩
 ·rintro i σ H1 hi ⟨_,s1⟩
  exact Qb (s1 _ _ h1)
 ·rintro i x σ H1 ex ⟨⟨u,v0,x0,rfl⟩,s1⟩
  obtain ⟨r,lr,er,rfl,hr0⟩:=h2.get ex
  have hr:=s1 _ _ hr0
  have hm:=kX er
  have no:useA k t r=none->(((B.take (i + 1)).filterMap (useA k t)).map (mvV B pl k day)).sum=(((B.take i).filterMap (useA k t)).map (mvV B pl k day)).sum:=fun e=>by
   rw [Yd (useA k t) er,e,jJd,zZ]
  have nouse:r.word ≠ useW k->useA k t r=none:=fun ne=>by
   cases r with
   | use k' w v t' m=>exact if_neg fun z=>ne (by rw [show (BR.use k' w v t' m).word=useW k' from rfl,z.1])
   | _=>rfl
  refine ⟨_,rfl,lr,_,_,_,rfl,rfl,Qb hr,Ys r,_,rfl,rfl,_,rfl,ite2 (fun y=>?_) (fun y=>ite2 (fun z=>nomatch z) fun _=>⟨⟨_,_,_,by rw [no (nouse fun e=>y (by rw [e];exact yesS _))];rfl⟩,s1⟩)⟩
  obtain ⟨w,v,t',m,rfl⟩:=Qgq (eqS y)
  refine ⟨_,rfl,lr,_,_,_,rfl,rfl,Qb hr,(show atI ((BR.use k w v t' m).cells.map kV) 3=some (.str t') from rfl),_,rfl,rfl,_,rfl,ite2 (fun y1=>?_) (fun y1=>ite2 (fun z=>nomatch z) fun _=>⟨⟨_,_,_,by rw [no (if_neg fun z=>y1 (by rw [z.2];exact yesS _))];rfl⟩,s1⟩)⟩
  have et:t'=t:=eqS y1
  have hA:useA k t (.use k w v t' m)=some (w,v,m):=if_pos ⟨rfl,et⟩
  have hwk:w ∈ wks B:=Qaq bk.wb hm (jZ.mpr rfl)
  obtain ⟨l,c,_,hw,b0,b1⟩:=hpf.get bk.wb (Vt hpf hwk)
  obtain ⟨tp,dg,hT⟩:=Qhh (PlanAt.same hPl s1) hpf bk.wb hwk
  have el:(look pl w).2 + l=endP B pl w:=by unfold endP;rw [Zn bk.wb hw]
  have yes:(((B.take (i + 1)).filterMap (useA k t)).map (mvV B pl k day)).sum=(((B.take i).filterMap (useA k t)).map (mvV B pl k day)).sum + mvV B pl k day (w,v,m):=by
   rw [Yd (useA k t) er,hA,kJ,kYc]
   show _ + (mvV B pl k day (w,v,m) + 0)=_
   rw [jQe]
  refine ⟨_,rfl,_,rfl,lr,_,_,_,rfl,rfl,Qb hr,(show atI ((BR.use k w v t' m).cells.map kV) 1=some (.str w) from rfl),P,_,rfl,dg,tp,_,_,_,rfl,rfl,hT,at0,_,rfl,lr,_,_,_,rfl,rfl,Qb hr,(show atI ((BR.use k w v t' m).cells.map kV) 2=some (.str v) from rfl),rfl,_,rfl,ite2 (fun y2=>?_) (fun y2=>⟨⟨_,_,_,by rw [yes,show mvV B pl k day (w,v,m)=0 from if_neg fun z=>y2 (by rw [z];exact yesS _),jQe];rfl⟩,s1⟩)⟩
  have ev:mvV B pl k day (w,v,m)=if act k (look pl w).2 (endP B pl w) day then m else 0:=if_pos (eqS y2)
  refine ⟨_,rfl,_,rfl,lr,_,_,_,rfl,rfl,Qb hr,(show atI ((BR.use k w v t' m).cells.map kV) 1=some (.str w) from rfl),P,_,rfl,dg,tp,_,_,_,rfl,rfl,hT,at1,?_⟩
  refine ⟨_,rfl,_,rfl,_,rfl,lr,_,_,_,rfl,rfl,Qb hr,(show atI ((BR.use k w v t' m).cells.map kV) 1=some (.str w) from rfl),d,P,w,_,_,l,c,n,B,rfl,hb.same s1,⟨tp,dg,hT⟩,hw,fun H2 s2=>?_⟩
  rw [el]
  have hr2:=s2 _ _ hr
  refine Qgl (fun σ' H3=>σ'=[some (.ref d),some (.ref P),some (.str (useW k)),some (.str t),some (.int day),some (.int ((((B.take i).filterMap (useA k t)).map (mvV B pl k day)).sum + (if k=0/\(look pl w).2<=day/\day < endP B pl w then m else 0))),some (.ref lr),some (.int (look pl w).2),some (.int (endP B pl w))]/\H3=H2) ?_ fun REST=>?_
  ·rintro σ' H3 ⟨rfl,rfl⟩
   have done:∀ z,z=(if (k=1/\(look pl w).2<=day)\/(k=2/\endP B pl w<=day) then m else 0)->(((B.take i).filterMap (useA k t)).map (mvV B pl k day)).sum + (if k=0/\(look pl w).2<=day/\day < endP B pl w then m else 0) + z=(((B.take (i + 1)).filterMap (useA k t)).map (mvV B pl k day)).sum:=fun z e=>by
    rw [yes,ev,e,Int.add_assoc,Qrz]
   refine ⟨_,rfl,rfl,_,rfl,ite2 (fun y3=>⟨_,rfl,_,rfl,_,_,rfl,rfl,_,rfl,ite2 (fun y4=>ite2 (fun _=>⟨_,rfl,_,rfl,lr,_,_,_,rfl,rfl,Qb hr2,(show atI ((BR.use k w v t' m).cells.map kV) 4=some (.int m) from rfl),_,_,rfl,rfl,⟨_,_,_,by rw [← done m (if_pos (.inl ⟨Ku (k':=1) (eqS y3),jJ y4⟩)).symm];rfl⟩,s1.trans s2⟩) (fun z=>absurd rfl z)) (fun y4=>⟨_,rfl,rfl,_,rfl,ite2 (fun y5=>⟨_,rfl,_,rfl,_,_,rfl,rfl,_,rfl,ite2 (fun y6=>⟨_,rfl,_,rfl,lr,_,_,_,rfl,rfl,Qb hr2,(show atI ((BR.use k w v t' m).cells.map kV) 4=some (.int m) from rfl),_,_,rfl,rfl,⟨_,_,_,by rw [← done m (if_pos (.inr ⟨Ku (k':=2) (eqS y5),jJ y6⟩)).symm];rfl⟩,s1.trans s2⟩) (fun y6=>⟨⟨_,_,_,by rw [← done 0 (if_neg fun z=>z.elim (fun z=>y4 (kQ z.2)) fun z=>y6 (kQ z.2)).symm,jQe]⟩,s1.trans s2⟩)⟩) (fun y5=>ite2 (fun z=>nomatch z) fun _=>⟨⟨_,_,_,by rw [← done 0 (if_neg fun z=>z.elim (fun z=>y4 (kQ z.2)) fun z=>y5 (by rw [z.1];exact yesS _)).symm,jQe]⟩,s1.trans s2⟩)⟩)⟩) (fun y3=>ite2 (fun z=>nomatch z) fun _=>⟨_,rfl,rfl,_,rfl,ite2 (fun y5=>⟨_,rfl,_,rfl,_,_,rfl,rfl,_,rfl,ite2 (fun y6=>⟨_,rfl,_,rfl,lr,_,_,_,rfl,rfl,Qb hr2,(show atI ((BR.use k w v t' m).cells.map kV) 4=some (.int m) from rfl),_,_,rfl,rfl,⟨_,_,_,by rw [← done m (if_pos (.inr ⟨Ku (k':=2) (eqS y5),jJ y6⟩)).symm];rfl⟩,s1.trans s2⟩) (fun y6=>⟨⟨_,_,_,by rw [← done 0 (if_neg fun z=>z.elim (fun z=>y3 (by rw [z.1];exact yesS _)) fun z=>y6 (kQ z.2)).symm,jQe]⟩,s1.trans s2⟩)⟩) (fun y5=>ite2 (fun z=>nomatch z) fun _=>⟨⟨_,_,_,by rw [← done 0 (if_neg fun z=>z.elim (fun z=>y3 (by rw [z.1];exact yesS _)) fun z=>y5 (by rw [z.1];exact yesS _)).symm,jQe]⟩,s1.trans s2⟩)⟩)⟩
  ·have stop:¬ (k=0/\(look pl w).2<=day/\day < endP B pl w)->(if k=0/\(look pl w).2<=day/\day < endP B pl w then m else 0)=0:=fun h=>if_neg h
   refine ⟨_,rfl,rfl,_,rfl,ite2 (fun y3=>?_) (fun y3=>ite2 (fun z=>nomatch z) fun _=>REST _ _ ⟨by rw [stop fun z=>y3 (by rw [z.1];exact yesS _),jQe];rfl,rfl⟩)⟩
   refine ⟨_,rfl,_,rfl,_,_,rfl,rfl,_,rfl,ite2 (fun y4=>?_) (fun y4=>ite2 (fun z=>nomatch z) fun _=>REST _ _ ⟨by rw [stop fun z=>y4 (kQ z.2.1),jQe];rfl,rfl⟩)⟩
   refine ⟨_,rfl,_,rfl,_,_,rfl,rfl,_,rfl,ite2 (fun y5=>?_) (fun y5=>REST _ _ ⟨by rw [stop fun z=>y5 (kQ z.2.2),jQe];rfl,rfl⟩)⟩
   refine ⟨_,rfl,_,rfl,lr,_,_,_,rfl,rfl,Qb hr2,(show atI ((BR.use k w v t' m).cells.map kV) 4=some (.int m) from rfl),_,_,rfl,rfl,REST _ _ ⟨?_,rfl⟩⟩
   rw [if_pos ⟨Ku (k':=0) (eqS y3),jJ y4,jJ y5⟩]
   rfl
 ·rintro σ H1 ⟨⟨u,v0,x0,rfl⟩,s1⟩
  rw [lu,kW]
  exact ⟨_,rfl,q H1 s1⟩
abbrev sIsK:Stmt:=top 47
def rowK (n:Int) (B:List BR) (pl:List Ch):BR->Bool
 | .after x y g=>decide (¬ ((look pl y).2 < endP B pl x + g))
 | .bench b r=>(List.range n.toNat).all fun d:Nat=>decide (¬ (mvd B pl 0 b (d:Int) > Kw B b r (d:Int)))
 | .store s m f=>(List.range (n + 1).toNat).all fun d:Nat=>decide (¬ (f - mvd B pl 1 s (d:Int) + mvd B pl 2 s (d:Int) < 0\/f - mvd B pl 1 s (d:Int) + mvd B pl 2 s (d:Int) > m))
 | _=>true
def Qek (n:Int) (B:List BR) (pl:List Ch):Bool:=B.all (rowK n B pl)
theorem Qip {n:Int} {B:List BR} {pl:List Ch} {r:BR} (h1:r.word ≠ "after") (h2:r.word ≠ "bench") (h3:r.word ≠ "store"):rowK n B pl r=true:=by
 cases r with
 | after x y g=>exact absurd rfl h1
 | bench b c=>exact absurd rfl h2
 | store s m f=>exact absurd rfl h3
 | _=>rfl
theorem Qsa {n:Int} {B:List BR} {pl:List Ch} {r:BR} (hr:r ∈ B) (h:rowK n B pl r=false):Qek n B pl=false:=by
 cases e:Qek n B pl with
 | false=>rfl
 | true=>rw [jXa.mp e r hr] at h;cases h
theorem all_range {p:Nat->Bool} {m:Nat}:(List.range m).all p=true ↔ ∀ d,d < m->p d=true:=by simp [jXa]
theorem Qhi {p:Nat->Bool} {m d:Nat} (hd:d < m) (h:p d=false):(List.range m).all p=false:=by
 cases e:(List.range m).all p with
 | false=>rfl
 | true=>rw [all_range.mp e d hd] at h;cases h
theorem Qoh {B:List BR} {b:Str} {r day:Int}:(if B.any (Zc b day)=true then 0 else r)=Kw B b r day:=by
 unfold Kw
 by_cases h:B.any (Zc b day)=true
 ·obtain ⟨q,hq,e⟩:=jXc.mp h
  rw [if_pos h,if_neg fun z=>?_]
  have:q ∈ B.filter (Zc b day):=jQb.mpr ⟨hq,e⟩
  rw [kQc.mp z] at this
  exact nomatch this
 ·rw [if_neg h,if_pos (kQc.mpr (jYe.mpr fun q hq e=>h (jXc.mpr ⟨q,hq,e⟩)))]
theorem Qhj {B:List BR} {i:Nat} {r:BR} (p:BR->Bool) (h:B[i]?=some r):(B.take (i + 1)).any p=((B.take i).any p || p r):=by rw [Ze h,List.any_append];simp
def spIsK (K:Fg):Sp:=fun vs H Q _=>∃ (d P:Addr) (n:Int) (B:List BR) (pl:List Ch),vs=[.ref d,.ref P]/\BkAt H d n B/\PlanAt K H P pl/\PlanFor n B pl/\∀ (H':Hp),Same H H'->Q (.bl (Qek n B pl)) H'
theorem scIsK:FnScope ["_law_book_here","_law_plan","_law_row","_law_day","_law_room","_law_other","_law_here"] ["_law_book_here","_law_plan"] (Qg sIsK):=⟨rfl,rfl,rfl,by decide +kernel,rfl,by decide +kernel,by decide +kernel⟩
theorem okIsK (F:Fn K mg "_law_is_kept" sIsK) (M:Mg mg) (cl_end:Cal P w K mg base 2 "_law_end" ["_law_book_here","_law_plan","_law_work"] (Qhd K)) (cl_moved:Cal P w K mg base 3 "_law_moved" ["_law_book_here","_law_plan","_law_word","_law_thing","_law_day"] (spMvd K)):Cal P w K mg base 4 "_law_is_kept" ["_law_book_here","_law_plan"] (spIsK K):=by
 refine Xi F scIsK (fun _ _ _ _ _ _=>Zm (fun _ _=>rfl)) (fun vs H Q E h=>?_) (fun f cdv A outer s H vs Q E hr h=>?_)
 ·obtain ⟨d,P,n,B,pl,rfl,_⟩:=h
  rfl
 obtain ⟨d,P,n,B,pl,rfl,hb,hPl,hpf,q⟩:=h
 have hu:(A.deeper (PyProof.Rows.envOfC "_law_is_kept" (Qg sIsK) s.heap.objs.size f cdv)).units + 1 < cLine:=zV (wQ (by decide) _) hr.un
 have hz:(2000000:Nat) < sizeLine:=by decide
 refine ⟨_,(Qf (Xe PassesOwn.never rfl (Qt (pv 0)) (Ql (i:=2) scIsK.nd rfl (Or.inl rfl) (Or.inl rfl)) (Qf (Yg (PW.pt (Jc (Qn Yb (Qo Qm (pv 2) Qd (fun _ _=>rfl)) Xa (Qq _)) (Jf (Qn Qct (Qo Xn (Zh hu (pv 1) (Qo Qm (pv 2) Qd (fun _ _=>rfl)) (fun _ _=>rfl)) Qd (fun _ _=>rfl)) (Qj Qs (Xj cl_end (hr.mono (by decide)) (Qa (pv 0) (Qa (pv 1) (Qa (Qo Qm (pv 2) Qd (fun _ _=>rfl)) Qe)))) (Qo Qm (pv 2) Qd (fun _ _=>rfl))) (Qq _))))) (Qh (Qw Wc)) Qz)
  (Qf (Yg (Qn Yb (Qo Qm (pv 2) Qd (fun _ _=>rfl)) Xa (Qq _)) (Qh (Xe PassesOwn.never rfl (Xk rfl M.range_ (Qa (Qo Qm (Qo Qm (pv 0) Qd (fun _ _=>rfl)) Qd (fun _ _=>rfl)) Qe)) (Ql (i:=3) scIsK.nd rfl (Or.inl rfl) (Or.inl rfl)) (Qf (Qp (i:=4) scIsK.nd rfl (Or.inl rfl) (Qo Qm (pv 2) Qd (fun _ _=>rfl)))
  (Qf (Xe PassesOwn.never rfl (Qt (pv 0)) (Ql (i:=5) scIsK.nd rfl (Or.inl rfl) (Or.inl rfl)) (Qh (Yg (PW.pt (Jc (Qn Yb (Qo Qm (pv 5) Qd (fun _ _=>rfl)) Xa (Qq _)) (Jc (Qn Yb (Qo Qm (pv 5) Qd (fun _ _=>rfl)) (Qo Qm (pv 2) Qd (fun _ _=>rfl)) (Qq _)) (Jc (Qn Km (Qo Qm (pv 5) Qd (fun _ _=>rfl)) (pv 3) (Qq _)) (Jf (Qn Qct (pv 3) (Qo Qm (pv 5) Qd (fun _ _=>rfl)) (Qq _))))))) (Qh (Qp (i:=4) scIsK.nd rfl (Or.inl rfl) Qd)) Qz)))
  (Qh (Yg (Qn Qje (Xj cl_moved (hr.mono (by decide)) (Qa (pv 0) (Qa (pv 1) (Qa Xa (Qa (Qo Qm (pv 2) Qd (fun _ _=>rfl)) (Qa (pv 3) Qe)))))) (pv 4) (Qq _)) (Qh (Qw Wc)) Qz)))))) Qz)
  (Qh (Yg (Qn Yb (Qo Qm (pv 2) Qd (fun _ _=>rfl)) Xa (Qq _)) (Qh (Xe PassesOwn.never rfl (Xk rfl M.range_ (Qa (Qj Qs (Qo Qm (Qo Qm (pv 0) Qd (fun _ _=>rfl)) Qd (fun _ _=>rfl)) Qd) Qe)) (Ql (i:=3) scIsK.nd rfl (Or.inl rfl) (Or.inl rfl)) (Qf (Qp (i:=6) scIsK.nd rfl (Or.inl rfl) (Qj Kl (Qo Qm (pv 2) Qd (fun _ _=>rfl)) (Xj cl_moved (hr.mono (by decide)) (Qa (pv 0) (Qa (pv 1) (Qa Xa (Qa (Qo Qm (pv 2) Qd (fun _ _=>rfl)) (Qa (pv 3) Qe))))))))
  (Qf (Qp (i:=6) scIsK.nd rfl (Or.inl rfl) (Qj Qs (pv 6) (Xj cl_moved (hr.mono (by decide)) (Qa (pv 0) (Qa (pv 1) (Qa Xa (Qa (Qo Qm (pv 2) Qd (fun _ _=>rfl)) (Qa (pv 3) Qe))))))))
  (Qh (Yg (PW.pt (We (Qn Qct (pv 6) Qd (Qq _)) (Vq (Qn Qje (pv 6) (Qo Qm (pv 2) Qd (fun _ _=>rfl)) (Qq _))))) (Qh (Qw Wc)) Qz)))))) Qz)))))
  (Qh (Qw Wc))),?_⟩
 have bk:=hb.bk
 have n1:=bk.n1
 have n12:=bk.n12
 obtain ⟨us,l0,h1,h2,a0,hl0⟩:=hb.days
 have lu:=h2.length
 let Pv49:Nat->St->Hp->Prop:=fun i σ H1=>(∃ u1 u2 u3 u4 u5:Option V,σ=[some (.ref d),some (.ref P),u1,u2,u3,u4,u5])/\Same H H1/\(B.take i).all (rowK n B pl)=true
 refine ⟨_,rfl,d,rfl,⟨_,Qb h1⟩,Xq (xs:=us) Pv49 ⟨⟨none,none,none,none,none,rfl⟩,Same.refl _,rfl⟩ ?_ ?_ ?_⟩
 ·rintro i σ H1 hi ⟨_,s1,_⟩
  exact Qb (s1 _ _ h1)
 ·rintro i x σ H1 ex ⟨⟨u1,u2,u3,u4,u5,rfl⟩,s1,ha⟩
  obtain ⟨r,lr,er,rfl,hr0⟩:=h2.get ex
  have hm:=kX er
  have bad:rowK n B pl r=false->∀ H',Same H H'->Q (.bl false) H':=fun e H' s'=>by
   have:=q H' s'
   rw [Qsa hm e] at this
   exact this
  refine Wz (fun σ' H2=>(∃ u2 u3 u4 u5:Option V,σ'=[some (.ref d),some (.ref P),some (.ref lr),u2,u3,u4,u5])/\Same H H2/\(r.word="after"->rowK n B pl r=true)) ?_ fun REST=>?_
  ·rintro σ' H2 ⟨⟨u2,u3,u4,u5,rfl⟩,s2,hA⟩
   have hr:=s2 _ _ hr0
   refine Wz (fun σ' H2=>(∃ u2 u3 u4 u5:Option V,σ'=[some (.ref d),some (.ref P),some (.ref lr),u2,u3,u4,u5])/\Same H H2/\(r.word="bench"->rowK n B pl r=true)) ?_ fun REST=>?_
   ·rintro σ' H2 ⟨⟨u2,u3,u4,u5,rfl⟩,s2,hB⟩
    have hr:=s2 _ _ hr0
    have fin:rowK n B pl r=true->(B.take (i + 1)).all (rowK n B pl)=true:=fun e=>by rw [Qmq _ er,ha,e];rfl
    refine ⟨_,rfl,lr,_,_,_,rfl,rfl,Qb hr,Ys r,rfl,_,rfl,ite2 (fun y=>?_) (fun y=>⟨⟨_,_,_,_,_,rfl⟩,s2,fin ?_⟩)⟩
    rotate_left
    ·by_cases e1:r.word="after"
     ·exact hA e1
     by_cases e2:r.word="bench"
     ·exact hB e2
     exact Qip e1 e2 fun e=>y (by rw [e];exact yesS _)
    obtain ⟨ss,mm,ff,rfl⟩:=Jz (eqS y)
    let Pv50:Nat->St->Hp->Prop:=fun j σ H3=>(∃ u2 u3 u4 u5:Option V,σ=[some (.ref d),some (.ref P),some (.ref lr),u2,u3,u4,u5])/\Same H H3/\∀ dd,dd < j->¬ (ff - mvd B pl 1 ss (dd:Int) + mvd B pl 2 ss (dd:Int) < 0\/ff - mvd B pl 1 ss (dd:Int) + mvd B pl 2 ss (dd:Int) > mm)
    refine ⟨_,rfl,d,_,_,_,rfl,rfl,Qb (s2 _ _ h1),a0,l0,_,_,_,rfl,rfl,Qb (s2 _ _ hl0),Qfr n,_,_,rfl,rfl,_,rfl,by omega,by omega,Xs (lo:=0) (n:=(n + 1).toNat) Pv50 ⟨⟨_,_,_,_,rfl⟩,s2,fun dd h=>absurd h (kZe _)⟩ ?_ ?_⟩
    ·rintro j σ H3 hj ⟨⟨u2,u3,u4,u5,rfl⟩,s3,hd⟩
     rw [day0]
     refine ⟨_,rfl,lr,_,_,_,rfl,rfl,Qb (s3 _ _ hr0),(show atI ((BR.store ss mm ff).cells.map kV) 3=some (.int ff) from rfl),_,rfl,_,rfl,_,rfl,lr,_,_,_,rfl,rfl,Qb (s3 _ _ hr0),(show atI ((BR.store ss mm ff).cells.map kV) 1=some (.str ss) from rfl),_,rfl,d,P,1,ss,(j:Int),n,B,pl,rfl,hb.same s3,PlanAt.same hPl s3,hpf,fun H4 s4=>⟨_,_,rfl,rfl,?_⟩⟩
     have s34:=s3.trans s4
     refine ⟨_,rfl,_,rfl,_,rfl,_,rfl,lr,_,_,_,rfl,rfl,Qb (s34 _ _ hr0),(show atI ((BR.store ss mm ff).cells.map kV) 1=some (.str ss) from rfl),_,rfl,d,P,2,ss,(j:Int),n,B,pl,rfl,hb.same s34,PlanAt.same hPl s34,hpf,fun H5 s5=>⟨_,_,rfl,rfl,?_⟩⟩
     have s35:=s34.trans s5
     have out:(ff - mvd B pl 1 ss (j:Int) + mvd B pl 2 ss (j:Int) < 0\/ff - mvd B pl 1 ss (j:Int) + mvd B pl 2 ss (j:Int) > mm)->Q (.bl false) H5:=fun c=>bad (Qhi hj (xJ (not_not_intro c))) H5 s35
     refine ⟨_,rfl,_,_,rfl,rfl,_,rfl,ite2 (fun y1=>ite2 (fun _=>out (.inl (jJ y1))) (fun z=>absurd rfl z)) (fun y1=>?_)⟩
     refine ⟨_,rfl,_,rfl,lr,_,_,_,rfl,rfl,Qb (s35 _ _ hr0),(show atI ((BR.store ss mm ff).cells.map kV) 2=some (.int mm) from rfl),_,_,rfl,rfl,_,rfl,ite2 (fun y2=>out (.inr (jJ y2))) (fun y2=>⟨⟨_,_,_,_,rfl⟩,s35,fun dd h=>?_⟩)⟩
     by_cases e:dd=j
     ·subst e
      exact fun z=>z.elim (fun z=>y1 (kQ z)) fun z=>y2 (kQ z)
     ·exact hd dd (by omega)
    ·rintro σ H3 ⟨⟨u2,u3,u4,u5,rfl⟩,s3,hd⟩
     exact ⟨⟨_,_,_,_,_,rfl⟩,s3,fin (all_range.mpr fun dd h=>kQ (hd dd h))⟩
   ·refine ⟨_,rfl,lr,_,_,_,rfl,rfl,Qb hr,Ys r,rfl,_,rfl,ite2 (fun y=>?_) (fun y=>REST _ _ ⟨⟨_,_,_,_,rfl⟩,s2,fun e=>absurd (by rw [e];exact yesS _) y⟩)⟩
    obtain ⟨bb,rr,rfl⟩:=Qav (eqS y)
    let Pv51:Nat->St->Hp->Prop:=fun j σ H3=>(∃ u2 u3 u4 u5:Option V,σ=[some (.ref d),some (.ref P),some (.ref lr),u2,u3,u4,u5])/\Same H H3/\∀ dd,dd < j->¬ (mvd B pl 0 bb (dd:Int) > Kw B bb rr (dd:Int))
    refine ⟨_,rfl,d,_,_,_,rfl,rfl,Qb (s2 _ _ h1),a0,l0,_,_,_,rfl,rfl,Qb (s2 _ _ hl0),Qfr n,_,rfl,by omega,by omega,Xs (lo:=0) (n:=n.toNat) Pv51 ⟨⟨_,_,_,_,rfl⟩,s2,fun dd h=>absurd h (kZe _)⟩ ?_ ?_⟩
    ·rintro j σ H3 hj ⟨⟨u2,u3,u4,u5,rfl⟩,s3,hd⟩
     rw [day0]
     refine ⟨_,rfl,lr,_,_,_,rfl,rfl,Qb (s3 _ _ hr0),(show atI ((BR.bench bb rr).cells.map kV) 2=some (.int rr) from rfl),?_⟩
     let Pv52:Nat->St->Hp->Prop:=fun m σ H4=>H4=H3/\∃ u4 u5:Option V,σ=[some (.ref d),some (.ref P),some (.ref lr),some (.int (j:Int)),some (.int (if (B.take m).any (Zc bb (j:Int))=true then 0 else rr)),u4,u5]
     refine ⟨_,rfl,d,rfl,⟨_,Qb (s3 _ _ h1)⟩,Xq (xs:=us) Pv52 ⟨rfl,_,_,rfl⟩ ?_ ?_ ?_⟩
     ·rintro m σ H4 hm4 ⟨rfl,_⟩
      exact Qb (s3 _ _ h1)
     ·rintro m x σ H4 ex4 ⟨rfl,u4,u5,rfl⟩
      obtain ⟨qq,lo,eq4,rfl,ho0⟩:=h2.get ex4
      have ho:=s3 _ _ ho0
      have hr4:=s3 _ _ hr0
      have nxt:Zc bb (j:Int) qq=false->(if (B.take (m + 1)).any (Zc bb (j:Int))=true then (0:Int) else rr)=(if (B.take m).any (Zc bb (j:Int))=true then 0 else rr):=fun e=>by rw [Qhj _ eq4,e,Bool.or_false]
      refine ⟨_,rfl,lo,_,_,_,rfl,rfl,Qb ho,Ys qq,rfl,_,rfl,ite2 (fun y1=>?_) (fun y1=>ite2 (fun z=>nomatch z) fun _=>⟨rfl,_,_,by rw [nxt (Qkx fun e=>y1 (by rw [e];exact yesS _))];rfl⟩)⟩
      obtain ⟨b',f0,t0,rfl⟩:=Qds (eqS y1)
      refine ⟨_,rfl,lo,_,_,_,rfl,rfl,Qb ho,(show atI ((BR.shut b' f0 t0).cells.map kV) 1=some (.str b') from rfl),_,rfl,lr,_,_,_,rfl,rfl,Qb hr4,(show atI ((BR.bench bb rr).cells.map kV) 1=some (.str bb) from rfl),rfl,_,rfl,ite2 (fun y2=>?_) (fun y2=>ite2 (fun z=>nomatch z) fun _=>⟨rfl,_,_,by rw [nxt (xJ fun z=>y2 (by rw [z.1];exact yesS _))];rfl⟩)⟩
      refine ⟨_,rfl,lo,_,_,_,rfl,rfl,Qb ho,(show atI ((BR.shut b' f0 t0).cells.map kV) 2=some (.int f0) from rfl),_,rfl,_,_,rfl,rfl,_,rfl,ite2 (fun y3=>?_) (fun y3=>ite2 (fun z=>nomatch z) fun _=>⟨rfl,_,_,by rw [nxt (xJ fun z=>y3 (kQ z.2.1))];rfl⟩)⟩
      refine ⟨_,rfl,_,rfl,lo,_,_,_,rfl,rfl,Qb ho,(show atI ((BR.shut b' f0 t0).cells.map kV) 3=some (.int t0) from rfl),_,_,rfl,rfl,_,rfl,ite2 (fun y4=>⟨rfl,some (.ref lo),u5,?_⟩) (fun y4=>⟨rfl,_,_,by rw [nxt (xJ fun z=>y4 (kQ z.2.2))];rfl⟩)⟩
      rw [Qhj _ eq4,show Zc bb (j:Int) (.shut b' f0 t0)=true from kQ ⟨eqS y2,jJ y3,jJ y4⟩,Bool.or_true,if_pos rfl]
      rfl
     ·rintro σ H4 ⟨rfl,u4,u5,rfl⟩
      rw [lu,kW,Qoh]
      refine ⟨_,rfl,_,rfl,_,rfl,lr,_,_,_,rfl,rfl,Qb (s3 _ _ hr0),(show atI ((BR.bench bb rr).cells.map kV) 1=some (.str bb) from rfl),_,rfl,d,P,0,bb,(j:Int),n,B,pl,rfl,hb.same s3,PlanAt.same hPl s3,hpf,fun H5 s5=>?_⟩
      have s35:=s3.trans s5
      refine ⟨_,rfl,_,_,rfl,rfl,_,rfl,ite2 (fun y1=>bad (Qhi hj (xJ (not_not_intro (jJ y1)))) H5 s35) (fun y1=>⟨⟨_,_,_,_,rfl⟩,s35,fun dd h=>?_⟩)⟩
      by_cases e:dd=j
      ·subst e
       exact fun z=>y1 (kQ z)
      ·exact hd dd (by omega)
    ·rintro σ H3 ⟨⟨u2,u3,u4,u5,rfl⟩,s3,hd⟩
     exact REST _ _ ⟨⟨_,_,_,_,rfl⟩,s3,fun _=>all_range.mpr fun dd h=>kQ (hd dd h)⟩
  ·have hr:=s1 _ _ hr0
   refine ⟨_,rfl,lr,_,_,_,rfl,rfl,Qb hr,Ys r,rfl,_,rfl,ite2 (fun y=>?_) (fun y=>ite2 (fun z=>nomatch z) fun _=>REST _ _ ⟨⟨_,_,_,_,rfl⟩,s1,fun e=>absurd (by rw [e];exact yesS _) y⟩)⟩
   obtain ⟨xx,yy,gg,rfl⟩:=Jw (eqS y)
   have hx:xx ∈ wks B:=Qaq bk.wb hm (kZ ..)
   have hy:yy ∈ wks B:=Qaq bk.wb hm (yZ _ (jZ.mpr rfl))
   obtain ⟨ty,dgy,hTy⟩:=Qhh (PlanAt.same hPl s1) hpf bk.wb hy
   obtain ⟨l,c,_,hw,_,_⟩:=hpf.get bk.wb (Vt hpf hx)
   refine ⟨_,rfl,_,rfl,lr,_,_,_,rfl,rfl,Qb hr,(show atI ((BR.after xx yy gg).cells.map kV) 2=some (.str yy) from rfl),P,_,rfl,dgy,ty,_,_,_,rfl,rfl,hTy,at1,_,rfl,_,rfl,_,rfl,lr,_,_,_,rfl,rfl,Qb hr,(show atI ((BR.after xx yy gg).cells.map kV) 1=some (.str xx) from rfl),d,P,xx,_,_,l,c,n,B,rfl,hb.same s1,Qhh (PlanAt.same hPl s1) hpf bk.wb hx,hw,fun H2 s2=>?_⟩
   rw [show (look pl xx).2 + l=endP B pl xx by unfold endP;rw [Zn bk.wb hw]]
   have s12:=s1.trans s2
   refine ⟨_,rfl,lr,_,_,_,rfl,rfl,Qb (s12 _ _ hr0),(show atI ((BR.after xx yy gg).cells.map kV) 3=some (.int gg) from rfl),_,_,rfl,rfl,_,_,rfl,rfl,_,rfl,ite2 (fun y1=>bad (xJ (not_not_intro (jJ y1))) H2 s12) (fun y1=>REST _ _ ⟨⟨_,_,_,_,rfl⟩,s12,fun _=>kQ fun z=>y1 (kQ z)⟩)⟩
 ·rintro σ H1 ⟨⟨u1,u2,u3,u4,u5,rfl⟩,s1,ha⟩
  rw [lu,kW] at ha
  have:=q H1 s1
  rw [show Qek n B pl=true from ha] at this
  exact this
abbrev sPls:Stmt:=top 43
theorem PlanAt.updL {K:Fg} {H:Hp} {g P:Addr} {ys zs:List V} {pl:List Ch} (hg:H g=some (.lst ys)) (h:PlanAt K H P pl):PlanAt K (upd H g (.lst zs)) P pl:=by
 obtain ⟨kvs,h1,h2⟩:=h
 exact ⟨kvs,by rw [Qi (Yp h1 hg (by intro z;cases z))];exact h1,Paired.mapP h2 fun _ _ ⟨e,t,e2,z⟩=>⟨e,t,e2,Xc hg z⟩⟩
abbrev PlsAre (K:Fg) (H:Hp):List V->List (List Ch)->Prop:=Paired fun v pl=>∃ P,v=.ref P/\PlanAt K H P pl
theorem PlsAre.same {K:Fg} {H H':Hp} (s:Same H H') {vs:List V} {L:List (List Ch)} (h:PlsAre K H vs L):PlsAre K H' vs L:=Paired.mapP h fun _ _ ⟨P,e,z⟩=>⟨P,e,PlanAt.same z s⟩
theorem PlsAre.updL {K:Fg} {H:Hp} {g:Addr} {ys zs:List V} (hg:H g=some (.lst ys)) {vs:List V} {L:List (List Ch)} (h:PlsAre K H vs L):PlsAre K (upd H g (.lst zs)) vs L:=Paired.mapP h fun _ _ ⟨P,e,z⟩=>⟨P,e,PlanAt.updL hg z⟩
def plsN (n:Int) (B:List BR) (L:List (List Ch)) (w:Str):List (List Ch):=(chO n B w).flatMap fun c=>L.map (· ++ [c])
def plsF (n:Int) (B:List BR) (ws:List Str):List (List Ch):=ws.foldl (plsN n B) [[]]
theorem Qel {n:Int} {B:List BR} {ws:List Str} {w:Str}:plsF n B (ws ++ [w])=plsN n B (plsF n B ws) w:=by
 unfold plsF;rw [List.foldl_append];rfl
theorem wy_len {B:List BR} (w:Str):(B.filterMap (wayR w)).length=(B.filter (wyN w)).length:=by
 induction B with
 | nil=>rfl
 | cons r B ih =>
  rw [jQa,jXd]
  cases r with
  | way w' v l c =>
   by_cases e:w'=w
   ·rw [show wayR w (.way w' v l c)=some (v,l,c) from if_pos e,show wyN w (.way w' v l c)=true from kQ e,if_pos rfl,xW,xW,ih]
   ·rw [show wayR w (.way w' v l c)=none from if_neg e,if_neg (show ¬ (wyN w (.way w' v l c)=true) from fun z=>e (jJ z)),ih]
  | _=>exact ih
theorem chO_24 {n:Int} {B:List BR} (bk:BookOk n B) (w:Str):(chO n B w).length<=24:=by
 have h1:=Xr (Qck bk (w:=w))
 have h2:=bk.wy w
 rw [← wy_len] at h2
 unfold chO
 omega
theorem Qoi {n:Int} {B:List BR} (bk:BookOk n B) (L:List (List Ch)) (w:Str):(plsN n B L w).length<=24 * L.length:=by
 have h1:=Xr (l:=chO n B w) (f:=fun c=>L.map (· ++ [c])) (m:=L.length) fun c _=>by rw [jX];exact jK _
 have h2:=Nat.mul_le_mul_right L.length (chO_24 bk w)
 exact jQd h1 h2
theorem Qoj {n:Int} {B:List BR} (bk:BookOk n B):∀ (ws:List Str),(plsF n B ws).length<=24 ^ ws.length:=by
 have h:∀ (ws:List Str) (L:List (List Ch)),(ws.foldl (plsN n B) L).length<=L.length * 24 ^ ws.length:=by
  intro ws
  induction ws with
  | nil=>intro L;simp
  | cons w ws ih =>
   intro L
   rw [kYb,xW,Nat.pow_succ]
   have h1:=ih (plsN n B L w)
   have h2:=Nat.mul_le_mul_right (24 ^ ws.length) (Qoi bk L w)
   have h3:24 * L.length * 24 ^ ws.length=L.length * (24 ^ ws.length * 24):=by
    rw [Nat.mul_comm 24 L.length,Nat.mul_assoc,Nat.mul_comm 24 (24 ^ ws.length)]
   omega
 intro ws
 have:=h ws [[]]
 unfold plsF
 simpa using this
theorem Qhk {n:Int} {B:List BR} (wb:WB n B):(wks B).length<=5:=by
 obtain ⟨nm,l5,hm⟩:=wb.few
 have:=Qrv (Qdr wb) (m:=nm) fun x hx=>hm _ (wks_mem.mp hx) x (jZ.mpr rfl)
 omega
theorem pow_24 {k:Nat} (h:k<=5):24 ^ k<=7962624:=by
 have:=Nat.pow_le_pow_right (show 0 < 24 by decide) h
 exact jQd this (by decide)
theorem Qhl {n:Int} {B:List BR}:∀ (ws:List Str) {pl:List Ch},(∀ w ∈ ws,w ∈ wks B)->pl ∈ plsF n B ws->pl.map (·.1)=ws/\∀ p ∈ pl,p ∈ chs n B:=by
 have h:∀ (ws pre:List Str) (L:List (List Ch)) (pl:List Ch),(∀ w ∈ ws,w ∈ wks B)->(∀ ql ∈ L,ql.map (·.1)=pre/\∀ p ∈ ql,p ∈ chs n B)->pl ∈ ws.foldl (plsN n B) L->pl.map (·.1)=pre ++ ws/\∀ p ∈ pl,p ∈ chs n B:=by
  intro ws
  induction ws with
  | nil=>intro pre L pl _ hL hp;rw [zZ];exact hL pl hp
  | cons w ws ih =>
   intro pre L pl hw hL hp
   have:=ih (pre ++ [w]) (plsN n B L w) pl (fun x hx=>hw x (yZ _ hx)) (fun ql hq=>?_) hp
   ·rw [xV] at this;exact this
   ·obtain ⟨c,hc,hq⟩:=zW.mp hq
    obtain ⟨q0,h0,rfl⟩:=xQ.mp hq
    obtain ⟨e1,e2⟩:=hL q0 h0
    refine ⟨by rw [kJ,e1];show pre ++ [c.1]=_;rw [(Jb hc).1],fun p hp=>?_⟩
    rcases zQ.mp hp with z | z
    ·exact e2 p z
    ·rw [jZ.mp z];exact zW.mpr ⟨w,hw w (kZ ..),hc⟩
 intro ws pl hw hp
 have:=h ws [] [[]] pl hw (fun ql hq=>by rw [jZ.mp hq];exact ⟨rfl,fun p hp=>nomatch hp⟩) hp
 simpa using this
theorem Qsb {n:Int} {B:List BR} {pl:List Ch} (h:pl ∈ plsF n B (wks B)):PlanFor n B pl:=by
 obtain ⟨e,hc⟩:=Qhl (wks B) (fun _ z=>z) h
 exact ⟨e,fun p hp=>Qai (hc p hp)⟩
theorem chs_at {n:Int} {B:List BR} (wb:WB n B) {w:Str} (hw:w ∈ wks B):(chs n B).filter (fun c=>decide (c.1=w))=chO n B w:=by
 have e:∀ ws:List Str,ws.Nodup->w ∈ ws->(ws.flatMap (chO n B)).filter (fun c=>decide (c.1=w))=chO n B w:=by
  have no:∀ ws:List Str,w ∉ ws->(ws.flatMap (chO n B)).filter (fun c=>decide (c.1=w))=[]:=fun ws hn=>jYe.mpr fun c hc z=>by
   obtain ⟨x,hx,hc⟩:=zW.mp hc
   rw [← jJ z,(Jb hc).1] at hn
   exact hn hx
  intro ws
  induction ws with
  | nil=>intro _ h;exact nomatch h
  | cons x ws ih =>
   intro nd hm
   obtain ⟨n1,n2⟩:=jYc.mp nd
   rw [wW,wX]
   by_cases c:x=w
   ·subst c
    rw [no ws n1,zZ]
    exact List.filter_eq_self.mpr fun c hc=>kQ (Jb hc).1
   ·rw [ih n2 ((yX.mp hm).resolve_left fun z=>c z.symm),jYe.mpr fun q hq z=>c ((Jb hq).1.symm.trans (jJ z)),List.nil_append]
 exact e (wks B) (Qdr wb) hw
structure PlW (K:Fg) (H0 H:Hp) (gF gL gC:Addr) (ys vs:List V) (L M:List (List Ch)) (A:List Ch):Prop where
 sm:Same H0 H
 nL:H0 gL=none
 hF:H gF=some (.lst ys)
 rF:PlsAre K H ys L
 hL:∃ zs,H gL=some (.lst zs)/\PlsAre K H zs M
 hC:H gC=some (.lst vs)
 rC:ChsAre K H vs A
theorem PlW.same {K:Fg} {H0 H H':Hp} {gF gL gC:Addr} {ys vs:List V} {L M:List (List Ch)} {A:List Ch} (h:PlW K H0 H gF gL gC ys vs L M A) (s:Same H H'):PlW K H0 H' gF gL gC ys vs L M A :=
 ⟨h.sm.trans s,h.nL,s _ _ h.hF,h.rF.same s,let ⟨zs,a,b⟩:=h.hL;⟨zs,s _ _ a,b.same s⟩,s _ _ h.hC,h.rC.same s⟩
theorem PlW.app {K:Fg} {H0 H:Hp} {gF gL gC R:Addr} {ys vs zs:List V} {L M:List (List Ch)} {A pl:List Ch} (h:PlW K H0 H gF gL gC ys vs L M A) (nF:gF ≠ gL) (nC:gC ≠ gL) (hg:H gL=some (.lst zs)) (hz:PlsAre K H zs M) (hR:PlanAt K H R pl):PlW K H0 (upd H gL (.lst (zs ++ [.ref R]))) gF gL gC ys vs L (M ++ [pl]) A :=
 ⟨Xv h.sm h.nL,h.nL,by rw [Qi nF];exact h.hF,h.rF.updL hg,⟨_,upd_same,Paired.snoc (hz.updL hg) ⟨R,rfl,PlanAt.updL hg hR⟩⟩,by rw [Qi nC];exact h.hC,h.rC.updL hg⟩
theorem Qok {α β:Type} (f:α->List β) {a b:List α} (h:a.Sublist b):(a.flatMap f).length<=(b.flatMap f).length:=by
 induction h with
 | slnil=>exact jK _
 | cons x _ ih=>rw [wW,jY];omega
 | cons_cons x _ ih=>rw [wW,wW,jY,jY];omega
theorem Qsc {kvs:List (Key × V)} {k:Key} {v:V} (h:k ∉ kvs.map (·.1)):putK kvs k v=kvs ++ [(k,v)]:=by
 unfold putK
 rw [if_neg fun z=>?_]
 obtain ⟨x,hx,e⟩:=jXc.mp z
 exact h (xQ.mpr ⟨x,hx,jJ e⟩)
def spPls (K:Fg):Sp:=fun vs H Q _=>∃ (d:Addr) (n:Int) (B:List BR),vs=[.ref d]/\BkAt H d n B/\∀ (g:Addr) (ys:List V) (H':Hp),Same H H'->H' g=some (.lst ys)->PlsAre K H' ys (plsF n B (wks B))->Q (.ref g) H'
theorem scPls:FnScope ["_law_book_here","_law_found","_law_row","_law_longer","_law_work","_law_way_here","_law_begin","_law_plan","_law_more"] ["_law_book_here"] (Qg sPls):=⟨rfl,rfl,rfl,by decide +kernel,rfl,by decide +kernel,by decide +kernel⟩
theorem okPls (F:Fn K mg "_law_plans" sPls) (M:Mg mg) (cl_choices:Cal P w K mg base 2 "_law_choices" ["_law_book_here"] (Qro K)):Cal P w K mg base 3 "_law_plans" ["_law_book_here"] (spPls K):=by
 refine Xi F scPls (fun _ _ _ _ _ _=>bind1 (fun _=>rfl)) (fun vs H Q E h=>?_) (fun f cdv A outer s H vs Q E hr h=>?_)
 ·obtain ⟨d,n,B,rfl,_⟩:=h
  rfl
 obtain ⟨d,n,B,rfl,hb,q⟩:=h
 have hu:(A.deeper (PyProof.Rows.envOfC "_law_plans" (Qg sPls) s.heap.objs.size f cdv)).units + 1 < cLine:=zV (wQ (by decide) _) hr.un
 have hz:(2000000:Nat) < sizeLine:=by decide
 refine ⟨_,(Qf (Qp (i:=1) scPls.nd rfl (Or.inl rfl) (Xw (Qa Qmt Qe)))
  (Qf (Xe PassesOwn.never rfl (Qt (pv 0)) (Ql (i:=2) scPls.nd rfl (Or.inl rfl) (Or.inl rfl)) (Qh (Yg (Qn Yb (Qo Qm (pv 2) Qd (fun _ _=>rfl)) Xa (Qq _)) (Qf (Qp (i:=3) scPls.nd rfl (Or.inl rfl) (Xw Qe))
  (Qf (Xe PassesOwn.never rfl (Qt (Xj cl_choices (hr.mono (by decide)) (Qa (pv 0) Qe))) (Wg rfl (Xt (Ql (i:=4) scPls.nd rfl (Or.inl rfl) (Or.inl rfl)) (Xt (Ql (i:=5) scPls.nd rfl (Or.inl rfl) (Or.inl rfl)) (Xt (Ql (i:=6) scPls.nd rfl (Or.inl rfl) (Or.inl rfl)) Ke)))) (Qh (Yg (Qn Yb (pv 4) (Qo Qm (pv 2) Qd (fun _ _=>rfl)) (Qq _)) (Qh (Xe PassesOwn.never rfl (Qt (pv 1)) (Ql (i:=7) scPls.nd rfl (Or.inl rfl) (Or.inl rfl)) (Qf (Qp (i:=8) scPls.nd rfl (Or.inl rfl) (Xf Qih rfl M.dict_ Wt (Qa (pv 7) Qe)))
  (Qf (Qqe hu (pv 8) (pv 4) (Xd (Qa (pv 5) (Qa (pv 6) Qe))) rfl)
  (Qh (Xm (Zp PySem.F.plainAttrs_list PySem.F.slot_list_append PySem.F.type_list_append Xb (pv 3) (Qa (pv 8) Qe)))))))) Qz)))
  (Qh (Qp (i:=1) scPls.nd rfl (Or.inl rfl) (pv 3))))) Qz)))
  (Qh (Qw (pv 1))))),?_⟩
 have bk:=hb.bk
 have hz2:(16000000:Nat) < sizeLine:=by decide
 obtain ⟨us,h1,h2⟩:=hb.ex
 have lu:=h2.length
 refine fun P0 hP0=>⟨by show 1<=sizeLine;decide,fun g0 hg0=>?_⟩
 have s0:=(Qc hP0 (.dK [])).trans (Qc hg0 (.lst [.ref P0]))
 have hP00:PlanAt K (upd (upd H P0 (.dK [])) g0 (.lst [.ref P0])) P0 []:=⟨[],Qc hg0 _ _ _ upd_same,.nil⟩
 have hg00:upd (upd H P0 (.dK [])) g0 (.lst [.ref P0]) g0=some (.lst [.ref P0]):=upd_same
 generalize upd (upd H P0 (.dK [])) g0 (.lst [.ref P0])=H1 at s0 hP00 hg00 ⊢
 let Pv53:Nat->St->Hp->Prop:=fun i σ H1=>∃ (g:Addr) (ys:List V) (u1 u2 u3 u4 u5 u6 u7:Option V),σ=[some (.ref d),some (.ref g),u1,u2,u3,u4,u5,u6,u7]/\Same H H1/\H1 g=some (.lst ys)/\PlsAre K H1 ys (plsF n B ((B.take i).filterMap Xz))
 refine ⟨_,rfl,d,rfl,⟨_,Qb (s0 _ _ h1)⟩,Xq (xs:=us) Pv53 ⟨g0,_,none,none,none,none,none,none,none,rfl,s0,hg00,.cons ⟨P0,rfl,hP00⟩ .nil⟩ ?_ ?_ ?_⟩
 ·rintro i σ H1 hi ⟨g,ys,u1,u2,u3,u4,u5,u6,u7,rfl,s1,hg,hL⟩
  exact Qb (s1 _ _ h1)
 ·rintro i x σ H1 ex ⟨g,ys,u1,u2,u3,u4,u5,u6,u7,rfl,s1,hg,hL⟩
  obtain ⟨r,lr,er,rfl,hr0⟩:=h2.get ex
  have hr:=s1 _ _ hr0
  refine ⟨_,rfl,lr,_,_,_,rfl,rfl,Qb hr,Ys r,rfl,_,rfl,ite2 (fun y=>?_) (fun y=>⟨g,ys,_,_,_,_,_,_,_,rfl,s1,hg,by rw [Yd Xz er,Kv (fun e=>y (by rw [e];exact yesS _)),jJd,zZ];exact hL⟩)⟩
  obtain ⟨w,rfl⟩:=Kt (eqS y)
  have hwk:w ∈ wks B:=wks_mem.mpr (kX er)
  have aw:atI ((BR.work w).cells.map kV) 1=some (.str w):=rfl
  have epre:(B.take (i + 1)).filterMap Xz=(B.take i).filterMap Xz ++ [w]:=Yd Xz er
  have hsub:((B.take (i + 1)).filterMap Xz).Sublist (wks B):=(kYd _ _).filterMap _
  have ndp:=hsub.nodup (Qdr bk.wb)
  have lpre:=hsub.length_le
  have l5:=Qhk bk.wb
  rw [epre] at ndp lpre
  rw [jY,jZf] at lpre
  have hnw:w ∉ (B.take i).filterMap Xz:=fun z=>(List.nodup_append.mp ndp).2.2 w z w (jZ.mpr rfl) rfl
  have hk0:∀ pl ∈ plsF n B ((B.take i).filterMap Xz),w ∉ pl.map (·.1)/\pl.length<=5:=fun pl hp=>by
   have e:=(Qhl _ (fun x hx=>((kYd _ _).filterMap Xz).subset hx) hp).1
   have e2:=congrArg List.length e
   rw [jX] at e2
   rw [e]
   exact ⟨hnw,by omega⟩
  have lenL:(plsN n B (plsF n B ((B.take i).filterMap Xz)) w).length<=7962624:=by
   rw [← Qel,← epre]
   refine jQd (Qoj bk _) (pow_24 ?_)
   rw [epre,jY,jZf]
   omega
  have nxt:plsF n B ((B.take (i + 1)).filterMap Xz)=plsN n B (plsF n B ((B.take i).filterMap Xz)) w:=by rw [epre,Qel]
  generalize plsF n B ((B.take i).filterMap Xz)=L at hL hk0 lenL nxt
  refine ⟨by show 0<=sizeLine;decide,fun gL hgL=>?_⟩
  have s2:=Qc hgL (.lst [])
  have hgL2:upd H1 gL (.lst []) gL=some (.lst []):=upd_same
  have nF:g ≠ gL:=fun e=>by rw [← e,hg] at hgL;cases hgL
  generalize upd H1 gL (.lst [])=H2 at s2 hgL2 ⊢
  refine ⟨_,rfl,d,n,B,rfl,hb.same (s1.trans s2),fun gC H3 c3=>?_⟩
  obtain ⟨vs,hC,rC⟩:=c3.ex
  have nC:gC ≠ gL:=fun e=>by have:=c3.fr;rw [e,hgL2] at this;cases this
  have W:PlW K H H3 g gL gC ys vs L [] (chs n B):=⟨s1.trans (s2.trans c3.sm),s1.free hgL,c3.sm _ _ (s2 _ _ hg),(hL.same s2).same c3.sm,⟨[],c3.sm _ _ hgL2,.nil⟩,hC,rC⟩
  have eA:=chs_at bk.wb hwk (n:=n)
  have lC:=Paired.length rC
  let Pv54:Nat->St->Hp->Prop:=fun j σ H4=>(∃ u4 u5 u6 u7 u8:Option V,σ=[some (.ref d),some (.ref g),some (.ref lr),some (.ref gL),u4,u5,u6,u7,u8])/\PlW K H H4 g gL gC ys vs L ((((chs n B).take j).filter fun c=>decide (c.1=w)).flatMap fun c=>L.map (· ++ [c])) (chs n B)
  refine ⟨gC,rfl,⟨_,Qb hC⟩,Xq (xs:=vs) Pv54 ⟨⟨_,_,_,_,_,rfl⟩,W⟩ ?_ ?_ ?_⟩
  ·rintro j σ H4 hj ⟨_,W⟩
   exact Qb W.hC
  ·rintro j x σ H4 ex4 ⟨⟨u4,u5,u6,u7,u8,rfl⟩,W⟩
   obtain ⟨ch,ec,hc,t,rfl,ht⟩:=Qgv W.rC ex4
   refine ⟨t,_,rfl,ht,rfl,_,_,rfl,_,_,rfl,_,_,rfl,rfl,?_⟩
   refine ⟨_,rfl,_,rfl,lr,_,_,_,rfl,rfl,Qb (W.sm _ _ hr0),aw,rfl,_,rfl,ite2 (fun y1=>?_) (fun y1=>⟨⟨_,_,_,_,_,rfl⟩,by rw [Zi _ ec,if_neg (show ¬ (decide (ch.1=w)=true) from fun z=>y1 (by rw [jJ z];exact yesS _)),zZ];exact W⟩)⟩
   have ew:ch.1=w:=eqS y1
   have eflt:(((chs n B).take (j + 1)).filter fun c=>decide (c.1=w)).flatMap (fun c=>L.map (· ++ [c]))=(((chs n B).take j).filter fun c=>decide (c.1=w)).flatMap (fun c=>L.map (· ++ [c])) ++ L.map (· ++ [ch]):=by
    rw [Zi _ ec,if_pos (kQ ew),jKe]
    simp
   have lall:((((chs n B).take (j + 1)).filter fun c=>decide (c.1=w)).flatMap fun c=>L.map (· ++ [c])).length<=7962624:=by
    have hs:(((chs n B).take (j + 1)).filter fun c=>decide (c.1=w)).Sublist (chO n B w):=by
     rw [← eA];exact (kYd _ _).filter _
    exact jQd (Qok _ hs) lenL
   rw [eflt,jY,jX] at lall
   generalize (((chs n B).take j).filter fun c=>decide (c.1=w)).flatMap (fun c=>L.map (· ++ [c]))=M at W eflt lall
   have lF:=Paired.length W.rF
   let Pv55:Nat->St->Hp->Prop:=fun m σ H5=>(∃ u7 u8:Option V,σ=[some (.ref d),some (.ref g),some (.ref lr),some (.ref gL),some (.str ch.1),some (.str ch.2.1),some (.int ch.2.2),u7,u8])/\PlW K H H5 g gL gC ys vs L (M ++ (L.take m).map (· ++ [ch])) (chs n B)
   refine ⟨_,rfl,g,rfl,⟨_,Qb W.hF⟩,Xq (xs:=ys) Pv55 ⟨⟨_,_,rfl⟩,by rw [List.take_zero,jJb,zZ];exact W⟩ ?_ ?_ ?_⟩
   ·rintro m σ H5 hm ⟨_,W⟩
    exact Qb W.hF
   ·rintro m x σ H5 ex5 ⟨⟨u7,u8,rfl⟩,W⟩
    obtain ⟨pl,ep,P,rfl,hPl⟩:=Qr W.rF ex5
    obtain ⟨kvs,hk1,hk2⟩:=hPl
    obtain ⟨hnp,lpl5⟩:=hk0 pl (kX ep)
    have lk:=Paired.length hk2
    refine ⟨_,rfl,P,kvs,rfl,hk1,by omega,fun R hR=>?_⟩
    have s6:=Qc hR (.dK kvs)
    have hR6:upd H5 R (.dK kvs) R=some (.dK kvs):=upd_same
    refine ⟨_,rfl,_,rfl,by show 2<=sizeLine;decide,fun t7 ht7=>?_⟩
    have s7:=s6.trans (Qc ht7 (.tup [.str ch.2.1,.int ch.2.2]))
    have hR7:=Qc ht7 (.tup [.str ch.2.1,.int ch.2.2]) _ _ hR6
    have ht77:SqT K (upd (upd H5 R (.dK kvs)) t7 (.tup [.str ch.2.1,.int ch.2.2])) t7 [.str ch.2.1,.int ch.2.2]:=Qu upd_same
    generalize upd (upd H5 R (.dK kvs)) t7 (.tup [.str ch.2.1,.int ch.2.2])=H7 at s7 hR7 ht77 ⊢
    refine ⟨_,rfl,_,rfl,R,_,rfl,DPut.k (k:=Sum.inr ch.1) hR7 (by omega),?_⟩
    have s8:Same H5 (upd H7 R (.dK (putK kvs (Sum.inr ch.1) (.ref t7)))):=Xv s7 hR
    have hR8:PlanAt K (upd H7 R (.dK (putK kvs (Sum.inr ch.1) (.ref t7)))) R (pl ++ [ch]):=by
     refine ⟨kvs ++ [(Sum.inr ch.1,.ref t7)],?_,Paired.snoc (Paired.mapP hk2 fun _ _ ⟨e,t,e2,z⟩=>⟨e,t,e2,s8.tup z⟩) ⟨rfl,t7,rfl,Qhg hR7 ht77⟩⟩
     rw [upd_same,Qsc]
     rw [Je hk2,ew]
     intro z
     obtain ⟨a,ha,e⟩:=xQ.mp z
     rw [Sum.inr.inj e] at ha
     exact hnp ha
    have W8:=W.same s8
    generalize upd H7 R (.dK (putK kvs (Sum.inr ch.1) (.ref t7)))=H8 at s8 hR8 W8 ⊢
    obtain ⟨zs,hL8,rL8⟩:=W8.hL
    have lz:=Paired.length rL8
    rw [jY,jX,zK] at lz
    refine ⟨_,rfl,.inl ⟨rfl,_,Qb hL8⟩,_,rfl,_,_,_,rfl,rfl,hL8,by omega,⟨_,_,rfl⟩,?_⟩
    rw [Ze ep,kJ,← xV]
    exact W8.app nF nC hL8 rL8 hR8
   ·rintro σ H5 ⟨⟨u7,u8,rfl⟩,W⟩
    refine ⟨⟨_,_,_,_,_,rfl⟩,?_⟩
    rw [eflt]
    rw [lF,kW] at W
    exact W
  ·rintro σ H4 ⟨⟨u4,u5,u6,u7,u8,rfl⟩,W⟩
   rw [lC,kW,eA] at W
   obtain ⟨zs,hL4,rL4⟩:=W.hL
   exact ⟨_,rfl,gL,zs,_,_,_,_,_,_,_,rfl,W.sm,hL4,by rw [nxt];exact rL4⟩
 ·rintro σ H1 ⟨g,ys,u1,u2,u3,u4,u5,u6,u7,rfl,s1,hg,hL⟩
  rw [lu,kW] at hL
  exact ⟨_,rfl,q g ys H1 s1 hg hL⟩
abbrev sOnE:Stmt:=top 48
def leS (a b:Str):Prop:=Spec.ltCps b.cps.toList a.cps.toList=false
theorem Qlw {a b:Str}:leS a b ↔ ¬ b.cps.toList < a.cps.toList:=by
 unfold leS
 rw [PyProof.Rows.ltCps_eq,decide_eq_false_iff_not]
theorem Qbe:∀ {l:List Str},PyProof.Rows.sortedS l=true->l.Pairwise leS:=by
 have key:∀ (l:List Str) (x:Str),PyProof.Rows.risingS x l=true->(x :: l).Pairwise leS:=by
  intro l
  induction l with
  | nil=>intro x _;exact jJc _ _
  | cons y r ih =>
   intro x h
   rw [PyProof.Rows.risingS.eq_2,wV,Bool.not_eq_true'] at h
   have h2:=ih y h.2
   refine jZe.mpr ⟨fun z hz=>?_,h2⟩
   have hxy:leS x y:=h.1
   rcases yX.mp hz with e | e
   ·rw [e];exact hxy
   ·have hyz:=(jZe.mp h2).1 z e
    rw [Qlw] at *
    exact kJa.mpr (List.le_trans (kJa.mp hxy) (kJa.mp hyz))
 intro l h
 cases l with
 | nil=>exact .nil
 | cons x r=>exact key r x h
theorem Qiq {qs os:List Str} (h2:PyProof.Rows.sortedS qs=true) (h4:PyProof.Rows.sortedS os=true) (h:qs.Perm os):qs=os:=by
 refine List.Perm.eq_of_pairwise (le:=leS) (fun a b _ _ z1 z2=>?_) (Qbe h2) (Qbe h4) h
 rw [Qlw] at z1 z2
 have e:=List.le_antisymm (kJa.mp z1) (kJa.mp z2)
 cases a with
 | mk a=>cases b with
  | mk b=>exact congrArg Str.mk (Array.toList_inj.mp e)
def oneB (p:Ch × Int):Bool:=decide (p.2=1)
def Qfu (A:List Ch) (ms:List Int):List Str:=((A.zip ms).filter oneB).map fun p=>p.1.1
theorem Qem (qs:List Str):qs.map V.str=(qs.map (Sum.inr:Str->Key)).map kV:=by rw [jKc];rfl
def spOnE (K:Fg):Sp:=fun vs H Q _=>∃ (d a b:Addr) (n:Int) (B:List BR) (ms:List Int),vs=[.ref d,.ref a,.ref b]/\BkAt H d n B/\ChsAt K H a (chs n B)/\SqL K H b (ms.map V.int)/\ms.length=(chs n B).length/\Qfu (chs n B) ms=wks B/\∀ (H':Hp),Same H H'->Q (.bl true) H'
theorem scOnE:FnScope ["_law_book_here","_law_found","_law_bits","_law_works","_law_mine"] ["_law_book_here","_law_found","_law_bits"] (Qg sOnE):=⟨rfl,rfl,rfl,by decide +kernel,rfl,by decide +kernel,by decide +kernel⟩
theorem okOnE (F:Fn K mg "_law_one_each" sOnE) (M:Mg mg):Cal P w K mg base 2 "_law_one_each" ["_law_book_here","_law_found","_law_bits"] (spOnE K):=by
 refine Xi F scOnE (fun _ _ _ _ _ _=>Qii (fun _ _ _=>rfl)) (fun vs H Q E h=>?_) (fun f cdv A outer s H vs Q E hr h=>?_)
 ·obtain ⟨d,a,b,n,B,ms,rfl,_⟩:=h
  rfl
 obtain ⟨d,a,b,n,B,ms,rfl,hb,hA,hms,lm,hpk,q⟩:=h
 have hu6:(A.deeper (PyProof.Rows.envOfC "_law_one_each" (Qg sOnE) s.heap.objs.size f cdv)).units + 6 < cLine:=zV (wQ (by decide) _) hr.un
 have hz:(2000000:Nat) < sizeLine:=by decide
 refine ⟨_,(Qf (Qp (i:=3) scOnE.nd rfl (Or.inl rfl) (Qy (Vs (K:=K) rfl) rfl M.sorted Ws (Qa (Yr ["_law_row"] [none] rfl (Qt (pv 0)) (fun _ _ _=>(Ql (i:=0) (show (["_law_row"]:List Str).Nodup by decide +kernel) rfl (Or.inl rfl) (Or.inr rfl))) (fun _ _ _=>(Zu (Qn Yb (Qo (Yc (K:=K) rfl) (pv 0) Qd (fun _ _=>rfl)) Xa (Qq _)))) (fun _ _ _=>(Qo (Yc (K:=K) rfl) (pv 0) Qd (fun _ _=>rfl)))) Qe)))
  (Qf (Vd (i:=4) ["_law_one","_law_bit"] [none,none] rfl scOnE.nd rfl (Or.inl rfl) (Qjt true true rfl M.zip_ (Qa (pv 1) (Qa (pv 2) Qe))) (fun _ _ _=>(Jh (K:=K) (i:=0) (j:=1) rfl rfl (show (["_law_one","_law_bit"]:List Str).Nodup by decide +kernel) rfl rfl rfl rfl)) (fun _ _ _=>(Zu (Qn Yb (pv 1) Qd (Qq _)))) (fun _ _ _=>(Qo (Ji (K:=K) rfl) (pv 0) Qd (fun _ _=>rfl))))
  (Qh (Qw (Vb (op_eqK (K:=K) (n:=6) rfl hu6) (Qy (Vs (K:=K) rfl) rfl M.sorted Ws (Qa (pv 4) Qe)) (pv 3) (Qq _)))))),?_⟩
 have bk:=hb.bk
 have l5:=Qhk bk.wb
 have fw:=hA.few
 obtain ⟨us,h1,h2⟩:=hb.ex
 refine ⟨_,rfl,d,rfl,⟨_,Qb h1⟩,fun D hD=>Qdw (f:=Xz) (fun _ v x=>v=V.str x) (fun _ z=>z) (fun _ z=>z) (cs:=[]) rfl h1 h2 bk.wb.len hD (fun r lr H1 hm s1 hr P1 P2 k1 k2=>?_) (fun ys H1 s1 hE hR=>?_)⟩
 ·refine ⟨_,rfl,lr,_,_,_,rfl,rfl,Qb hr,Ys r,rfl,_,rfl,ite2 (fun y=>?_) (fun y=>k2 (Kv fun e=>y (by rw [e];exact yesS _)) H1 (Same.refl _))⟩
  obtain ⟨w,rfl⟩:=Kt (eqS y)
  exact ⟨_,rfl,lr,_,_,_,rfl,rfl,Qb hr,(show atI ((BR.work w).cells.map kV) 1=some (.str w) from rfl),k1 _ _ _ rfl (Same.refl _) rfl⟩
 have e:=Jj hR
 subst e
 refine ⟨D,wks B,rfl,Qb hE,by omega,fun S qs hS hq hsort=>?_⟩
 have s2:=s1.trans (Qc hS (.lst (qs.map V.str)))
 have hS2:upd H1 S (.lst (qs.map V.str)) S=some (.lst (qs.map V.str)):=upd_same
 generalize upd H1 S (.lst (qs.map V.str))=H2 at s2 hS2 ⊢
 obtain ⟨vs,hv,hvc⟩:=(hA.same s2).ex
 have lv:=Paired.length hvc
 have hms2:=s2.seq hms
 have lz:((chs n B).zip ms).length=(chs n B).length:=by rw [List.length_zip,lm,Nat.min_self]
 refine ⟨_,rfl,_,rfl,a,b,rfl,⟨_,hv⟩,⟨_,hms2⟩,fun D3 hD3=>?_⟩
 let Pv56:Nat->St->List V->Hp->Prop:=fun i τ ys H3=>∃ u v:Option V,τ=[u,v]/\ys=((((chs n B).zip ms).take i).filter oneB).map (fun p=>V.str p.1.1)/\H3 D3=some (.lst ys)/\Same H2 H3
 refine Ym (n:=(chs n B).length) Pv56 ?_ (fun i τ ys H3 hi h=>?_) (fun i τ ys H3 hi h=>?_) (fun τ ys H3 h=>?_) ?_ ?_
 ·exact ⟨none,none,rfl,rfl,upd_same,Qc hD3 _⟩
 ·obtain ⟨u,v,rfl,rfl,hE,s3⟩:=h
  have:=jJa oneB (((chs n B).zip ms).take i)
  rw [zK] at this
  exact ⟨hE,by rw [jX];omega⟩
 ·obtain ⟨u,v,rfl,rfl,hE,s3⟩:=h
  exact ⟨_,_,vs[i]'(by omega),.int (ms[i]'(by omega)),s3.seq hv,s3.seq hms2,gE (by omega),by rw [yY,gE (by omega)];rfl⟩
 ·obtain ⟨u,v,rfl,rfl,hE,s3⟩:=h
  exact ⟨_,_,s3.seq hv,s3.seq hms2,by rw [jX];omega⟩
 ·rintro i τ ys H3 x H4 hi ⟨u,v,rfl,rfl,hE,s3⟩ ⟨T,x1,y1,rfl,hT,rfl,e1,e2⟩
  obtain ⟨ch,ec,hc,t,rfl,ht0⟩:=Qgv hvc (e1 _ (s3.seq hv))
  obtain ⟨m,em,rfl⟩:=Wu (e2 _ (s3.seq hms2))
  have ez:((chs n B).zip ms)[i]?=some (ch,m):=by rw [List.getElem?_zip_eq_some];exact ⟨ec,em⟩
  have s4:=Qc hT (.tup [.ref t,.int m])
  have hT4:SqT K (upd H3 T (.tup [.ref t,.int m])) T [.ref t,.int m]:=Qu upd_same
  generalize upd H3 T (.tup [.ref t,.int m])=H5 at s4 hT4 ⊢
  refine ⟨T,_,rfl,hT4,rfl,_,_,rfl,_,_,rfl,rfl,?_⟩
  refine ⟨_,rfl,rfl,_,rfl,ite2 (fun y=>?_) (fun y=>?_)⟩
  ·have e:m=1:=by
    have:=jJ y
    injection this
   refine ⟨_,rfl,t,_,_,_,rfl,rfl,(s3.trans s4).tup ht0,Qdy,s4 _ _ hE,_,_,rfl,?_,upd_same,Xv (s3.trans s4) hD3⟩
   rw [Zi oneB ez,if_pos (show oneB (ch,m)=true from kQ e),kJ]
   rfl
  ·have e:¬ m=1:=fun z=>y (by rw [z];rfl)
   refine ⟨_,_,rfl,?_,s4 _ _ hE,s3.trans s4⟩
   rw [Zi oneB ez,if_neg (show ¬ (oneB (ch,m)=true) from fun z=>e (jJ z)),zZ]
 rintro τ ys H3 ⟨u,v,rfl,rfl,hE,s3⟩
 have ep:((((chs n B).zip ms).take (chs n B).length).filter oneB).map (fun p=>V.str p.1.1)=(wks B).map V.str:=by
  rw [← lz,kW,← hpk]
  unfold Qfu
  rw [jKc]
  rfl
 rw [ep] at hE
 refine ⟨_,rfl,D3,wks B,rfl,Qb hE,by omega,fun S4 qs4 hS4 hq4 hsort4=>?_⟩
 have s4:=Qc hS4 (.lst (qs4.map V.str))
 have eq:qs4=qs:=Qiq hsort4 hsort (hq4.trans hq.symm)
 refine ⟨_,rfl,S4,S,qs4.map Sum.inr,qs.map Sum.inr,rfl,rfl,by rw [← Qem];exact Qb upd_same,by rw [← Qem];exact Qb (s4 _ _ (s3 _ _ hS2)),fun c hc=>?_⟩
 rw [hc.mpr (by rw [eq])]
 exact q _ ((s2.trans s3).trans s4)
abbrev sPtO:Stmt:=top 18
def spPtO (K:Fg):Sp:=fun vs H Q _=>∃ (d P:Addr) (n:Int) (us:List V) (B:List BR) (pl:List Ch),vs=[.ref d,.ref P]/\H d=some (.lst us)/\RowsB H us B/\BookOk n B/\PlanAt K H P pl/\PlanFor n B pl/\∀ (t:Addr) (H':Hp),Same H H'->SqT K H' t (((chs n B).map (ptC pl)).map V.int)->Q (.ref t) H'
theorem scPtO:FnScope ["book","plan"] ["book","plan"] (Qg sPtO):=⟨rfl,rfl,rfl,by decide +kernel,rfl,by decide +kernel,by decide +kernel⟩
theorem okPtO (F:Fn K mg "point_of" sPtO) (M:Mg mg) (c_choices:Cal P w K mg base 4 "choices" ["book"] (Qhf K)):Cal P w K mg base 5 "point_of" ["book","plan"] (spPtO K):=by
 refine Xi F scPtO (fun _ _ _ _ _ _=>Zm (fun _ _=>rfl)) (fun vs H Q E h=>?_) (fun f cdv A outer s H vs Q E hr h=>?_)
 ·obtain ⟨d,P,n,us,B,pl,rfl,_⟩:=h
  rfl
 obtain ⟨d,P,n,us,B,pl,rfl,hd,hB,bk,hP,hpf,q⟩:=h
 have hu6:(A.deeper (PyProof.Rows.envOfC "point_of" (Qg sPtO) s.heap.objs.size f cdv)).units + 6 < cLine:=zV (wQ (by decide) _) hr.un
 have hu:(A.deeper (PyProof.Rows.envOfC "point_of" (Qg sPtO) s.heap.objs.size f cdv)).units + 1 < cLine:=zV (wQ (by decide) _) hr.un
 refine ⟨_,(Qh (Qw (Xf Xu rfl M.tuple_ Yq (Qa (Yr ["choice","plan"] [none,some 1] rfl (Qt (Xj c_choices (hr.mono (by decide)) (Qa (pv 0) Qe))) (fun _ _ _=>(Ql (i:=0) (show (["choice","plan"]:List Str).Nodup by decide +kernel) rfl (Or.inl rfl) (Or.inr rfl))) (fun _ _ _=>Yl) (fun _ _ _=>(Kk (Qn (Qlg (K:=K) (n:=6) rfl hu6) (Zh hu (pv 1) (Qo (Ji (K:=K) rfl) (pv 0) Qd (fun _ _=>rfl)) (fun _ _=>rfl)) (Za (Qlr (K:=K) rfl) (pv 0) (Zt Qd) Zs) (Qq _)) Qd Qd))) Qe)))),?_⟩
 refine ⟨_,rfl,d,n,us,B,rfl,hd,hB,bk,fun g H1 cA=>?_⟩
 obtain ⟨ys,hy,_⟩:=cA.ex
 have nd:=hpf.nd bk.wb
 refine ⟨g,rfl,⟨_,Qb hy⟩,fun D hD=>Qah (f:=ptC pl) (cs:=[some (.ref P)]) rfl (cA.at (Qaj bk)) hD (fun ch t H2 hc s2 ht Pq k=>?_) (fun H2 s2 hD2=>?_)⟩
 ·obtain ⟨kvs,hk1,hk2⟩:=PlanAt.same hP (cA.sm.trans s2)
  obtain ⟨l,c,hmem,hway,b0,b1⟩:=hpf.get bk.wb (Vt hpf (chs_wk hc))
  obtain ⟨tp,en,hT⟩:=Qco hk2 nd hmem
  refine ⟨_,rfl,_,rfl,t,_,_,_,rfl,rfl,ht,Qdy,P,_,rfl,.inl ⟨kvs,Sum.inr ch.1,.inl hk1,rfl,en.symm⟩,_,rfl,_,rfl,t,_,rfl,ht,(by show ¬ (HT.sIx 3 0 (some 1)=0/\HT.sIx 3 3 none=3);decide),fun tq htq=>?_⟩
  rw [cut1c]
  have s3:=Qc htq (.tup [.str ch.2.1,.int ch.2.2])
  refine ⟨tp,tq,[Sum.inr (look pl ch.1).1,Sum.inl (look pl ch.1).2],[Sum.inr ch.2.1,Sum.inl ch.2.2],rfl,rfl,s3.tup hT,Qu upd_same,fun c hc=>?_⟩
  have e:c=selC pl ch:=by
   unfold selC
   rw [jZa,hc,decide_eq_true_iff]
   constructor
   ·intro z
    injection z with z1 z
    injection z with z2
    exact Prod.ext (Sum.inr.inj z1) (Sum.inl.inj z2)
   ·intro z
    rw [z]
  subst e
  have kk:=k _ s3
  unfold ptC at kk
  refine ⟨_,rfl,ite2 (fun y=>?_) (fun y=>?_)⟩
  ·rw [if_pos y] at kk;exact kk
  ·rw [if_neg y] at kk;exact kk
 ·exact ⟨D,_,rfl,.inl ⟨Qb hD2,fun t ht=>q t _ (cA.sm.trans (s2.trans (Qc ht _))) (Qu upd_same)⟩⟩
abbrev sPlO:Stmt:=top 19
def PrV (K:Fg) (H:Hp) (v:V) (c:Ch):Prop:=∃ t tp,v=.ref t/\SqT K H t [.str c.1,.ref tp]/\SqT K H tp [.str c.2.1,.int c.2.2]
theorem Qpl {K:Fg} {H:Hp}:∀ {ys:List V} {L:List Ch},Paired (PrV K H) ys L->∃ ps:List (Key × V),PairsK K H ys ps/\Paired (fun (p:Key × V) (q:Ch)=>p.1=Sum.inr q.1/\∃ t,p.2=.ref t/\SqT K H t [.str q.2.1,.int q.2.2]) ps L
 | _,_,.nil=>⟨[],.nil,.nil⟩
 | _,_,.cons ⟨t,tp,e,z1,z2⟩ r=>by
  obtain ⟨ps,h1,h2⟩:=Qpl r
  exact ⟨(Sum.inr _,.ref tp) :: ps,.cons ⟨t,e,z1⟩ h1,.cons ⟨rfl,tp,rfl,z2⟩ h2⟩
theorem Qbf:∀ (ps acc:List (Key × V)),((acc ++ ps).map (·.1)).Nodup->ps.foldl (fun d p=>putK d p.1 p.2) acc=acc ++ ps
 | [],acc,_=>by simp
 | p :: ps,acc,nd=>by
  have hn:¬ ((acc.any fun kv=>decide (kv.1=p.1))=true):=fun z=>by
   obtain ⟨x,hx,e⟩:=jXc.mp z
   rw [kJ,List.nodup_append] at nd
   exact nd.2.2 x.1 (xQ.mpr ⟨x,hx,rfl⟩) p.1 (xQ.mpr ⟨p,kZ ..,rfl⟩) (jJ e)
  rw [kYb,show putK acc p.1 p.2=acc ++ [p] by unfold putK;rw [if_neg hn],Qbf ps (acc ++ [p]) (by rw [xV];exact nd),xV]
  rfl
def spPlO (K:Fg):Sp:=fun vs H Q _=>∃ (d t:Addr) (n:Int) (us:List V) (B:List BR) (pl:List Ch),vs=[.ref d,.ref t]/\H d=some (.lst us)/\RowsB H us B/\BookOk n B/\PlanFor n B pl/\SqT K H t (((chs n B).map (ptC pl)).map V.int)/\∀ (P:Addr) (H':Hp),Same H H'->PlanAt K H' P pl->Q (.ref P) H'
theorem scPlO:FnScope ["book","point"] ["book","point"] (Qg sPlO):=⟨rfl,rfl,rfl,by decide +kernel,rfl,by decide +kernel,by decide +kernel⟩
theorem okPlO (F:Fn K mg "plan_of" sPlO) (M:Mg mg) (c_choices:Cal P w K mg base 4 "choices" ["book"] (Qhf K)):Cal P w K mg base 5 "plan_of" ["book","point"] (spPlO K):=by
 refine Xi F scPlO (fun _ _ _ _ _ _=>Zm (fun _ _=>rfl)) (fun vs H Q E h=>?_) (fun f cdv A outer s H vs Q E hr h=>?_)
 ·obtain ⟨d,t,n,us,B,pl,rfl,_⟩:=h
  rfl
 obtain ⟨d,tt,n,us,B,pl,rfl,hd,hB,bk,hpf,htt,q⟩:=h
 have hz:(2000000:Nat) < sizeLine:=by decide
 refine ⟨_,(Qh (Qw (Xf (Zv rfl) rfl M.dict_ Wt (Qa (Yr ["choice","worth"] [none,none] rfl (Qjt true false rfl M.zip_ (Qa (Xj c_choices (hr.mono (by decide)) (Qa (pv 0) Qe)) (Qa (pv 1) Qe))) (fun _ _ _=>(Jh (K:=K) (i:=0) (j:=1) rfl rfl (show (["choice","worth"]:List Str).Nodup by decide +kernel) rfl rfl rfl rfl)) (fun _ _ _=>(Zu (Qn Yb (pv 1) Qd (Qq _)))) (fun _ _ _=>(Xd (Qa (Qo (Ji (K:=K) rfl) (pv 0) Qd (fun _ _=>rfl)) (Qa (Za (Qlr (K:=K) rfl) (pv 0) (Zt Qd) Zs) Qe))))) Qe)))),?_⟩
 refine ⟨_,rfl,d,n,us,B,rfl,hd,hB,bk,fun g H1 cA=>?_⟩
 obtain ⟨vs,hy,hvc⟩:=cA.ex
 have lv:=Paired.length hvc
 have fw:=Qaj bk
 have nd:=hpf.nd bk.wb
 have htt1:=cA.sm.tup htt
 refine ⟨_,rfl,g,tt,rfl,⟨_,Qb hy⟩,⟨_,htt1⟩,fun D hD=>?_⟩
 let Pv57:Nat->St->List V->Hp->Prop:=fun i τ ys H2=>∃ u v:Option V,τ=[u,v]/\Paired (PrV K H2) ys (((chs n B).take i).filter (selC pl))/\ys.length<=i/\H2 D=some (.lst ys)/\Same H1 H2
 refine Ym (n:=(chs n B).length) Pv57 ?_ (fun i τ ys H2 hi h=>?_) (fun i τ ys H2 hi h=>?_) (fun τ ys H2 h=>?_) ?_ ?_
 ·exact ⟨none,none,rfl,.nil,jK _,upd_same,Qc hD _⟩
 ·obtain ⟨u,v,rfl,hR,hl,hE,s2⟩:=h
  exact ⟨hE,by omega⟩
 ·obtain ⟨u,v,rfl,hR,hl,hE,s2⟩:=h
  exact ⟨_,_,vs[i]'(by omega),.int (ptC pl (chs n B)[i]),Qb (s2 _ _ hy),s2.tup htt1,gE (by omega),by rw [yY,yY,gE hi];rfl⟩
 ·obtain ⟨u,v,rfl,hR,hl,hE,s2⟩:=h
  exact ⟨_,_,Qb (s2 _ _ hy),s2.tup htt1,by rw [jX,jX];omega⟩
 ·rintro i τ ys H2 x H3 hi ⟨u,v,rfl,hR,hl,hE,s2⟩ ⟨T,x1,y1,rfl,hT,rfl,e1,e2⟩
  obtain ⟨ch,ec,hc,t,rfl,ht0⟩:=Qgv hvc (e1 _ (Qb (s2 _ _ hy)))
  have e3:=e2 _ (s2.tup htt1)
  rw [yY,yY,ec] at e3
  cases e3
  have s3:=Qc hT (.tup [.ref t,.int (ptC pl ch)])
  have hT3:SqT K (upd H2 T (.tup [.ref t,.int (ptC pl ch)])) T [.ref t,.int (ptC pl ch)]:=Qu upd_same
  generalize upd H2 T (.tup [.ref t,.int (ptC pl ch)])=H4 at s3 hT3 ⊢
  refine ⟨T,_,rfl,hT3,rfl,_,_,rfl,_,_,rfl,rfl,?_⟩
  have ht4:=(s2.trans s3).tup ht0
  refine ⟨_,rfl,rfl,_,rfl,ite2 (fun y=>?_) (fun y=>?_)⟩
  ·have hs:selC pl ch=true:=by
    by_cases z:selC pl ch=true
    ·exact z
    ·have e:ptC pl ch=0:=if_neg z
     rw [e] at y
     exact absurd y (by decide)
   refine ⟨_,rfl,t,_,_,_,rfl,rfl,ht4,Qdy,_,rfl,_,rfl,t,_,rfl,ht4,(by show ¬ (HT.sIx 3 0 (some 1)=0/\HT.sIx 3 3 none=3);decide),fun tp htp=>?_⟩
   rw [cut1c]
   have s5:=Qc htp (.tup [.str ch.2.1,.int ch.2.2])
   have htp5:SqT K (upd H4 tp (.tup [.str ch.2.1,.int ch.2.2])) tp [.str ch.2.1,.int ch.2.2]:=Qu upd_same
   generalize upd H4 tp (.tup [.str ch.2.1,.int ch.2.2])=H5 at s5 htp5 ⊢
   refine ⟨by show 2<=sizeLine;decide,fun tq htq=>?_⟩
   have s6:=Qc htq (.tup [.str ch.1,.ref tp])
   have htq6:SqT K (upd H5 tq (.tup [.str ch.1,.ref tp])) tq [.str ch.1,.ref tp]:=Qu upd_same
   have htp6:=s6.tup htp5
   have sA:=(s3.trans s5).trans s6
   generalize upd H5 tq (.tup [.str ch.1,.ref tp])=H6 at sA htq6 htp6 ⊢
   refine ⟨sA _ _ hE,_,_,rfl,?_,by rw [jY];exact wJ hl,upd_same,Xv (s2.trans sA) hD⟩
   rw [Zi (selC pl) ec,if_pos hs]
   exact Paired.snoc (Paired.mapP hR fun _ _ ⟨t,tp,e,z1,z2⟩=>⟨t,tp,e,Xc (sA _ _ hE) (sA.tup z1),Xc (sA _ _ hE) (sA.tup z2)⟩) ⟨tq,tp,rfl,Xc (sA _ _ hE) htq6,Xc (sA _ _ hE) htp6⟩
  ·have hs:¬ selC pl ch=true:=fun z=>y (by
    have e:ptC pl ch=1:=if_pos z
    rw [e];rfl)
   refine ⟨_,_,rfl,?_,by omega,s3 _ _ hE,s2.trans s3⟩
   rw [Zi (selC pl) ec,if_neg hs,zZ]
   exact Paired.mapP hR fun _ _ ⟨t,tp,e,z1,z2⟩=>⟨t,tp,e,s3.tup z1,s3.tup z2⟩
 rintro τ ys H2 ⟨u,v,rfl,hR,hl,hE,s2⟩
 rw [kW,Qpj hpf bk.wb] at hR
 obtain ⟨ps,h1,h2⟩:=Qpl hR
 have lp:=Paired.length h2
 have lr:=Paired.length hR
 refine ⟨D,ys,ps,rfl,Qb hE,h1,by omega,fun P hP=>?_⟩
 have sP:=Qc hP (.dK (Xp ps))
 refine q P _ (cA.sm.trans (s2.trans sP)) ⟨ps,?_,Paired.mapP h2 fun _ _ ⟨e,t,e2,z⟩=>⟨e,t,e2,sP.tup z⟩⟩
 rw [upd_same]
 have:=Qbf ps [] (by
  rw [List.nil_append,Je h2]
  exact List.Pairwise.map _ (fun a b (h:a ≠ b) e=>h (Sum.inr.inj e)) nd)
 unfold Xp
 rw [this]
 rfl
abbrev Wb:Stmt:=top 30
def Vo (K:Fg):Sp:=fun vs H Q _=>∃ (a b:Addr) (ns ms:List Int),vs=[.ref a,.ref b]/\SqT K H a (ns.map V.int)/\SqT K H b (ms.map V.int)/\ns.length<=2000000/\(∀ m ∈ ms,m=0\/m=1)/\∀ H',Same H H'->Q (.int (dot ns ms)) H'
theorem Qlx:FnScope ["numbers","point"] ["numbers","point"] (Qg Wb):=⟨rfl,rfl,rfl,by decide +kernel,rfl,by decide +kernel,by decide +kernel⟩
theorem Qly (F:Fn K mg "weighed" Wb) (M:Mg mg):Cal P w K mg base 1 "weighed" ["numbers","point"] (Vo K):=by
 refine Xi F Qlx (fun _ _ _ _ _ _=>Zm (fun _ _=>rfl)) (fun vs H Q E h=>?_) (fun f cdv A outer s H vs Q E hr h=>?_)
 ·obtain ⟨a,b,ns,ms,rfl,_⟩:=h
  rfl
 obtain ⟨a,b,ns,ms,rfl,ha,hb,h1,hm,q⟩:=h
 refine ⟨_,(Qh (Qw (Qy (Ko rfl) rfl M.sum Qgf (Qa (Yr ["number","worth"] [none,none] rfl (Qjt false false rfl M.zip_ (Qa (pv 0) (Qa (pv 1) Qe))) (fun _ _ _=>(Jh (K:=K) (i:=0) (j:=1) rfl rfl (show (["number","worth"]:List Str).Nodup by decide +kernel) rfl rfl rfl rfl)) (fun _ _ _=>Yl) (fun _ _ _=>(Qj Zr (pv 0) (pv 1)))) Qe)))),?_⟩
 have hz:(2000000:Nat) < sizeLine:=by decide
 have lz:(List.zipWith (· * ·) ns ms).length=min ns.length ms.length:=List.length_zipWith
 refine ⟨_,rfl,_,rfl,a,b,rfl,⟨_,ha⟩,⟨_,hb⟩,fun D hD=>?_⟩
 let Pv58:Nat->St->List V->Hp->Prop:=fun i τ ys H1=>∃ u v:Option V,τ=[u,v]/\ys=((List.zipWith (· * ·) ns ms).take i).map V.int/\H1 D=some (.lst ys)/\Same H H1
 refine Ym (n:=min ns.length ms.length) Pv58 ?_ (fun i τ ys H1 hi h=>?_) (fun i τ ys H1 hi h=>?_) (fun τ ys H1 h=>?_) ?_ ?_
 ·exact ⟨none,none,rfl,rfl,upd_same,Qc hD _⟩
 ·obtain ⟨u,v,rfl,rfl,hD1,s1⟩:=h
  exact ⟨hD1,by rw [jX,zK];omega⟩
 ·obtain ⟨u,v,rfl,rfl,hD1,s1⟩:=h
  have i1:i < ns.length:=by omega
  have i2:i < ms.length:=by omega
  exact ⟨_,_,.int ns[i],.int ms[i],s1.tup ha,s1.tup hb,by rw [yY,gE i1];rfl,by rw [yY,gE i2];rfl⟩
 ·obtain ⟨u,v,rfl,rfl,hD1,s1⟩:=h
  exact ⟨_,_,s1.tup ha,s1.tup hb,by rw [jX,jX];omega⟩
 ·rintro i τ ys H1 x H2 hi ⟨u,v,rfl,rfl,hD1,s1⟩ ⟨T,x1,y1,rfl,hT,rfl,e1,e2⟩
  obtain ⟨n,en,rfl⟩:=Wu (e1 _ (s1.tup ha))
  obtain ⟨m,em,rfl⟩:=Wu (e2 _ (s1.tup hb))
  have hm1:=hm m (memI em)
  refine ⟨T,_,rfl,Qu upd_same,rfl,_,_,rfl,_,_,rfl,rfl,?_⟩
  refine ⟨_,rfl,_,rfl,_,_,rfl,rfl,.inr ⟨by omega,by omega⟩,?_,_,_,rfl,?_,upd_same,fun b' o e=>?_⟩
  ·rw [Qi (Qk hD1 hT)];exact hD1
  ·rw [Ze (getZip en em),kJ];rfl
  ·rw [Qi (Qk e hD),Qi (Qk (s1 _ _ e) hT)];exact s1 _ _ e
 ·rintro τ ys H1 ⟨u,v,rfl,rfl,hD1,s1⟩
  rw [jXb (by omega)] at hD1
  exact ⟨D,_,rfl,Qb hD1,q _ s1⟩
abbrev Qol:Stmt:=top 31
def Qlz (K:Fg):Sp:=fun vs H Q _=>∃ (t b:Addr) (r:List Int × Int) (ms:List Int),vs=[.ref t,.ref b]/\RowAt K H t r/\SqT K H b (ms.map V.int)/\r.1.length<=2000000/\(∀ m ∈ ms,m=0\/m=1)/\∀ H',Same H H'->Q (.bl (Qbr ms r)) H'
theorem scKept:FnScope ["row","point"] ["row","point"] (Qg Qol):=⟨rfl,rfl,rfl,by decide +kernel,rfl,by decide +kernel,by decide +kernel⟩
theorem okKept (F:Fn K mg "kept" Qol) (M:Mg mg) (c_weighed:Cal P w K mg base 1 "weighed" ["numbers","point"] (Vo K)):Cal P w K mg base 2 "kept" ["row","point"] (Qlz K):=by
 refine Xi F scKept (fun _ _ _ _ _ _=>Zm (fun _ _=>rfl)) (fun vs H Q E h=>?_) (fun f cdv A outer s H vs Q E hr h=>?_)
 ·obtain ⟨t,b,r,ms,rfl,_⟩:=h
  rfl
 obtain ⟨t,b,r,ms,rfl,⟨p,hr1,hr2⟩,hb,h1,hm,q⟩:=h
 refine ⟨_,(Qh (Qw (Vb op_ge (Xj c_weighed (hr.mono (by decide)) (Qa (Qo Xn (pv 0) Qd (fun _ _=>rfl)) (Qa (pv 1) Qe))) (Qo Xn (pv 0) Qd (fun _ _=>rfl)) (Qq _)))),?_⟩
 exact ⟨_,rfl,t,_,_,_,rfl,rfl,hr1,at0,_,rfl,p,b,r.1,ms,rfl,hr2,hb,h1,hm,fun H' s'=>⟨_,rfl,t,_,_,_,rfl,rfl,s'.tup hr1,at1,_,_,rfl,rfl,q H' s'⟩⟩
abbrev Qhm:Stmt:=top 32
def Qhn (K:Fg):Sp:=fun vs H Q _=>∃ (t b:Addr) (rs:List (List Int × Int)) (cs ms:List Int),vs=[.ref t,.ref b]/\Qjz K H t rs cs/\SqT K H b (ms.map V.int)/\rs.length<=2000000/\(∀ r ∈ rs,r.1.length<=2000000)/\(∀ m ∈ ms,m=0\/m=1)/\∀ H',Same H H'->Q (.bl (rs.all (Qbr ms))) H'
theorem Qsd:FnScope ["problem","point"] ["problem","point"] (Qg Qhm):=⟨rfl,rfl,rfl,by decide +kernel,rfl,by decide +kernel,by decide +kernel⟩
theorem Qse (F:Fn K mg "keeps" Qhm) (M:Mg mg) (c_kept:Cal P w K mg base 2 "kept" ["row","point"] (Qlz K)):Cal P w K mg base 3 "keeps" ["problem","point"] (Qhn K):=by
 refine Xi F Qsd (fun _ _ _ _ _ _=>Zm (fun _ _=>rfl)) (fun vs H Q E h=>?_) (fun f cdv A outer s H vs Q E hr h=>?_)
 ·obtain ⟨t,b,rs,cs,ms,rfl,_⟩:=h
  rfl
 obtain ⟨t,b,rs,cs,ms,rfl,⟨l,c,vs,ht,hl,hrw,hc⟩,hb,h1,h2,hm,q⟩:=h
 refine ⟨_,(Qh (Qw (Qy (Qjw rfl) rfl M.all bt_all (Qa (Yr ["row","point"] [none,some 1] rfl (Qt (Qo Xn (pv 0) Qd (fun _ _=>rfl))) (fun _ _ _=>(Ql (i:=0) (show (["row","point"]:List Str).Nodup by decide +kernel) rfl (Or.inl rfl) (Or.inr rfl))) (fun _ _ _=>Yl) (fun _ _ _=>(Xj c_kept (hr.mono (by decide)) (Qa (pv 0) (Qa (pv 1) Qe))))) Qe)))),?_⟩
 have hz:(2000000:Nat) < sizeLine:=by decide
 have lv:=hrw.length
 refine ⟨_,rfl,t,_,_,_,rfl,rfl,ht,at0,l,rfl,⟨_,hl⟩,fun D hD=>?_⟩
 let Pv59:Nat->St->List V->Hp->Prop:=fun i τ ys H1=>∃ v:Option V,τ=[v,some (.ref b)]/\ys=((rs.take i).map (Qbr ms)).map V.bl/\H1 D=some (.lst ys)/\Same H H1
 refine Ym (n:=rs.length) Pv59 ?_ (fun i τ ys H1 hi h=>?_) (fun i τ ys H1 hi h=>?_) (fun τ ys H1 h=>?_) ?_ ?_
 ·exact ⟨none,rfl,rfl,upd_same,Qc hD _⟩
 ·obtain ⟨v,rfl,rfl,hD1,s1⟩:=h
  exact ⟨hD1,by rw [jX,jX,zK];omega⟩
 ·obtain ⟨v,rfl,rfl,hD1,s1⟩:=h
  exact ⟨vs,vs[i]'(by omega),s1.seq hl,gE (by omega)⟩
 ·obtain ⟨v,rfl,rfl,hD1,s1⟩:=h
  exact ⟨vs,s1.seq hl,by omega⟩
 ·rintro i τ ys H1 x H2 hi ⟨v,rfl,rfl,hD1,s1⟩ ⟨rfl,e1⟩
  obtain ⟨t',r,rfl,er,hrt⟩:=hrw.get (e1 _ (s1.seq hl))
  refine ⟨_,rfl,_,rfl,t',b,r,ms,rfl,hrt.same s1,s1.tup hb,h2 r (kX er),hm,fun H3 s3=>⟨s3 _ _ hD1,_,rfl,?_,upd_same,fun b' o e=>?_⟩⟩
  ·rw [Ze er,kJ,kJ];rfl
  ·rw [Qi (Qk e hD)];exact s3 _ _ (s1 _ _ e)
 ·rintro τ ys H1 ⟨v,rfl,rfl,hD1,s1⟩
  rw [kW] at hD1
  refine ⟨D,_,rfl,Qb hD1,?_⟩
  have e:((rs.map (Qbr ms)).all id)=rs.all (Qbr ms):=by rw [List.all_map];rfl
  rw [e]
  exact q _ s1
abbrev Qom:Stmt:=top 33
def Qma (K:Fg):Sp:=fun vs H Q _=>∃ (t b:Addr) (rs:List (List Int × Int)) (cs ms:List Int),vs=[.ref t,.ref b]/\Qjz K H t rs cs/\SqT K H b (ms.map V.int)/\cs.length<=2000000/\(∀ m ∈ ms,m=0\/m=1)/\∀ H',Same H H'->Q (.int (dot cs ms)) H'
theorem scCost:FnScope ["problem","point"] ["problem","point"] (Qg Qom):=⟨rfl,rfl,rfl,by decide +kernel,rfl,by decide +kernel,by decide +kernel⟩
theorem okCost (F:Fn K mg "cost_of" Qom) (M:Mg mg) (c_weighed:Cal P w K mg base 1 "weighed" ["numbers","point"] (Vo K)):Cal P w K mg base 2 "cost_of" ["problem","point"] (Qma K):=by
 refine Xi F scCost (fun _ _ _ _ _ _=>Zm (fun _ _=>rfl)) (fun vs H Q E h=>?_) (fun f cdv A outer s H vs Q E hr h=>?_)
 ·obtain ⟨t,b,rs,cs,ms,rfl,_⟩:=h
  rfl
 obtain ⟨t,b,rs,cs,ms,rfl,⟨l,c,vs,ht,hl,hrw,hc⟩,hb,h1,hm,q⟩:=h
 refine ⟨_,(Qh (Qw (Xj c_weighed (hr.mono (by decide)) (Qa (Qo Xn (pv 0) Qd (fun _ _=>rfl)) (Qa (pv 1) Qe))))),?_⟩
 exact ⟨_,rfl,t,_,_,_,rfl,rfl,ht,at1,_,rfl,c,b,cs,ms,rfl,hc,hb,h1,hm,fun H' s'=>q H' s'⟩
end
def ktR (B:List BR) (k:Fin 3) (t:Str) (d:Int) (p:Ch):Int:=if act k p.2.2 (p.2.2 + lenB B p.1 p.2.1) d then Yx B k p.1 p.2.1 t else 0
theorem sum_if {α:Type} {c:Prop} [Decidable c] (f:α->Int) (l:List α):(if c then (l.map f).sum else 0)=(l.map fun x=>if c then f x else 0).sum:=by
 by_cases h:c
 ·rw [if_pos h];congr 1;exact wK fun x _=>(if_pos h).symm
 ·rw [if_neg h,show (fun x:α=>if c then f x else 0)=fun _=>(0:Int) from funext fun x=>if_neg h,Va]
theorem Qho {n:Int} {B:List BR} {pl:List Ch} (h:PlanFor n B pl) (wb:WB n B) (k:Fin 3) (t:Str) (d:Int):mvd B pl k t d=(pl.map (ktR B k t d)).sum:=by
 have nd:=h.nd wb
 unfold mvd
 rw [Qei]
 have e1:(pl.map (ktR B k t d))=pl.map fun p=>(B.map fun r=>if act k p.2.2 (p.2.2 + lenB B p.1 p.2.1) d then valO id (Kd k p.1 p.2.1 t r) else 0).sum:=wK fun p _=>by
  unfold ktR Yx
  rw [← List.map_id (B.filterMap (Kd k p.1 p.2.1 t)),Qei,sum_if]
 rw [e1]
 refine (sum_rows (fun p r=>if act k p.2.2 (p.2.2 + lenB B p.1 p.2.1) d then valO id (Kd k p.1 p.2.1 t r) else 0) _ B fun r hr=>?_).symm
 cases r with
 | use k' w v t' m =>
  by_cases c:k'=k/\t'=t
  ·obtain ⟨rfl,rfl⟩:=c
   have hw:w ∈ pl.map (·.1):=by rw [h.keys];exact Qaq wb hr (jZ.mpr rfl)
   have e:=Vn (x:=mvV B pl k' d (w,v,m)) nd hw
   refine Eq.trans (congrArg List.sum (wK fun p hp=>?_)) (e.trans ?_)
   ·have ek:look pl p.1=p.2:=Vh (v:=p.2.1) (b:=p.2.2) nd hp
    show (if act k' p.2.2 (p.2.2 + lenB B p.1 p.2.1) d then valO id (if k'=k'/\w=p.1/\v=p.2.1/\t'=t' then some m else none) else 0)=_
    by_cases ew:p.1=w
    ·rw [if_pos ew]
     unfold mvV endP
     rw [← ew]
     show _=if (look pl p.1).1=v then _ else _
     rw [ek]
     by_cases ev:p.2.1=v
     ·rw [if_pos (show k'=k'/\p.1=p.1/\v=p.2.1/\t'=t' from ⟨rfl,rfl,ev.symm,rfl⟩),if_pos ev];rfl
     ·rw [if_neg (show ¬ (k'=k'/\p.1=p.1/\v=p.2.1/\t'=t') from fun z=>ev z.2.2.1.symm),if_neg ev]
      show (if _ then (0:Int) else 0)=0
      split <;> rfl
    ·rw [if_neg (show ¬ (k'=k'/\w=p.1/\v=p.2.1/\t'=t') from fun z=>ew z.2.1.symm),if_neg ew]
     show (if _ then (0:Int) else 0)=0
     split <;> rfl
   ·show _=valO (mvV B pl k' d) (if k'=k'/\t'=t' then some (w,v,m) else none)
    rw [if_pos ⟨rfl,rfl⟩];rfl
  ·show _=valO (mvV B pl k d) (if k'=k/\t'=t then some (w,v,m) else none)
   rw [if_neg c]
   refine Eq.trans (congrArg List.sum (wK fun p _=>?_)) (Va pl)
   show (if act k p.2.2 (p.2.2 + lenB B p.1 p.2.1) d then valO id (if k'=k/\w=p.1/\v=p.2.1/\t'=t then some m else none) else 0)=0
   rw [if_neg (show ¬ (k'=k/\w=p.1/\v=p.2.1/\t'=t) from fun z=>c ⟨z.1,z.2.2.2⟩)]
   show (if _ then (0:Int) else 0)=0
   split <;> rfl
 | _ =>
  refine Eq.trans (congrArg List.sum (wK fun p _=>?_)) (Va pl)
  show (if act k p.2.2 (p.2.2 + lenB B p.1 p.2.1) d then (0:Int) else 0)=0
  split <;> rfl
theorem Qpm {B:List BR} {b:Str} {d:Int}:useR B b d=ktR B 0 b d:=funext fun p=>by
 unfold useR ktR act
 by_cases c:p.2.2<=d/\d < p.2.2 + lenB B p.1 p.2.1
 ·rw [if_pos c,if_pos (.inl ⟨rfl,c⟩)]
 ·rw [if_neg c,if_neg]
  rintro (⟨_,z⟩ | ⟨z,_⟩ | ⟨z,_⟩)
  ·exact c z
  ·exact absurd z (by decide)
  ·exact absurd z (by decide)
theorem Qsf {B:List BR} {s:Str} {d:Int} (p:Ch):Yz B s d p=ktR B 2 s d p - ktR B 1 s d p:=by
 unfold Yz ktR act
 have e1:(if ((1:Fin 3)=0/\p.2.2<=d/\d < p.2.2 + lenB B p.1 p.2.1)\/((1:Fin 3)=1/\p.2.2<=d)\/((1:Fin 3)=2/\p.2.2 + lenB B p.1 p.2.1<=d) then Yx B 1 p.1 p.2.1 s else 0)=if p.2.2<=d then Yx B 1 p.1 p.2.1 s else 0:=by
  by_cases c:p.2.2<=d
  ·rw [if_pos c,if_pos (.inr (.inl ⟨rfl,c⟩))]
  ·rw [if_neg c,if_neg]
   rintro (⟨z,_⟩ | ⟨_,z⟩ | ⟨z,_⟩)
   ·exact absurd z (by decide)
   ·exact c z
   ·exact absurd z (by decide)
 have e2:(if ((2:Fin 3)=0/\p.2.2<=d/\d < p.2.2 + lenB B p.1 p.2.1)\/((2:Fin 3)=1/\p.2.2<=d)\/((2:Fin 3)=2/\p.2.2 + lenB B p.1 p.2.1<=d) then Yx B 2 p.1 p.2.1 s else 0)=if p.2.2 + lenB B p.1 p.2.1<=d then Yx B 2 p.1 p.2.1 s else 0:=by
  by_cases c:p.2.2 + lenB B p.1 p.2.1<=d
  ·rw [if_pos c,if_pos (.inr (.inr ⟨rfl,c⟩))]
  ·rw [if_neg c,if_neg]
   rintro (⟨z,_⟩ | ⟨z,_⟩ | ⟨_,z⟩)
   ·exact absurd z (by decide)
   ·exact absurd z (by decide)
   ·exact c z
 rw [e1,e2]
theorem Qon {α:Type} (f g:α->Int) (l:List α):(l.map fun x=>f x - g x).sum=(l.map f).sum - (l.map g).sum:=by
 induction l with
 | nil=>rfl
 | cons a l ih=>rw [yQ,yQ,yQ,xX,xX,xX,ih];omega
theorem sum_neg {α:Type} (f:α->Int) (l:List α):(l.map fun x=>-(f x)).sum=-(l.map f).sum:=by
 induction l with
 | nil=>rfl
 | cons a l ih=>rw [yQ,yQ,xX,xX,ih];omega
structure KpP (n:Int) (B:List BR) (pl:List Ch):Prop where
 ben:∀ b r,BR.bench b r ∈ B->∀ d:Nat,d < n.toNat->(pl.map (useR B b (d:Int))).sum<=Kw B b r (d:Int)
 sto:∀ s m f,BR.store s m f ∈ B->∀ d:Nat,d < (n + 1).toNat->0<=f + (pl.map (Yz B s (d:Int))).sum/\f + (pl.map (Yz B s (d:Int))).sum<=m
 aft:∀ x y g,BR.after x y g ∈ B->endP B pl x + g<=(look pl y).2
theorem Qhp {n:Int} {B:List BR} {pl:List Ch} (h:PlanFor n B pl) (wb:WB n B):Qek n B pl=true ↔ KpP n B pl:=by
 unfold Qek
 rw [jXa]
 have ms:∀ s (d:Nat) f,f - mvd B pl 1 s (d:Int) + mvd B pl 2 s (d:Int)=f + (pl.map (Yz B s (d:Int))).sum:=fun s d f=>by
  rw [Qho h wb,Qho h wb,show Yz B s (d:Int)=fun p=>ktR B 2 s (d:Int) p - ktR B 1 s (d:Int) p from funext fun p=>Qsf p,Qon]
  omega
 constructor
 ·intro k
  refine ⟨fun b r hb d hd=>?_,fun s m f hs d hd=>?_,fun x y g ha=>?_⟩
  ·have:=jJ (all_range.mp (k _ hb) d hd)
   rw [Qho h wb,← Qpm] at this
   omega
  ·have:=jJ (all_range.mp (k _ hs) d hd)
   rw [ms] at this
   omega
  ·have:=jJ (k _ ha)
   omega
 ·intro k r hr
  cases r with
  | bench b r =>
   refine all_range.mpr fun d hd=>kQ ?_
   rw [Qho h wb,← Qpm]
   have:=k.ben b r hr d hd
   omega
  | store s m f =>
   refine all_range.mpr fun d hd=>kQ ?_
   rw [ms]
   have:=k.sto s m f hr d hd
   omega
  | after x y g =>
   refine kQ ?_
   have:=k.aft x y g hr
   omega
  | _=>rfl
theorem Qsg {n:Int} {B:List BR} {pl:List Ch} (h:PlanFor n B pl) (bk:BookOk n B):dueF n B pl=none ↔ KpP n B pl:=by
 have wb:=bk.wb
 have n1:=bk.n1
 unfold dueF
 rw [List.head?_eq_none_iff,kZb,kZb,kZb]
 have dy:∀ (f:Int->Prop) [DecidablePred f] (N:Nat) (g:Nat->List Key),(Jm f N).map g=[] ↔ ∀ d:Nat,d < N->¬ f (d:Int):=fun f _ N g=>by
  unfold Jm
  rw [List.map_eq_nil_iff,jYe]
  constructor
  ·intro z d hd hf;exact z d (jYb.mpr hd) (kQ hf)
  ·intro z d hd hf;exact z d (jYb.mp hd) (jJ hf)
 have sr:∀ st fi (d:Nat),Zo B pl st fi ((d:Int)).toNat=fi + (pl.map (Yz B st (d:Int))).sum:=fun st fi d=>by
  rw [jXf];exact Qef wb h.good st fi d
 constructor
 ·rintro ⟨_,k1,k2,k3⟩
  have k1:=jQf.mp k1
  have k2:=jQf.mp k2
  have k3:=jQf.mp k3
  refine ⟨fun b r hb d hd=>?_,fun s m f hs d hd=>?_,fun x y g ha=>?_⟩
  ·have:=(dy _ _ _).mp (k1 _ hb) d hd
   unfold Qao at this
   omega
  ·have:=(dy _ _ _).mp (k2 _ hs) d (by omega)
   rw [sr] at this
   omega
  ·have:=k3 _ ha
   have z:¬ ((look pl y).2 - (look pl x).2 - lenB B x (look pl x).1 < g):=fun z=>by
    have e:(if (look pl y).2 - (look pl x).2 - lenB B x (look pl x).1 < g then [[(Sum.inr ("after":Str):Key),Sum.inr x,Sum.inr y]] else [])=[]:=this
    rw [if_pos z] at e
    cases e
   unfold endP
   omega
 ·intro k
  refine ⟨Qpk h,jQf.mpr fun r hr=>?_,jQf.mpr fun r hr=>?_,jQf.mpr fun r hr=>?_⟩
  ·cases r with
   | bench b r =>
    refine (dy _ _ _).mpr fun d hd=>?_
    have:=k.ben b r hr d hd
    unfold Qao
    omega
   | _=>rfl
  ·cases r with
   | store s m f =>
    refine (dy _ _ _).mpr fun d hd=>?_
    have:=k.sto s m f hr d (by omega)
    rw [sr]
    omega
   | _=>rfl
  ·cases r with
   | after x y g =>
    have:=k.aft x y g hr
    unfold endP at this
    exact if_neg (by omega)
   | _=>rfl
theorem Qpn {n:Int} {B:List BR} {pl:List Ch} (h:PlanFor n B pl) (wb:WB n B) (f:Ch->Int):dot ((chs n B).map f) ((chs n B).map (ptC pl))=(pl.map f).sum:=by
 unfold dot
 rw [Qlt,Qpj h wb]
theorem Qpo {n:Int} {B:List BR} {pl:List Ch} (h:PlanFor n B pl) (wb:WB n B) {x y:Str} {g d:Int} (ne:x ≠ y) (hx:x ∈ wks B) (hy:y ∈ wks B):(pl.map fun c=>afN c.1 c.2.2 (lenB B c.1 c.2.1) x y g d).sum=(if endP B pl x + g<=d then 1 else 0) + (if (look pl y).2<=d then -1 else 0):=by
 have nd:=h.nd wb
 have e1:=Vn (x:=if endP B pl x + g<=d then (1:Int) else 0) nd (w:=x) (by rw [h.keys];exact hx)
 have e2:=Vn (x:=if (look pl y).2<=d then (-1:Int) else 0) nd (w:=y) (by rw [h.keys];exact hy)
 rw [← e1,← e2,← sum_add]
 refine congrArg List.sum (wK fun p hp=>?_)
 have ek:look pl p.1=p.2:=Vh (v:=p.2.1) (b:=p.2.2) nd hp
 unfold afN endP
 by_cases c1:p.1=x
 ·rw [if_pos c1,if_pos c1,if_neg (fun z=>ne (c1.symm.trans z)),jQe,← c1,ek]
 ·rw [if_neg c1,if_neg c1,jYd]
  by_cases c2:p.1=y
  ·rw [if_pos c2,← c2,ek]
   by_cases c3:p.2.2<=d
   ·rw [if_pos ⟨rfl,c3⟩,if_pos c3]
   ·rw [if_neg (fun z=>c3 z.2),if_neg c3]
  ·rw [if_neg (fun z=>c2 z.1),if_neg c2]
theorem Qoo {n:Int} {B:List BR} {pl:List Ch} (h:PlanFor n B pl) (bk:BookOk n B):((labs n B).map (·.2)).all (Qbr ((chs n B).map (ptC pl)))=true ↔ KpP n B pl:=by
 have wb:=bk.wb
 have n1:=bk.n1
 rw [List.all_map,jXa]
 have kb:∀ (lab:List Key) (f:Ch->Int) (z:Int),((Qbr ((chs n B).map (ptC pl))) ∘ (·.2)) ((lab,(chs n B).map f,z):Lb)=true ↔ z<=(pl.map f).sum:=fun lab f z=>by
  show decide (z<=dot ((chs n B).map f) _)=true ↔ _
  rw [decide_eq_true_iff,Qpn h wb]
 constructor
 ·intro k
  refine ⟨fun b r hb d hd=>?_,fun s m f hs d hd=>?_,fun x y g ha=>?_⟩
  ·have:=k (Qra B (chs n B) (b,r) (d:Int)) (wY _ (wY _ (xZ _ (zW.mpr ⟨(b,r),yJ.mpr ⟨_,hb,rfl⟩,xQ.mpr ⟨d,jYb.mpr hd,rfl⟩⟩))))
   have:=(kb _ _ _).mp this
   rw [sum_neg] at this
   show _<=Kw B b r (d:Int)
   have e:(pl.map (fun c=>useR B b (d:Int) c)).sum=(pl.map (useR B b (d:Int))).sum:=rfl
   have t2:-Kw B b r (d:Int)<=-(pl.map (useR B b (d:Int))).sum:=this
   omega
  ·have m1:∀ l ∈ Qfo B (chs n B) (s,m,f) (d:Int),l ∈ labs n B:=fun l hl=>wY _ (xZ _ (zW.mpr ⟨(s,m,f),yJ.mpr ⟨_,hs,rfl⟩,zW.mpr ⟨d,jYb.mpr hd,hl⟩⟩))
   have t1:-f<=(pl.map (Yz B s (d:Int))).sum:=(kb _ _ _).mp (k _ (m1 _ (kZ ..)))
   have t2:f - m<=(pl.map fun c=>-(Yz B s (d:Int) c)).sum:=(kb _ _ _).mp (k _ (m1 _ (yZ _ (jZ.mpr rfl))))
   rw [sum_neg] at t2
   have e:(pl.map (fun c=>Yz B s (d:Int) c)).sum=(pl.map (Yz B s (d:Int))).sum:=rfl
   omega
  ·have hx:x ∈ wks B:=Qaq wb ha (kZ ..)
   have hy:y ∈ wks B:=Qaq wb ha (yZ _ (jZ.mpr rfl))
   obtain ⟨l,c,_,hw,b0,b1⟩:=h.get wb (Vt h hy)
   have ok1:1<=l/\_:=wb.ok _ hw
   have ne:x ≠ y:=(show x ≠ y/\_ from wb.ok _ ha).1
   have:=k (Qrb B (chs n B) (x,y,g) (((look pl y).2.toNat:Nat):Int)) (xZ _ (zW.mpr ⟨(x,y,g),yJ.mpr ⟨_,ha,rfl⟩,xQ.mpr ⟨_,jYb.mpr (by omega),rfl⟩⟩))
   have t:0<=(pl.map fun c=>afN c.1 c.2.2 (lenB B c.1 c.2.1) x y g (((look pl y).2.toNat:Nat):Int)).sum:=(kb _ _ _).mp this
   rw [Qpo h wb ne hx hy,Int.toNat_of_nonneg b0,if_pos (kXe _)] at t
   by_cases c:endP B pl x + g<=(look pl y).2
   ·exact c
   ·rw [if_neg c] at t;omega
 ·intro k l hl
  unfold labs at hl
  rcases zQ.mp hl with hl | hl
  ·rcases zQ.mp hl with hl | hl
   ·rcases zQ.mp hl with hl | hl
    ·obtain ⟨w,hw,hl⟩:=zW.mp hl
     have e:=Vn (x:=1) (h.nd wb) (w:=w) (by rw [h.keys];exact hw)
     unfold labW at hl
     rcases yX.mp hl with z | hl
     ·rw [z];exact (kb _ _ _).mpr (by rw [e];exact kXe _)
     ·rw [jZ.mp hl];exact (kb _ _ _).mpr (by rw [sum_neg,e];exact kXe _)
    ·obtain ⟨p,hp,hl⟩:=zW.mp hl
     obtain ⟨d,hd,rfl⟩:=xQ.mp hl
     have:=k.ben p.1 p.2 (Qlk hp) d (jYb.mp hd)
     refine (kb _ _ _).mpr ?_
     rw [sum_neg]
     have e:(pl.map (fun c=>useR B p.1 (d:Int) c)).sum=(pl.map (useR B p.1 (d:Int))).sum:=rfl
     omega
   ·obtain ⟨p,hp,hl⟩:=zW.mp hl
    obtain ⟨d,hd,hl⟩:=zW.mp hl
    have:=k.sto p.1 p.2.1 p.2.2 (Qri hp) d (jYb.mp hd)
    unfold Qfo at hl
    rcases yX.mp hl with z | hl
    ·rw [z];exact (kb _ _ _).mpr (by omega)
    ·rw [jZ.mp hl]
     refine (kb _ _ _).mpr ?_
     rw [sum_neg]
     have e:(pl.map (fun c=>Yz B p.1 (d:Int) c)).sum=(pl.map (Yz B p.1 (d:Int))).sum:=rfl
     omega
  ·obtain ⟨p,hp,hl⟩:=zW.mp hl
   obtain ⟨d,hd,rfl⟩:=xQ.mp hl
   have ha:=Qrj hp
   have hx:p.1 ∈ wks B:=Qaq wb ha (kZ ..)
   have hy:p.2.1 ∈ wks B:=Qaq wb ha (yZ _ (jZ.mpr rfl))
   have ne:p.1 ≠ p.2.1:=(show p.1 ≠ p.2.1/\_ from wb.ok _ ha).1
   have:=k.aft _ _ _ ha
   refine (kb _ _ _).mpr ?_
   rw [Qpo h wb ne hx hy]
   by_cases c:(look pl p.2.1).2<=(d:Int)
   ·rw [if_pos c,if_pos (by omega)];decide
   ·rw [if_neg c];split <;> decide
theorem Qir {n:Int} {B:List BR} {pl:List Ch} (h:PlanFor n B pl) (bk:BookOk n B):((labs n B).map (·.2)).all (Qbr ((chs n B).map (ptC pl)))=Qek n B pl:=by
 rw [jZa,Qoo h bk,Qhp h bk.wb]
theorem Qop {n:Int} {B:List BR} {pl:List Ch} (h:PlanFor n B pl) (bk:BookOk n B):(dueF n B pl).isNone=Qek n B pl:=by
 rw [jZa,Option.isNone_iff_eq_none,Qsg h bk,Qhp h bk.wb]
theorem Qbg {w:Str}:∀ (L:List Ch) (ms:List Int),(∀ c ∈ L,c.1=w)->(∀ m ∈ ms,m=0\/m=1)->L.length=ms.length->Qfu L ms=List.replicate ms.sum.toNat w/\0<=ms.sum/\dot (L.map fun c=>if c.1=w then 1 else 0) ms=ms.sum
 | [],[],_,_,_=>⟨rfl,kXe _,rfl⟩
 | c :: L,m :: ms,hc,hm,hl=>by
  obtain ⟨e1,e2,e3⟩:=Qbg L ms (fun x hx=>hc x (yZ _ hx)) (fun x hx=>hm x (yZ _ hx)) (Nat.succ.inj hl)
  have ew:=hc c (kZ ..)
  have e3':dot ((c :: L).map fun c=>if c.1=w then 1 else 0) (m :: ms)=(m :: ms).sum:=by
   unfold dot at e3 ⊢
   rw [yQ,jJe,xX,xX,e3,if_pos ew,Int.one_mul]
  unfold Qfu at e1 ⊢
  rw [List.zip_cons_cons,jXd,xX] at *
  rcases hm m (kZ ..) with z | z
  ·subst z
   rw [if_neg (show ¬ (oneB (c,0)=true) from fun z=>absurd (show (0:Int)=1 from jJ z) (by decide)),jYd]
   rw [jYd] at e3'
   exact ⟨e1,e2,e3'⟩
  ·subst z
   rw [if_pos (by rfl:oneB (c,1)=true),yQ,e1,show ((1:Int) + ms.sum).toNat=ms.sum.toNat + 1 by omega,List.replicate_succ]
   exact ⟨by rw [ew],by omega,e3'⟩
theorem Qsh (a b c d:List Int) (h:a.length=c.length):dot (a ++ b) (c ++ d)=dot a c + dot b d:=by
 unfold dot
 rw [List.zipWith_append h,kYc]
theorem Qcq:∀ (L:List Ch) (ms:List Int) (f:Ch->Int),(∀ c ∈ L,f c=0)->dot (L.map f) ms=0
 | [],_,_,_=>rfl
 | c :: L,[],_,_=>rfl
 | c :: L,m :: ms,f,h=>by
  have:=Qcq L ms f fun x hx=>h x (yZ _ hx)
  unfold dot at this ⊢
  rw [yQ,jJe,xX,this,h c (kZ ..),Int.zero_mul];rfl
theorem Qhq {n:Int} {B:List BR}:∀ (ws:List Str) (ms:List Int),ws.Nodup->(∀ m ∈ ms,m=0\/m=1)->ms.length=(ws.flatMap (chO n B)).length->(∀ w ∈ ws,dot ((ws.flatMap (chO n B)).map fun c=>if c.1=w then 1 else 0) ms=1)->Qfu (ws.flatMap (chO n B)) ms=ws
 | [],ms,_,_,hl,_=>by
  have:ms=[]:=kQc.mp hl
  subst this
  rfl
 | w :: ws,ms,nd,hm,hl,h=>by
  obtain ⟨n1,n2⟩:=jYc.mp nd
  rw [wW] at hl h ⊢
  rw [jY] at hl
  have l1:(chO n B w).length=(ms.take (chO n B w).length).length:=by rw [zK];omega
  have em:ms=ms.take (chO n B w).length ++ ms.drop (chO n B w).length:=(List.take_append_drop _ _).symm
  obtain ⟨e1,e2,e3⟩:=Qbg (w:=w) (chO n B w) (ms.take (chO n B w).length) (fun c hc=>(Jb hc).1) (fun m z=>hm m (jKb z)) l1
  have hd:∀ x,dot ((chO n B w ++ ws.flatMap (chO n B)).map fun c=>if c.1=x then 1 else 0) ms=dot ((chO n B w).map fun c=>if c.1=x then 1 else 0) (ms.take (chO n B w).length) + dot ((ws.flatMap (chO n B)).map fun c=>if c.1=x then 1 else 0) (ms.drop (chO n B w).length):=fun x=>by
   rw [kJ]
   conv=>lhs;rw [em]
   exact Qsh _ _ _ _ (by rw [jX];exact l1)
  have ih:=Qhq (n:=n) (B:=B) ws (ms.drop (chO n B w).length) n2 (fun m z=>hm m (List.mem_of_mem_drop z)) (by rw [kYf];omega) fun x hx=>by
   have:=h x (yZ _ hx)
   rw [hd,Qcq (chO n B w) _ _ fun c hc=>if_neg fun z=>n1 (by rw [← (Jb hc).1,z];exact hx),jYd] at this
   exact this
  have hw:=h w (kZ ..)
  rw [hd,Qcq (ws.flatMap (chO n B)) _ _ fun c hc=>if_neg fun z=>by
   obtain ⟨x,hx,hc⟩:=zW.mp hc
   rw [(Jb hc).1] at z
   rw [z] at hx
   exact n1 hx,jQe,e3] at hw
  rw [hw] at e1
  unfold Qfu at e1 ih ⊢
  conv=>lhs;rw [em]
  rw [List.zip_append l1,wX,kJ,e1,ih]
  rfl
theorem Qmb (f:Ch->Int):∀ (L:List Ch) (ms:List Int),dot (L.map fun c=>-(f c)) ms=-(dot (L.map f) ms)
 | [],_=>rfl
 | c :: L,[]=>rfl
 | c :: L,m :: ms=>by
  have:=Qmb f L ms
  unfold dot at this ⊢
  rw [yQ,yQ,jJe,jJe,xX,xX,this,Int.neg_mul]
  omega
theorem Qis {n:Int} {B:List BR} (wb:WB n B) {ms:List Int} (hm:∀ m ∈ ms,m=0\/m=1) (hl:ms.length=(chs n B).length) (h:((labs n B).map (·.2)).all (Qbr ms)=true):Qfu (chs n B) ms=wks B:=by
 rw [List.all_map,jXa] at h
 refine Qhq (wks B) ms (Qdr wb) hm hl fun w hw=>?_
 have m1:∀ l ∈ labW (chs n B) w,l ∈ labs n B:=fun l z=>wY _ (wY _ (wY _ (zW.mpr ⟨w,hw,z⟩)))
 have t1:1<=dot ((chs n B).map fun c=>if c.1=w then 1 else 0) ms:=jJ (h _ (m1 _ (kZ ..)))
 have t2:-1<=dot ((chs n B).map fun c=>-(if c.1=w then 1 else 0)) ms:=jJ (h _ (m1 _ (yZ _ (jZ.mpr rfl))))
 rw [Qmb] at t2
 show dot ((chs n B).map fun c=>if c.1=w then 1 else 0) ms=1
 omega
end Nb
namespace L2
open PySem PySem.Spec PyProof.Rows PySem.SeqAt
section
variable {X:Cx} {pins:List (Addr × Obj)} {σ:St} {H:Hp} {s:Shared}
theorem Qsi {n:Nat} (hn:2<=n) (hun:X.A.units + n < cLine):OpR X (compareOp .NotEq) (fun x y H Q=>∃ (a b:Addr) (pl:List (Str × Str × Int)),x=.ref a/\y=.ref b/\PlanAt X.K H a pl/\PlanAt X.K H b pl/\Q (.bl false) H):=by
 intro pins s σ H x y v u Q I rx ry h
 obtain ⟨a,b,pl,rfl,rfl,h1,h2,q⟩:=h
 cases rx
 cases ry
 have hu:X.A.units + 1 < cLine:=by omega
 obtain ⟨kvs,e1,p1⟩:=h1
 obtain ⟨kvs',e2,p2⟩:=h2
 obtain ⟨z1,hd1,vs1,rel1,dd1⟩:=Qan I.hok e1
 obtain ⟨z2,hd2,vs2,rel2,dd2⟩:=Qan I.hok e2
 have nd2:(kvs'.map (·.1)).Nodup:=by
  obtain ⟨_,_,_,_,_,_,_,_,n⟩:=id dd2
  rw [Qki rel2];exact n
 have l1:=Paired.length p1
 have l2:=Paired.length p2
 have l3:=rel1.length
 have l4:=rel2.length
 have hits:∀ i,i<=vs1.length->PySem.W.KeqHits X.A.in1 s vs2 (vs1.drop i) true:=by
  intro i hi
  obtain ⟨n,hn⟩:∃ n,vs1.length - i=n:=⟨_,rfl⟩
  induction n generalizing i with
  | zero=>rw [List.drop_of_length_le (by omega)];exact .nil
  | succ n ih =>
   have j1:i < vs1.length:=by omega
   rw [List.drop_eq_getElem_cons j1]
   obtain ⟨q,eq,hq⟩:=Qr rel1 (i:=i) (x:=kvs[i]'(by omega)) (gE _)
   obtain ⟨m1,em1,f1,t1,g1,k1⟩:=Qr p1 (i:=i) (x:=kvs[i]'(by omega)) (gE _)
   obtain ⟨m2,em2,f2,t2,g2,k2⟩:=Qr p2 (i:=i) (x:=kvs'[i]'(by omega)) (gE _)
   have em:m1=m2:=Option.some.inj (em1.symm.trans em2)
   subst em
   have eq':vs1[i]=q:=by rw [gE j1] at eq;exact Option.some.inj eq
   have ev:valV kvs' (Sum.inr m1.1)=some (.ref t2):=Qdn (i:=i) nd2 (by
    rw [gE (by omega)]
    exact congrArg some (Prod.ext f2 g2))
   obtain ⟨y,hy,ry⟩:=RelO.some_of (v:=.ref t2) (o:=valueAt vs2 (Sum.inr m1.1)) (by rw [← ev];exact rel2.val _)
   cases ry
   have er:q.2=.ref t1:=by
    have h5:=hq.2
    rw [g1] at h5
    exact (show q.2=Value.ref t1 from h5)
   rw [eq']
   obtain ⟨qk,qv⟩:=q
   have ek:qk=Sum.inr m1.1:=hq.1.symm.trans f1
   have er':qv=.ref t1:=er
   subst ek er'
   exact PySem.W.KeqHits.hit (e:=true) (b:=true) hy (Qkh (ks:=[Sum.inr m1.2.1,Sum.inl m1.2.2]) (by show X.A.units + 1 < cLine;exact hu) I k1 k2) (ih (i + 1) (by omega) (by omega))
 have h0:=hits 0 (jXe _)
 rw [List.drop_zero] at h0
 exact PySem.W.keq_ne (knd:=Xl X.prog X.w) hd1 hd2 dd1 dd2 (by omega) (fun _=>h0) (by
  have e5:(vs1.length == vs2.length && true)=true:=by rw [Bool.and_true,beq_iff_eq];omega
  rw [e5]
  exact ⟨.bl false,H,I,rfl,q⟩)
end
end L2
namespace Nb
open PySem L2
abbrev sLaw:Stmt:=top 49
theorem Qoq {n:Int} {B:List BR} {l:Lb} (h:l ∈ labs n B):l.2.1.length=(chs n B).length:=by
 unfold labs at h
 rcases zQ.mp h with h | h
 ·rcases zQ.mp h with h | h
  ·rcases zQ.mp h with h | h
   ·obtain ⟨w,_,h⟩:=zW.mp h
    unfold labW at h
    rcases yX.mp h with e | h
    ·rw [e];exact jX ..
    ·rw [jZ.mp h];exact jX ..
   ·obtain ⟨p,_,h⟩:=zW.mp h
    obtain ⟨d,_,rfl⟩:=xQ.mp h
    exact jX ..
  ·obtain ⟨p,_,h⟩:=zW.mp h
   obtain ⟨d,_,h⟩:=zW.mp h
   unfold Qfo at h
   rcases yX.mp h with e | h
   ·rw [e];exact jX ..
   ·rw [jZ.mp h];exact jX ..
 ·obtain ⟨p,_,h⟩:=zW.mp h
  obtain ⟨d,_,rfl⟩:=xQ.mp h
  exact jX ..
theorem Qor (xs:List Int):∀ x ∈ xs.map V.int,Ka x=true:=fun x hx=>by
 obtain ⟨i,_,rfl⟩:=xQ.mp hx;rfl
theorem Qos (ks:List Key):∀ x ∈ ks.map kV,Ka x=true:=fun x hx=>by
 obtain ⟨k,_,rfl⟩:=xQ.mp hx;exact Qbv k
theorem row_sm {K:Fg} {H:Hp} {m:Nat} {a b:Addr} {r:List Int × Int} (h1:RowAt K H a r) (h2:RowAt K H b r):SmD K H (m + 2) (.ref a) (.ref b):=by
 obtain ⟨p,a1,a2⟩:=h1
 obtain ⟨q,b1,b2⟩:=h2
 exact .pair a1 b1 (.flats a2 b2 (Qor _)) (.flat rfl)
theorem Qsj {K:Fg} {H:Hp} {m:Nat} {g g':Addr} {ys zs:List V} {R:List (List Int × Int)} (h1:H g=some (.lst ys)) (r1:RowsAre K H ys R) (h2:H g'=some (.lst zs)) (r2:RowsAre K H zs R):SmD K H (m + 3) (.ref g) (.ref g'):=by
 refine .lst (Qb h1) (Qb h2) ((Paired.length r1).trans (Paired.length r2).symm) fun i x y ex ey=>?_
 obtain ⟨l,el,t,rfl,z1⟩:=Qr r1 ex
 obtain ⟨l',el',t',rfl,z2⟩:=Qr r2 ey
 rw [el] at el'
 cases el'
 exact row_sm z1 z2
theorem Qsk {K:Fg} {H:Hp} {m:Nat} {g g':Addr} {ys zs:List V} {B:List BR} (h1:H g=some (.lst ys)) (r1:RowsB H ys B) (h2:H g'=some (.lst zs)) (r2:RowsB H zs B):SmD K H (m + 2) (.ref g) (.ref g'):=by
 refine .lst (Qb h1) (Qb h2) (r1.length.trans r2.length.symm) fun i x y ex ey=>?_
 obtain ⟨r,l,er,rfl,z1⟩:=r1.get ex
 obtain ⟨r',l',er',rfl,z2⟩:=r2.get ey
 rw [er] at er'
 cases er'
 exact .flatL (Qb z1) (Qb z2) (Qos _)
theorem Qpp {K:Fg} {H:Hp} {m:Nat} {g g':Addr} {ys zs:List V} {A:List Ch} (h1:H g=some (.lst ys)) (r1:ChsAre K H ys A) (h2:H g'=some (.lst zs)) (r2:ChsAre K H zs A):SmD K H (m + 2) (.ref g) (.ref g'):=by
 refine .lst (Qb h1) (Qb h2) ((Paired.length r1).trans (Paired.length r2).symm) fun i x y ex ey=>?_
 obtain ⟨c,ec,t,rfl,z1⟩:=Qr r1 ex
 obtain ⟨c',ec',t',rfl,z2⟩:=Qr r2 ey
 rw [ec] at ec'
 cases ec'
 exact .flats z1 z2 (fun x hx=>by
  rcases yX.mp hx with e | hx
  ·rw [e];rfl
  rcases yX.mp hx with e | hx
  ·rw [e];rfl
  ·rw [jZ.mp hx];rfl)
theorem Zw {K:Fg} {H H':Hp} {ys:List V} {R:List (List Int × Int)} (s:Same H H') (h:RowsAre K H ys R):RowsAre K H' ys R:=Paired.mapP h fun _ _ ⟨t,e,z⟩=>⟨t,e,z.same s⟩
theorem Qal {K:Fg} {H:Hp} {g:Addr} {as bs ys:List V} {R:List (List Int × Int)} (hg:H g=some (.lst as)) (h:RowsAre K H ys R):RowsAre K (upd H g (.lst bs)) ys R:=Paired.mapP h fun _ _ ⟨t,e,p,z1,z2⟩=>⟨t,e,p,Xc hg z1,Xc hg z2⟩
theorem at_any {xs:List V} {k:Int} (h0:0<=k) (h:k < (xs.length:Int)):∃ v,atI xs k=some v/\v ∈ xs:=by
 have hk:k.toNat < xs.length:=by omega
 have q:atI xs ((k.toNat:Nat):Int)=some xs[k.toNat]:=Vc (gE hk)
 rw [show ((k.toNat:Nat):Int)=k by omega] at q
 exact ⟨_,q,kZa hk⟩
theorem Qmc (pl A:List Ch):∀ m ∈ A.map (ptC pl),m=0\/m=1:=fun m hm=>by
 obtain ⟨c,_,rfl⟩:=xQ.mp hm
 unfold ptC
 split
 ·exact .inr rfl
 ·exact .inl rfl
theorem Qsl {H:Hp} {o:Option (List Key)} {v:V} (h:DueIs H o v):decide (v=.non)=o.isNone:=by
 cases o with
 | none =>
  have e:v=.non:=h
  rw [e];rfl
 | some ks =>
  obtain ⟨T,e,_⟩:=h
  rw [e];rfl
theorem ne_self {x:V} (y:(!decide (x=x))=true):False:=by simp at y
section
variable {P:Program} {w:World} {K:Fg} {mg:Str->Option Value} {base:Heap}
theorem scLaw:FnScope ["_law_script","_law_draws_here","_law_book_here","_law_handed","_law_found","_law_problem","_law_plans_here","_law_some","_law_k","_law_at","_law_plan","_law_point","_law_good","_law_cost_here","_law_rows","_law_mine","_law_bits","_law_number"] ["_law_script"] (Qg sLaw):=⟨rfl,rfl,rfl,by decide +kernel,rfl,by decide +kernel,by decide +kernel⟩
theorem okLaw {f:Addr} {fd:FuncData} (F:Fun K "law" "law" sLaw f fd) (M:Mg mg) (cl_draws:Cal P w K mg base 2 "_law_draws" ["_law_script","_law_many"] (Qdp K)) (cl_book:Cal P w K mg base 3 "_law_book" ["_law_draws_here","_law_at","_law_most","_law_many"] (Qgp K)) (c_broken:Cal P w K mg base 5 "broken" ["book","plan"] (spDue K)) (c_choices:Cal P w K mg base 4 "choices" ["book"] (Qhf K)) (cl_choices:Cal P w K mg base 2 "_law_choices" ["_law_book_here"] (Qro K)) (c_problem_of:Cal P w K mg base 5 "problem_of" ["book"] (spPrb K)) (cl_plans:Cal P w K mg base 3 "_law_plans" ["_law_book_here"] (spPls K)) (c_point_of:Cal P w K mg base 5 "point_of" ["book","plan"] (spPtO K)) (cl_is_kept:Cal P w K mg base 4 "_law_is_kept" ["_law_book_here","_law_plan"] (spIsK K)) (c_keeps:Cal P w K mg base 3 "keeps" ["problem","point"] (Qhn K)) (cl_cost:Cal P w K mg base 3 "_law_cost" ["_law_book_here","_law_plan"] (Qlv K)) (c_cost_of:Cal P w K mg base 2 "cost_of" ["problem","point"] (Qma K)) (c_cost_of_plan:Cal P w K mg base 4 "cost_of_plan" ["book","plan"] (spCoP K)) (c_plan_of:Cal P w K mg base 5 "plan_of" ["book","point"] (spPlO K)) (cl_one_each:Cal P w K mg base 2 "_law_one_each" ["_law_book_here","_law_found","_law_bits"] (spOnE K)):FnOk P w K mg base CX0 6 f fd ["_law_script"] (Qmr K):=by
 refine F.ok scLaw (fun vs H Q E h=>?_) (fun cdv A outer s H vs Q E hr h=>?_)
 ·obtain ⟨a,ns,rfl,_⟩:=h
  rfl
 obtain ⟨a,ns,rfl,hS,h63,q⟩:=h
 have hu6:(A.deeper (PyProof.Rows.envOfC "law" (Qg sLaw) s.heap.objs.size f cdv)).units + 6 < cLine:=zV (wQ (by decide) _) hr.un
 have hz:(2000000:Nat) < sizeLine:=by decide
 refine ⟨_,(Qf (Qp (i:=1) scLaw.nd rfl (Or.inl rfl) (Xj cl_draws (hr.mono (by decide)) (Qa (pv 0) (Qa Qd Qe))))
  (Qf (Qp (i:=2) scLaw.nd rfl (Or.inl rfl) (Xj cl_book (hr.mono (by decide)) (Qa (pv 1) (Qa Qd (Qa Qd (Qa Qd Qe))))))
  (Qf (Vd (i:=3) ["_law_row"] [none] rfl scLaw.nd rfl (Or.inl rfl) (Qt (pv 2)) (fun _ _ _=>(Ql (i:=0) (show (["_law_row"]:List Str).Nodup by decide +kernel) rfl (Or.inl rfl) (Or.inr rfl))) (fun _ _ _=>Yl) (fun _ _ _=>(Xf (Qbp (K:=K) rfl) rfl M.list_ Qbn (Qa (pv 0) Qe))))
  (Qf (Qp (i:=4) scLaw.nd rfl (Or.inl rfl) (Xj c_choices (hr.mono (by decide)) (Qa (pv 3) Qe)))
  (Qf (Yg (PW.pt (We (Wf (Vp (Qy Jr rfl M.isinstance Zb (Qa (pv 4) (Qa (Qjy M.list_ Qbn) Qe))))) (We (Qn (Qag (n:=6) hu6) (pv 4) (Xj cl_choices (hr.mono (by decide)) (Qa (pv 2) Qe)) (Qq _)) (Vq (Qn (Qag (n:=6) hu6) (pv 3) (pv 2) (Qq _)))))) (Qh (Qw Wc)) Qz)
  (Qf (Qp (i:=5) scLaw.nd rfl (Or.inl rfl) (Xj c_problem_of (hr.mono (by decide)) (Qa (pv 3) Qe)))
  (Qf (Qp (i:=6) scLaw.nd rfl (Or.inl rfl) (Xj cl_plans (hr.mono (by decide)) (Qa (pv 2) Qe)))
  (Qf (Qp (i:=7) scLaw.nd rfl (Or.inl rfl) (Xw Qe))
  (Qf (Xe PassesOwn.never rfl (Xk rfl M.range_ (Qa Qd Qe)) (Ql (i:=8) scLaw.nd rfl (Or.inl rfl) (Or.inl rfl)) (Qh (Yg (Qn (Qmv (K:=K) (n:=6) rfl hu6) (pv 6) (Xw Qe) (Qq _)) (Qf (Qp (i:=9) scLaw.nd rfl (Or.inl rfl) (Qj Qs (Qo Qm (pv 1) (Qj Qs Qd (pv 8)) (fun _ _=>rfl)) (Qj Zr Qd (Qo Qm (pv 1) (Qj Qs Qd (pv 8)) (fun _ _=>rfl)))))
  (Qh (Xm (Zp PySem.F.plainAttrs_list PySem.F.slot_list_append PySem.F.type_list_append Xb (pv 7) (Qa (Qo Qm (pv 6) (Qj Xh (pv 9) (Qy Xo rfl M.len Jq (Qa (pv 6) Qe))) (fun _ _=>rfl)) Qe))))) Qz)))
  (Qf (Xe PassesOwn.never rfl (Qt (pv 7)) (Ql (i:=10) scLaw.nd rfl (Or.inl rfl) (Or.inl rfl)) (Qf (Qp (i:=11) scLaw.nd rfl (Or.inl rfl) (Xj c_point_of (hr.mono (by decide)) (Qa (pv 3) (Qa (pv 10) Qe))))
  (Qf (Qp (i:=12) scLaw.nd rfl (Or.inl rfl) (Xj cl_is_kept (hr.mono (by decide)) (Qa (pv 2) (Qa (pv 10) Qe))))
  (Qf (Yg (PW.pt (We (Qn Qme (Xj c_keeps (hr.mono (by decide)) (Qa (pv 5) (Qa (pv 11) Qe))) (pv 12) (Qq _)) (Vq (Qn Qme (Vb op_isN (Xj c_broken (hr.mono (by decide)) (Qa (pv 3) (Qa (pv 10) Qe))) Qot (Qq _)) (pv 12) (Qq _))))) (Qh (Qw Wc)) Qz)
  (Qf (Qp (i:=13) scLaw.nd rfl (Or.inl rfl) (Xj cl_cost (hr.mono (by decide)) (Qa (pv 2) (Qa (pv 10) Qe))))
  (Qf (Yg (PW.pt (We (Qn Qme (Xj c_cost_of (hr.mono (by decide)) (Qa (pv 5) (Qa (pv 11) Qe))) (pv 13) (Qq _)) (Vq (Qn Qme (Xj c_cost_of_plan (hr.mono (by decide)) (Qa (pv 3) (Qa (pv 10) Qe))) (pv 13) (Qq _))))) (Qh (Qw Wc)) Qz)
  (Qh (Yg (Qn (Qsi (n:=6) (by decide) hu6) (Xj c_plan_of (hr.mono (by decide)) (Qa (pv 3) (Qa (pv 11) Qe))) (pv 10) (Qq _)) (Qh (Qw Wc)) Qz))))))))
  (Qf (Qp (i:=14) scLaw.nd rfl (Or.inl rfl) (Xf Jo rfl M.list_ Qbn (Qa (Qo Xn (pv 5) Qd (fun _ _=>rfl)) Qe)))
  (Qf (Xm (Qoz PySem.F.plainAttrs_list PySem.F.slot_list_clear PySem.F.type_list_clear Qgd (Qo Xn (pv 5) Qd (fun _ _=>rfl))))
  (Qf (Qp (i:=5) scLaw.nd rfl (Or.inl rfl) (Xj c_problem_of (hr.mono (by decide)) (Qa (pv 3) Qe)))
  (Qf (Qp (i:=15) scLaw.nd rfl (Or.inl rfl) (Xf Jo rfl M.list_ Qbn (Qa (pv 4) Qe)))
  (Qf (Xm (Qoz PySem.F.plainAttrs_list PySem.F.slot_list_clear PySem.F.type_list_clear Qgd (pv 4)))
  (Qf (Qp (i:=4) scLaw.nd rfl (Or.inl rfl) (Xj c_choices (hr.mono (by decide)) (Qa (pv 3) Qe)))
  (Qf (Yg (PW.pt (We (Qn (Qag (n:=6) hu6) (pv 4) (pv 15) (Qq _)) (We (Qn (Qag (n:=6) hu6) (Qo Xn (pv 5) Qd (fun _ _=>rfl)) (pv 14) (Qq _)) (Vq (Qn (Qag (n:=6) hu6) (pv 3) (pv 2) (Qq _)))))) (Qh (Qw Wc)) Qz)
  (Qf (Qp (i:=16) scLaw.nd rfl (Or.inl rfl) (Xw Qe))
  (Qf (Xe PassesOwn.never rfl (Xk rfl M.range_ (Qa (Qy Xo rfl M.len Jq (Qa (pv 4) Qe)) Qe)) (Ql (i:=8) scLaw.nd rfl (Or.inl rfl) (Or.inl rfl)) (Qf (Qp (i:=17) scLaw.nd rfl (Or.inl rfl) (Qo Qm (pv 1) (Qj Qs Qd (Qj Xh (pv 8) Qd)) (fun _ _=>rfl)))
  (Qh (Xm (Zp PySem.F.plainAttrs_list PySem.F.slot_list_append PySem.F.type_list_append Xb (pv 16) (Qa (Qj Xh (Qj Qgi (pv 17) (Qj Qs Qd (Qj Ya (pv 8) Qd))) Qd) Qe))))))
  (Qf (Yg (PW.pt (Jc (Vp (Xj c_keeps (hr.mono (by decide)) (Qa (pv 5) (Qa (Xf Xu rfl M.tuple_ Yq (Qa (pv 16) Qe)) Qe)))) (Jf (Wf (Vp (Xj cl_one_each (hr.mono (by decide)) (Qa (pv 2) (Qa (pv 4) (Qa (pv 16) Qe))))))))) (Qh (Qw Wc)) Qz)
  (Qh (Qw (Vb (Qqz (n:=6) hu6) (pv 3) (pv 2) (Qq _)))))))))))))))))))))))),?_⟩
 refine ⟨_,rfl,a,ns,100,rfl,hS,by decide,fun l ds H1 hl s1 hDr=>?_⟩
 refine ⟨_,rfl,l,ds,4,3,rfl,hDr,by omega,by decide,by decide,by decide,by decide,by decide,fun gB us n B H3 s3 nB hgB hRB bk=>?_⟩
 have hb:BkAt H3 gB n B:=⟨⟨us,hgB,hRB⟩,bk⟩
 have bl:=bk.wb.len
 have lu:=hRB.length
 have fw:=Qaj bk
 obtain ⟨k1,k2,k3,k4⟩:=Vm bk
 have kl:(labs n B).length<=22000:=by
  unfold labs
  rw [jY,jY,jY]
  omega
 refine ⟨_,rfl,gB,rfl,⟨_,Qb hgB⟩,fun gH hgH=>?_⟩
 let Pv60:Nat->St->List V->Hp->Prop:=fun m τ ys H5=>∃ v:Option V,τ=[v]/\RowsB H5 ys (B.take m)/\ys.length<=m/\H5 gH=some (.lst ys)/\Same H3 H5
 refine Ym (n:=B.length) Pv60 ?_ (fun m τ ys H5 hm h=>?_) (fun m τ ys H5 hm h=>?_) (fun τ ys H5 h=>?_) ?_ ?_
 ·exact ⟨none,rfl,.nil,jK _,upd_same,Qc hgH _⟩
 ·obtain ⟨v,rfl,hY,hl,hE,s5⟩:=h
  exact ⟨hE,by omega⟩
 ·obtain ⟨v,rfl,hY,hl,hE,s5⟩:=h
  exact ⟨us,us[m]'(by omega),s5.seq (Qb hgB),gE (by omega)⟩
 ·obtain ⟨v,rfl,hY,hl,hE,s5⟩:=h
  exact ⟨us,s5.seq (Qb hgB),by omega⟩
 ·rintro m τ ys H5 x H6 hm ⟨v,rfl,hY,hl,hE,s5⟩ ⟨rfl,e1⟩
  obtain ⟨r,lr,er,rfl,hr⟩:=(hRB.same s5).get (e1 _ (s5.seq (Qb hgB)))
  refine ⟨_,rfl,lr,_,rfl,.inl (Qb hr),fun l2 hl2=>?_⟩
  have s6:=Qc hl2 (.lst (r.cells.map kV))
  refine ⟨s6 _ _ hE,_,rfl,?_,by rw [jY];exact wJ hl,upd_same,Xv (s5.trans s6) hgH⟩
  rw [Ze er]
  have hl3:L2.upd H6 l2 (.lst (r.cells.map kV)) l2=some (.lst (r.cells.map kV)):=upd_same
  have ne:l2 ≠ gH:=fun e=>by rw [e,hE] at hl2;cases hl2
  exact RowsB.snoc ((hY.same s6).updL (s6 _ _ hE) hY.noRow) (by rw [Qi ne];exact hl3)
 rintro τ uH H4 ⟨v,rfl,hRH,hlu,hH4,s4⟩
 rw [kW] at hRH
 have hb4:=hb.same s4
 have hD4:=hDr.same (s3.trans s4)
 have hbook:∀ Hx,Same H4 Hx->SmD K Hx 6 (.ref gH) (.ref gB):=fun Hx sx=>by
  obtain ⟨ux,hx1,hx2⟩:=(hb4.same sx).ex
  exact Qsk (sx _ _ hH4) (hRH.same sx) hx1 hx2
 refine ⟨_,rfl,gH,n,uH,B,rfl,hH4,hRH,bk,fun gF H5 cF=>?_⟩
 obtain ⟨yF,hF5,rF5⟩:=cF.ex
 refine ⟨_,rfl,_,_,_,rfl,.list,.inr ⟨⟨_,Qb hF5⟩,rfl⟩,_,rfl,ite2 (fun z=>absurd z (by decide)) (fun _=>?_)⟩
 refine ⟨_,rfl,_,rfl,gB,n,B,rfl,hb4.same cF.sm,fun gG H6 cG=>?_⟩
 obtain ⟨yG,hG6,rG6⟩:=cG.ex
 have s46:=cF.sm.trans cG.sm
 refine ⟨gF,gG,rfl,rfl,Qpp (cG.sm _ _ hF5) (rF5.same cG.sm) hG6 rG6,_,rfl,ite2 (fun z=>nomatch z) (fun _=>?_)⟩
 refine ⟨_,rfl,_,rfl,gH,gB,rfl,rfl,hbook _ s46,_,rfl,ite2 (fun z=>nomatch z) (fun _=>?_)⟩
 refine ⟨_,rfl,gH,n,uH,B,rfl,s46 _ _ hH4,hRH.same s46,bk,fun tT lT cT yT H7 s7 hT nlT hlT hRT hcT=>?_⟩
 have s47:=s46.trans s7
 refine ⟨_,rfl,gB,n,B,rfl,hb4.same s47,fun gP yP H8 s8 hgP hPls=>?_⟩
 have s48:=s47.trans s8
 refine ⟨by show 0<=sizeLine;decide,fun gS hgS=>?_⟩
 have s9:=Qc hgS (.lst [])
 have hgS9:L2.upd H8 gS (.lst []) gS=some (.lst []):=upd_same
 generalize L2.upd H8 gS (.lst [])=H9 at s9 hgS9 ⊢
 let Pv61:Nat->St->Hp->Prop:=fun i σ Hx=>(∃ u8 u9:Option V,σ=[some (.ref a),some (.ref l),some (.ref gB),some (.ref gH),some (.ref gF),some (.ref tT),some (.ref gP),some (.ref gS),u8,u9,none,none,none,none,none,none,none,none])/\Same H8 Hx/\∃ zs,Hx gS=some (.lst zs)/\zs.length<=i/\∀ v ∈ zs,∃ P pl,v=.ref P/\PlanAt K H8 P pl/\PlanFor n B pl
 refine ⟨10,rfl,by decide,by decide,Xs (lo:=0) (n:=10) Pv61 ⟨⟨none,none,rfl⟩,s9,[],hgS9,jK _,fun v hv=>(nomatch hv)⟩ ?_ ?_⟩
 ·rintro i σ Hx hi ⟨⟨u8,u9,rfl⟩,sx,zs,hzs,lz,hin⟩
  have hgPx:=sx _ _ hgP
  refine ⟨_,rfl,by show 0<=sizeLine;decide,fun pn hpn=>?_⟩
  have sn:=Qc hpn (.lst [])
  have hpn':L2.upd Hx pn (.lst []) pn=some (.lst []):=upd_same
  generalize L2.upd Hx pn (.lst [])=Hy at sn hpn' ⊢
  have sy:=sx.trans sn
  refine ⟨gP,pn,yP,rfl,rfl,Qb (sn _ _ hgPx),Qb hpn',_,rfl,ite2 (fun y=>?_) (fun y=>⟨⟨_,_,rfl⟩,sy,zs,sn _ _ hzs,by omega,hin⟩)⟩
  have hDy:=hD4.same (s48.trans sy)
  obtain ⟨z1,ez1,_,_⟩:=hDy.get (60 + (0 + (i:Int))) (by omega) (by omega)
  obtain ⟨z2,ez2,_,_⟩:=hDy.get (70 + (0 + (i:Int))) (by omega) (by omega)
  have lp:0 < yP.length:=by
   cases yP with
   | nil=>exact nomatch y
   | cons a r=>exact Nat.succ_pos _
  refine ⟨_,rfl,_,rfl,_,_,rfl,rfl,l,_,_,_,rfl,rfl,hDy.lst,ez1,_,rfl,_,rfl,_,_,rfl,rfl,l,_,_,_,rfl,rfl,hDy.lst,ez2,_,_,rfl,rfl,.inl ⟨by decide,by decide⟩,_,_,rfl,rfl,?_⟩
  obtain ⟨v,ev,hv⟩:=at_any (xs:=yP) (k:=(z1 + 5040 * z2) % (yP.length:Int)) (zJ _ (by omega)) (zY _ (by omega))
  refine ⟨_,rfl,.inl ⟨rfl,_,Qb (sn _ _ hzs)⟩,_,rfl,_,rfl,_,rfl,_,_,rfl,.inl (Qb (sn _ _ hgPx)),_,_,rfl,rfl,(by show (0:Int) < (yP.length:Int);omega),gP,_,_,_,rfl,rfl,Qb (sn _ _ hgPx),ev,_,_,_,rfl,rfl,sn _ _ hzs,by omega,⟨_,_,rfl⟩,Xv sy hgS,_,upd_same,by rw [jY];exact wJ lz,fun v' hv'=>?_⟩
  rcases zQ.mp hv' with z | z
  ·exact hin v' z
  ·rw [jZ.mp z]
   obtain ⟨j,ej⟩:=jYa.mp hv
   obtain ⟨pl,epl,P,e,hP⟩:=Qr hPls ej
   exact ⟨P,pl,e,hP,Qsb (kX epl)⟩
 rintro σ Hs ⟨⟨u8,u9,rfl⟩,ss,zs,hzs,lz,hin⟩
 have s4s:=s48.trans ss
 have hprob:∀ Hx,Same H7 Hx->Qjz K Hx tT ((labs n B).map (·.2)) ((chs n B).map (prcC B)):=fun Hx sx=>⟨lT,cT,yT,sx.tup hT,Qb (sx _ _ hlT),Zw sx hRT,sx.tup hcT⟩
 have rlen:∀ r ∈ (labs n B).map (·.2),r.1.length<=2000000:=fun r hr=>by
  obtain ⟨lb,hlb,rfl⟩:=xQ.mp hr
  rw [Qoq hlb];exact fw
 have s7s:=s8.trans ss
 let Pv62:Nat->St->Hp->Prop:=fun i σ Hx=>(∃ u8 u9 u10 u11 u12 u13:Option V,σ=[some (.ref a),some (.ref l),some (.ref gB),some (.ref gH),some (.ref gF),some (.ref tT),some (.ref gP),some (.ref gS),u8,u9,u10,u11,u12,u13,none,none,none,none])/\Same Hs Hx
 refine ⟨_,rfl,gS,rfl,⟨_,Qb hzs⟩,Xq (xs:=zs) Pv62 ⟨⟨_,_,none,none,none,none,rfl⟩,Same.refl _⟩ ?_ ?_ ?_⟩
 ·rintro i σ Hx hi ⟨_,sx⟩
  exact Qb (sx _ _ hzs)
 ·rintro i x σ Hx ex ⟨⟨u8,u9,u10,u11,u12,u13,rfl⟩,sx⟩
  obtain ⟨P,pl,rfl,hP8,hpf⟩:=hin x (kX ex)
  have s4x:=s4s.trans sx
  have hPx:=PlanAt.same hP8 (ss.trans sx)
  refine ⟨_,rfl,_,rfl,gH,P,n,uH,B,pl,rfl,s4x _ _ hH4,hRH.same s4x,bk,hPx,hpf,fun tp Ha sa htp=>?_⟩
  have sxa:=sx.trans sa
  refine ⟨_,rfl,_,rfl,gB,P,n,B,pl,rfl,hb4.same (s4x.trans sa),PlanAt.same hPx sa,hpf,fun Hb sb=>?_⟩
  have sxb:=sxa.trans sb
  refine ⟨_,rfl,_,rfl,tT,tp,_,_,_,rfl,hprob _ (s7s.trans sxb),sb.tup htp,by rw [jX];omega,rlen,Qmc _ _,fun Hc sc=>?_⟩
  rw [Qir hpf bk]
  have sxc:=sxb.trans sc
  refine ⟨_,rfl,rfl,_,rfl,ite2 (fun z=>(ne_self z).elim) (fun _=>?_)⟩
  refine ⟨_,rfl,_,rfl,gH,P,n,uH,B,pl,rfl,(s4s.trans sxc) _ _ hH4,hRH.same (s4s.trans sxc),bk,PlanAt.same hPx (sa.trans (sb.trans sc)),hpf,fun v Hd sd hv=>?_⟩
  refine ⟨rfl,?_⟩
  rw [Qsl hv,Qop hpf bk]
  have sxd:=sxc.trans sd
  refine ⟨_,rfl,rfl,_,rfl,ite2 (fun z=>(ne_self z).elim) (fun _=>?_)⟩
  have hPd:=PlanAt.same hPx (sa.trans (sb.trans (sc.trans sd)))
  refine ⟨_,rfl,_,rfl,gB,P,n,B,pl,rfl,hb4.same (s4s.trans sxd),hPd,hpf,fun He se=>?_⟩
  have sxe:=sxd.trans se
  refine ⟨_,rfl,_,rfl,tT,tp,_,_,_,rfl,hprob _ (s7s.trans sxe),(sb.trans (sc.trans (sd.trans se))).tup htp,by rw [jX];exact fw,Qmc _ _,fun Hg sg=>?_⟩
  rw [Qpn hpf bk.wb]
  have sxg:=sxe.trans sg
  refine ⟨_,rfl,rfl,_,rfl,ite2 (fun z=>(ne_self z).elim) (fun _=>?_)⟩
  refine ⟨_,rfl,_,rfl,gH,P,n,uH,B,pl,rfl,(s4s.trans sxg) _ _ hH4,hRH.same (s4s.trans sxg),bk,PlanAt.same hPd (se.trans sg),hpf,fun Hi si=>?_⟩
  have sxi:=sxg.trans si
  refine ⟨_,rfl,rfl,_,rfl,ite2 (fun z=>(ne_self z).elim) (fun _=>?_)⟩
  refine ⟨_,rfl,_,rfl,gH,tp,n,uH,B,pl,rfl,(s4s.trans sxi) _ _ hH4,hRH.same (s4s.trans sxi),bk,hpf,(sb.trans (sc.trans (sd.trans (se.trans (sg.trans si))))).tup htp,fun R Hj sj hR=>?_⟩
  exact ⟨_,rfl,R,P,pl,rfl,rfl,hR,PlanAt.same hPd (se.trans (sg.trans (si.trans sj))),_,rfl,ite2 (fun z=>nomatch z) (fun _=>⟨⟨_,_,_,_,_,_,rfl⟩,sxi.trans sj⟩)⟩
 rintro σ Hx ⟨⟨u8,u9,u10,u11,u12,u13,rfl⟩,sx⟩
 have s7x:=s7s.trans sx
 have s6x:=s7.trans s7x
 have hlx:=s7x _ _ hlT
 refine ⟨_,rfl,tT,_,_,_,rfl,rfl,s7x.tup hT,at0,lT,_,rfl,.inl (Qb hlx),fun gR hgR=>?_⟩
 have sr:=Qc hgR (.lst yT)
 have hgR':L2.upd Hx gR (.lst yT) gR=some (.lst yT):=upd_same
 have nRl:gR ≠ lT:=fun e=>by rw [e,hlx] at hgR;cases hgR
 generalize L2.upd Hx gR (.lst yT)=Hy at sr hgR' ⊢
 have s7y:=s7x.trans sr
 refine ⟨_,rfl,tT,_,_,_,rfl,rfl,s7y.tup hT,at0,.inl ⟨rfl,_,Qb (s7y _ _ hlT)⟩,lT,_,rfl,rfl,s7y _ _ hlT,?_⟩
 have s6z:Same H6 (L2.upd Hy lT (.lst [])):=Xv (s7.trans s7y) nlT
 have hgRz:L2.upd Hy lT (.lst []) gR=some (.lst yT):=by rw [Qi nRl];exact hgR'
 have rRz:=Qal (bs:=[]) (s7y _ _ hlT) (Zw s7y hRT)
 generalize L2.upd Hy lT (.lst [])=Hz at s6z hgRz rRz ⊢
 have s4z:=s46.trans s6z
 refine ⟨_,rfl,gH,n,uH,B,rfl,s4z _ _ hH4,hRH.same s4z,bk,fun tU lU cU yU Ha sa hU nlU hlU hRU hcU=>?_⟩
 have s6a:=s6z.trans sa
 have hFa:=s6a _ _ (cG.sm _ _ hF5)
 have rFa:=(rF5.same cG.sm).same s6a
 refine ⟨_,rfl,gF,_,rfl,.inl (Qb hFa),fun gM hgM=>?_⟩
 have sm:=Qc hgM (.lst yF)
 have hgM':L2.upd Ha gM (.lst yF) gM=some (.lst yF):=upd_same
 have nMF:gM ≠ gF:=fun e=>by rw [e,hFa] at hgM;cases hgM
 generalize L2.upd Ha gM (.lst yF)=Hb at sm hgM' ⊢
 have hFb:=sm _ _ hFa
 refine ⟨_,rfl,.inl ⟨rfl,_,Qb hFb⟩,gF,_,rfl,rfl,hFb,?_⟩
 have s4c:Same H4 (L2.upd Hb gF (.lst [])):=Xv ((s46.trans s6a).trans sm) cF.fr
 have hgMc:L2.upd Hb gF (.lst []) gM=some (.lst yF):=by rw [Qi nMF];exact hgM'
 have rMc:=(rFa.same sm).updL (zs:=[]) hFb
 have nRF:gR ≠ gF:=fun e=>by
  have:=s7x _ _ (s7 _ _ (cG.sm _ _ hF5))
  rw [← e,hgR] at this;cases this
 have nUF:lU ≠ gF:=fun e=>by
  have:=s6z _ _ (cG.sm _ _ hF5)
  rw [← e,nlU] at this;cases this
 have hgRc:L2.upd Hb gF (.lst []) gR=some (.lst yT):=by rw [Qi nRF];exact sm _ _ (sa _ _ hgRz)
 have rRc:=Qal (bs:=[]) hFb (Zw (sa.trans sm) rRz)
 have hlUc:L2.upd Hb gF (.lst []) lU=some (.lst yU):=by rw [Qi nUF];exact sm _ _ hlU
 have rUc:=Qal (bs:=[]) hFb (Zw sm hRU)
 have hUc:=Xc (zs:=[]) hFb (sm.tup hU)
 have hcUc:=Xc (zs:=[]) hFb (sm.tup hcU)
 generalize L2.upd Hb gF (.lst [])=Hc at s4c hgMc rMc hgRc rRc hlUc rUc hUc hcUc ⊢
 refine ⟨_,rfl,gH,n,uH,B,rfl,s4c _ _ hH4,hRH.same s4c,bk,fun gE Hd cE=>?_⟩
 obtain ⟨yE,hEd,rEd⟩:=cE.ex
 have sd:=cE.sm
 refine ⟨_,rfl,_,rfl,gE,gM,rfl,rfl,Qpp hEd rEd (sd _ _ hgMc) (rMc.same sd),_,rfl,ite2 (fun z=>nomatch z) (fun _=>?_)⟩
 refine ⟨_,rfl,tU,_,_,_,rfl,rfl,sd.tup hUc,at0,_,rfl,lU,gR,rfl,rfl,Qsj (sd _ _ hlUc) (Zw sd rUc) (sd _ _ hgRc) (Zw sd rRc),_,rfl,ite2 (fun z=>nomatch z) (fun _=>?_)⟩
 have s4d:=s4c.trans sd
 refine ⟨_,rfl,_,rfl,gH,gB,rfl,rfl,hbook _ s4d,_,rfl,ite2 (fun z=>nomatch z) (fun _=>?_)⟩
 refine ⟨by show 0<=sizeLine;decide,fun gb hgb=>?_⟩
 have se:=Qc hgb (.lst [])
 have hgb':L2.upd Hd gb (.lst []) gb=some (.lst []):=upd_same
 generalize L2.upd Hd gb (.lst [])=He at se hgb' ⊢
 have lE:=Paired.length rEd
 let Pv63:Nat->St->Hp->Prop:=fun i σ Hg=>(∃ u8 u17:Option V,σ=[some (.ref a),some (.ref l),some (.ref gB),some (.ref gH),some (.ref gE),some (.ref tU),some (.ref gP),some (.ref gS),u8,u9,u10,u11,u12,u13,some (.ref gR),some (.ref gM),some (.ref gb),u17])/\Same Hd Hg/\∃ ms:List Int,Hg gb=some (.lst (ms.map V.int))/\ms.length=i/\∀ m ∈ ms,m=0\/m=1
 refine ⟨_,rfl,_,_,rfl,.inl (Qb (se _ _ hEd)),_,rfl,by omega,by omega,Xs (lo:=0) (n:=yE.length) Pv63 ⟨⟨_,none,rfl⟩,se,[],hgb',rfl,fun m hm=>(nomatch hm)⟩ ?_ ?_⟩
 ·rintro i σ Hg hi ⟨⟨u8,u17,rfl⟩,sg,ms,hms,lm,h01⟩
  have hDg:=hD4.same (s4d.trans sg)
  have m0:=zJ (0 + (i:Int)) (show (20:Int) ≠ 0 by decide)
  have m1:=zY (0 + (i:Int)) (show (0:Int) < 20 by decide)
  obtain ⟨z1,ez1,_,_⟩:=hDg.get (80 + (0 + (i:Int)) % 20) (by omega) (by omega)
  refine ⟨_,rfl,_,rfl,_,_,rfl,rfl,(by show (0:Int) < _;decide +kernel),_,_,rfl,rfl,l,_,_,_,rfl,rfl,hDg.lst,ez1,?_⟩
  refine ⟨_,rfl,.inl ⟨rfl,_,Qb hms⟩,_,rfl,_,rfl,_,_,rfl,rfl,⟨by decide,by decide⟩,_,_,rfl,rfl,_,_,rfl,rfl,Qpd (by omega) (by omega),_,_,rfl,rfl,(by show (0:Int) < _;decide +kernel),_,_,_,rfl,rfl,hms,by rw [jX];omega,⟨_,_,rfl⟩,Xv sg hgb,ms ++ [z1.fdiv (2 + (0 + (i:Int)) / 20) % 2],?_,by rw [jY,lm];rfl,fun m hm=>?_⟩
  ·exact upd_same.trans (by rw [kJ];rfl)
  ·rcases zQ.mp hm with z | z
   ·exact h01 m z
   ·rw [jZ.mp z]
    omega
 rintro σ Hg ⟨⟨u8,u17,rfl⟩,sg,ms,hms,lm,h01⟩
 have s4g:=s4d.trans sg
 have scg:=sd.trans sg
 refine ⟨_,rfl,_,rfl,gb,_,rfl,.inl ⟨Qb hms,fun tb htb=>?_⟩⟩
 have sb:=Qc htb (.tup (ms.map V.int))
 have htb':SqT K (L2.upd Hg tb (.tup (ms.map V.int))) tb (ms.map V.int):=Qu upd_same
 generalize L2.upd Hg tb (.tup (ms.map V.int))=Hh at sb htb' ⊢
 have sch:=scg.trans sb
 refine ⟨tU,tb,_,_,_,rfl,⟨lU,cU,yU,sch.tup hUc,Qb (sch _ _ hlUc),Zw sch rUc,sch.tup hcUc⟩,htb',by rw [jX];omega,rlen,h01,fun Hi si=>⟨_,rfl,ite2 (fun y=>?_) (fun y=>ite2 (fun z=>nomatch z) fun _=>?_)⟩⟩
 ·have sgi:=sb.trans si
  have s4i:=s4g.trans sgi
  have lms:ms.length=(chs n B).length:=lm.trans lE
  refine ⟨_,rfl,_,rfl,_,rfl,gB,gE,gb,n,B,ms,rfl,hb4.same s4i,⟨⟨yE,Qb ((sg.trans sgi) _ _ hEd),rEd.same (sg.trans sgi)⟩,fw⟩,Qb (sgi _ _ hms),lms,Qis bk.wb h01 lms y,fun Hj sj=>?_⟩
  refine ⟨_,rfl,ite2 (fun z=>nomatch z) (fun _=>?_)⟩
  exact ⟨_,rfl,_,rfl,gH,gB,rfl,rfl,hbook _ (s4i.trans sj),q _⟩
 ·exact ⟨_,rfl,_,rfl,gH,gB,rfl,rfl,hbook _ (s4g.trans (sb.trans si)),q _⟩
end
def htop (i:Nat):Stmt:=PySem.Challenge.pw_nonebetter_k65_whole_plans_are_points.main.body.getD i (.Pass ⟨0,0,0,0⟩)
abbrev fO (a b:Str) (s:Stmt) (k:Addr) (v:Value) (r:Addr):Obj:=.mk (.type "function") none (.func (.mk a b (L2.Qx s) (.stmts (L2.Qv s)) (L2.Qg s) k [] .none .none .none v none (.ref r) .none 0)) #[]
abbrev cO (a:Str) (i:Tok) (b:Str) (j k:Tok) (l m n o p:Int) (u r:Addr) (v1 v2 v3 v4:Value) (x y:Int) (z:Tok):Obj:=.mk (.type "code") none (.fields #[.str a i,.str b j,.str "/claim/cut.py" k,.int l 0,.int m 0,.int n 0,.int o 0,.int p 0,.ref u,.bool Bool.true,.int 181 0,.ref r,v1,v2,v3,v4,.int x 0,.int y 0,.str "/claim/cut.py" z]) #[]
abbrev tO (v:Array Value):Obj:=.mk (.type "tuple") none (.seq v) #[]
abbrev kO (P:Params) (x:Str) (i:Tok) (v:Value):DictEntry:=.mk (PyData.keyHash P x) (.str x i) v
def hob0 (i:Nat) (P:Params):Obj :=
 bif Nat.beq i 2 then .mk .none none (.dict #[]) #[] else
 bif Nat.beq i 3 then .mk (.type "dict") none (.dict #[kO P "__name__" 165 (.str "law_nonebetter_k65_whole_plans_are_points" 523),kO P "__doc__" 166 .none,kO P "__package__" 167 .none,kO P "__loader__" 168 (.builtin "__main__.__loader__#opaque"),kO P "__spec__" 169 .none,kO P "__annotations__" 170 (.ref 6),kO P "__builtins__" 171 (.ref 4),kO P "__file__" 173 (.str "/claim/cut.py" 172),kO P "__cached__" 174 .none,kO P "is_whole" 195 (.ref 21),kO P "is_pair" 202 (.ref 28),kO P "NAMES" 238 (.ref 29),kO P "said_by" 245 (.ref 36),kO P "Facts" 358 (.ref 110),kO P "choices" 367 (.ref 121),kO P "negated" 373 (.ref 126),kO P "work_rows" 379 (.ref 131),kO P "room_rows" 385 (.ref 136),kO P "store_rows" 391 (.ref 141),kO P "after_number" 401 (.ref 148),kO P "after_rows" 407 (.ref 153),kO P "labelled" 416 (.ref 160),kO P "problem_of" 422 (.ref 165),kO P "point_of" 428 (.ref 170),kO P "plan_of" 434 (.ref 175),kO P "choices_taken" 442 (.ref 180),kO P "cost_of_plan" 448 (.ref 185),kO P "is_as_told" 457 (.ref 192),kO P "wrong_works" 463 (.ref 197),kO P "wrong_rooms" 469 (.ref 202),kO P "wrong_stores" 475 (.ref 207),kO P "wrong_afters" 481 (.ref 212),kO P "broken" 492 (.ref 219),kO P "weighed" 500 (.ref 224),kO P "kept" 508 (.ref 231),kO P "keeps" 514 (.ref 236),kO P "cost_of" 522 (.ref 243),kO P "_law_mix" 534 (.ref 250),kO P "_law_draws" 545 (.ref 257),kO P "_law_name" 556 (.ref 264),kO P "_law_rooms" 574 (.ref 271),kO P "_law_book" 580 (.ref 276),kO P "_law_way" 600 (.ref 283),kO P "_law_ways" 606 (.ref 288),kO P "_law_choices" 619 (.ref 295),kO P "_law_plans" 634 (.ref 302),kO P "_law_end" 640 (.ref 307),kO P "_law_cost" 646 (.ref 312),kO P "_law_moved" 661 (.ref 319),kO P "_law_is_kept" 674 (.ref 326),kO P "_law_one_each" 680 (.ref 331),kO P "law" 686 (.ref 336)] 52) #[] else
 bif Nat.beq i 15 then tO #[] else
 bif Nat.beq i 17 then tO #[.str "thing" 192] else
 tO #[]
def hob1 (i:Nat) (P:Params):Obj :=
 bif Nat.beq i 20 then cO "is_whole" 189 "is_whole" 190 191 2 1 0 0 3 15 16 .none (.ref 17) (.ref 18) (.ref 19) 193 2 194 else
 bif Nat.beq i 21 then fO "is_whole" "is_whole" (htop 1) 3 (.str "nonebetter.kinds" 187) 20 else
 bif Nat.beq i 22 then tO #[] else
 bif Nat.beq i 24 then tO #[.str "thing" 199] else
 tO #[]
def hob2 (i:Nat) (P:Params):Obj :=
 bif Nat.beq i 27 then cO "is_pair" 196 "is_pair" 197 198 4 1 0 0 3 22 23 .none (.ref 24) (.ref 25) (.ref 26) 200 4 201 else
 bif Nat.beq i 28 then fO "is_pair" "is_pair" (htop 2) 3 (.str "nonebetter.kinds" 187) 27 else
 bif Nat.beq i 29 then .mk (.type "dict") none (.dict #[kO P "days" 205 (.int 0 206),kO P "bench" 207 (.int 1 208),kO P "shut" 209 (.int 1 210),kO P "store" 211 (.int 1 212),kO P "work" 213 (.int 1 214),kO P "way" 215 (.int 2 216),kO P "uses" 217 (.int 3 218),kO P "takes" 219 (.int 3 220),kO P "gives" 221 (.int 3 222),kO P "after" 223 (.int 2 224),kO P "late" 225 (.int 1 226)] 11) #[] else
 bif Nat.beq i 30 then tO #[] else
 tO #[.str "row" 242]
def hob3 (i:Nat) (P:Params):Obj :=
 bif Nat.beq i 33 then tO #[] else
 bif Nat.beq i 35 then cO "said_by" 239 "said_by" 240 241 8 1 0 0 3 30 31 .none (.ref 32) (.ref 33) (.ref 34) 243 8 244 else
 bif Nat.beq i 36 then fO "said_by" "said_by" (htop 5) 3 (.str "nonebetter.books" 203) 35 else
 bif Nat.beq i 44 then tO #[] else
 cO "__init__" 260 "Facts.__init__" 261 262 13 2 0 0 3 44 45 .none .none .none (.ref 46) 263 13 264
def hob4 (i:Nat) (P:Params):Obj :=
 bif Nat.beq i 48 then fO "__init__" "Facts.__init__" (inClass (htop 7) 0) 3 (.str "nonebetter.facts" 246) 47 else
 bif Nat.beq i 49 then tO #[] else
 bif Nat.beq i 51 then tO #[.str "self" 269,.str "work" 270,.str "way" 271] else
 bif Nat.beq i 52 then tO #[] else
 cO "is_way" 266 "Facts.is_way" 267 268 22 3 0 0 3 49 50 .none (.ref 51) (.ref 52) (.ref 53) 272 22 273
def hob5 (i:Nat) (P:Params):Obj :=
 bif Nat.beq i 55 then fO "is_way" "Facts.is_way" (inClass (htop 7) 1) 3 (.str "nonebetter.facts" 246) 54 else
 bif Nat.beq i 56 then tO #[] else
 bif Nat.beq i 58 then tO #[.str "self" 278,.str "work" 279,.str "way" 280] else
 bif Nat.beq i 59 then tO #[] else
 cO "last_begin" 275 "Facts.last_begin" 276 277 25 3 0 0 3 56 57 .none (.ref 58) (.ref 59) (.ref 60) 281 25 282
def hob6 (i:Nat) (P:Params):Obj :=
 bif Nat.beq i 62 then fO "last_begin" "Facts.last_begin" (inClass (htop 7) 2) 3 (.str "nonebetter.facts" 246) 61 else
 bif Nat.beq i 63 then tO #[] else
 bif Nat.beq i 66 then cO "all_choices" 284 "Facts.all_choices" 285 286 28 1 0 0 3 63 64 .none .none .none (.ref 65) 287 28 288 else
 bif Nat.beq i 67 then fO "all_choices" "Facts.all_choices" (inClass (htop 7) 3) 3 (.str "nonebetter.facts" 246) 66 else
 tO #[]
def hob7 (i:Nat) (P:Params):Obj :=
 bif Nat.beq i 70 then tO #[.str "self" 293,.str "choice" 294] else
 bif Nat.beq i 71 then tO #[] else
 bif Nat.beq i 73 then cO "end_of" 290 "Facts.end_of" 291 292 35 2 0 0 3 68 69 .none (.ref 70) (.ref 71) (.ref 72) 295 35 296 else
 bif Nat.beq i 74 then fO "end_of" "Facts.end_of" (inClass (htop 7) 4) 3 (.str "nonebetter.facts" 246) 73 else
 tO #[]
def hob8 (i:Nat) (P:Params):Obj :=
 bif Nat.beq i 77 then tO #[.str "self" 301,.str "choice" 302,.str "late" 303] else
 bif Nat.beq i 78 then tO #[] else
 bif Nat.beq i 80 then cO "price_of" 298 "Facts.price_of" 299 300 38 2 0 0 3 75 76 .none (.ref 77) (.ref 78) (.ref 79) 304 38 305 else
 bif Nat.beq i 81 then fO "price_of" "Facts.price_of" (inClass (htop 7) 5) 3 (.str "nonebetter.facts" 246) 80 else
 tO #[]
def hob9 (i:Nat) (P:Params):Obj :=
 bif Nat.beq i 84 then tO #[.str "self" 310,.str "word" 311,.str "choice" 312,.str "name" 313] else
 bif Nat.beq i 85 then tO #[] else
 bif Nat.beq i 87 then cO "many" 307 "Facts.many" 308 309 42 4 0 0 3 82 83 .none (.ref 84) (.ref 85) (.ref 86) 314 42 315 else
 bif Nat.beq i 88 then fO "many" "Facts.many" (inClass (htop 7) 6) 3 (.str "nonebetter.facts" 246) 87 else
 tO #[]
def hob10 (i:Nat) (P:Params):Obj :=
 bif Nat.beq i 91 then tO #[.str "self" 320,.str "choice" 321,.str "bench" 322,.str "day" 323] else
 bif Nat.beq i 92 then tO #[] else
 bif Nat.beq i 94 then cO "used_by" 317 "Facts.used_by" 318 319 45 4 0 0 3 89 90 .none (.ref 91) (.ref 92) (.ref 93) 324 45 325 else
 bif Nat.beq i 95 then fO "used_by" "Facts.used_by" (inClass (htop 7) 7) 3 (.str "nonebetter.facts" 246) 94 else
 tO #[]
def hob11 (i:Nat) (P:Params):Obj :=
 bif Nat.beq i 98 then tO #[.str "self" 330,.str "choice" 331,.str "store" 332,.str "day" 333,.str "gain" 334] else
 bif Nat.beq i 99 then tO #[] else
 bif Nat.beq i 101 then cO "gain_by" 327 "Facts.gain_by" 328 329 50 4 0 0 3 96 97 .none (.ref 98) (.ref 99) (.ref 100) 335 50 336 else
 bif Nat.beq i 102 then fO "gain_by" "Facts.gain_by" (inClass (htop 7) 8) 3 (.str "nonebetter.facts" 246) 101 else
 tO #[]
def hob12 (i:Nat) (P:Params):Obj :=
 bif Nat.beq i 106 then cO "room_of" 338 "Facts.room_of" 339 340 58 3 0 0 3 103 104 .none .none .none (.ref 105) 341 58 342 else
 bif Nat.beq i 107 then fO "room_of" "Facts.room_of" (inClass (htop 7) 9) 3 (.str "nonebetter.facts" 246) 106 else
 bif Nat.beq i 108 then tO #[.str "afters" 344,.str "benches" 345,.str "days" 346,.str "said" 347,.str "shuts" 348,.str "stores" 349,.str "works" 350] else
 bif Nat.beq i 109 then .mk (.type "dict") none (.dict #[kO P "__module__" 255 (.str "nonebetter.facts" 246),kO P "__firstlineno__" 259 (.int 11 258),kO P "__init__" 265 (.ref 48),kO P "is_way" 274 (.ref 55),kO P "last_begin" 283 (.ref 62),kO P "all_choices" 289 (.ref 67),kO P "end_of" 297 (.ref 74),kO P "price_of" 306 (.ref 81),kO P "many" 316 (.ref 88),kO P "used_by" 326 (.ref 95),kO P "gain_by" 337 (.ref 102),kO P "room_of" 343 (.ref 107),kO P "__static_attributes__" 351 (.ref 108),kO P "__dict__" 353 (.ref 111),kO P "__weakref__" 355 (.ref 112),kO P "__doc__" 356 .none] 4) #[] else
 .mk (.type "type") none (.cls (ClassData.mk "Facts" [.type "object"] [.ref 110,.type "object"] 109 "Facts" Bool.true [] [] Bool.false none Bool.false)) #[none,none,Option.some (.str "Facts" 248),Option.some (.str "Facts" 256),Option.some (.builtin "object.__new__"),Option.some (.bool Bool.true)]
def hob13 (i:Nat) (P:Params):Obj :=
 bif Nat.beq i 111 then .mk (.type "getset_descriptor") none (.fields #[.str "__dict__" 352,.ref 110,.builtin "function.__dict__",.builtin "function.__dict__#set"]) #[] else
 bif Nat.beq i 112 then .mk (.type "getset_descriptor") none (.fields #[.str "__weakref__" 354,.ref 110,.builtin "ExceptionGroup.__weakref__",.none]) #[] else
 bif Nat.beq i 115 then tO #[] else
 bif Nat.beq i 117 then tO #[.str "book" 364] else
 tO #[]
def hob14 (i:Nat) (P:Params):Obj :=
 bif Nat.beq i 120 then cO "choices" 361 "choices" 362 363 63 1 0 0 3 115 116 .none (.ref 117) (.ref 118) (.ref 119) 365 63 366 else
 bif Nat.beq i 121 then fO "choices" "choices" (htop 9) 3 (.str "nonebetter.booked" 359) 120 else
 bif Nat.beq i 122 then tO #[] else
 bif Nat.beq i 125 then cO "negated" 368 "negated" 369 370 65 1 0 0 3 122 123 .none .none .none (.ref 124) 371 65 372 else
 fO "negated" "negated" (htop 10) 3 (.str "nonebetter.booked" 359) 125
def hob15 (i:Nat) (P:Params):Obj :=
 bif Nat.beq i 127 then tO #[] else
 bif Nat.beq i 130 then cO "work_rows" 374 "work_rows" 375 376 67 2 0 0 3 127 128 .none .none .none (.ref 129) 377 67 378 else
 bif Nat.beq i 131 then fO "work_rows" "work_rows" (htop 11) 3 (.str "nonebetter.booked" 359) 130 else
 bif Nat.beq i 132 then tO #[] else
 cO "room_rows" 380 "room_rows" 381 382 74 2 0 0 3 132 133 .none .none .none (.ref 134) 383 74 384
def hob16 (i:Nat) (P:Params):Obj :=
 bif Nat.beq i 136 then fO "room_rows" "room_rows" (htop 12) 3 (.str "nonebetter.booked" 359) 135 else
 bif Nat.beq i 137 then tO #[] else
 bif Nat.beq i 140 then cO "store_rows" 386 "store_rows" 387 388 81 2 0 0 3 137 138 .none .none .none (.ref 139) 389 81 390 else
 bif Nat.beq i 141 then fO "store_rows" "store_rows" (htop 13) 3 (.str "nonebetter.booked" 359) 140 else
 tO #[]
def hob17 (i:Nat) (P:Params):Obj :=
 bif Nat.beq i 144 then tO #[.str "facts" 395,.str "choice" 396,.str "after" 397,.str "day" 398] else
 bif Nat.beq i 145 then tO #[] else
 bif Nat.beq i 147 then cO "after_number" 392 "after_number" 393 394 89 4 0 0 3 142 143 .none (.ref 144) (.ref 145) (.ref 146) 399 89 400 else
 bif Nat.beq i 148 then fO "after_number" "after_number" (htop 14) 3 (.str "nonebetter.booked" 359) 147 else
 tO #[]
def hob18 (i:Nat) (P:Params):Obj :=
 bif Nat.beq i 152 then cO "after_rows" 402 "after_rows" 403 404 93 2 0 0 3 149 150 .none .none .none (.ref 151) 405 93 406 else
 bif Nat.beq i 153 then fO "after_rows" "after_rows" (htop 15) 3 (.str "nonebetter.booked" 359) 152 else
 bif Nat.beq i 154 then tO #[] else
 bif Nat.beq i 156 then tO #[.str "book" 411,.str "facts" 412,.str "asked" 413] else
 tO #[]
def hob19 (i:Nat) (P:Params):Obj :=
 bif Nat.beq i 159 then cO "labelled" 408 "labelled" 409 410 100 1 0 0 3 154 155 .none (.ref 156) (.ref 157) (.ref 158) 414 100 415 else
 bif Nat.beq i 160 then fO "labelled" "labelled" (htop 16) 3 (.str "nonebetter.booked" 359) 159 else
 bif Nat.beq i 161 then tO #[] else
 bif Nat.beq i 164 then cO "problem_of" 417 "problem_of" 418 419 104 1 0 0 3 161 162 .none .none .none (.ref 163) 420 104 421 else
 fO "problem_of" "problem_of" (htop 17) 3 (.str "nonebetter.booked" 359) 164
def hob20 (i:Nat) (P:Params):Obj :=
 bif Nat.beq i 166 then tO #[] else
 bif Nat.beq i 169 then cO "point_of" 423 "point_of" 424 425 108 2 0 0 3 166 167 .none .none .none (.ref 168) 426 108 427 else
 bif Nat.beq i 170 then fO "point_of" "point_of" (htop 18) 3 (.str "nonebetter.booked" 359) 169 else
 bif Nat.beq i 171 then tO #[] else
 cO "plan_of" 429 "plan_of" 430 431 110 2 0 0 3 171 172 .none .none .none (.ref 173) 432 110 433
def hob21 (i:Nat) (P:Params):Obj :=
 bif Nat.beq i 175 then fO "plan_of" "plan_of" (htop 19) 3 (.str "nonebetter.booked" 359) 174 else
 bif Nat.beq i 176 then tO #[] else
 bif Nat.beq i 179 then cO "choices_taken" 437 "choices_taken" 438 439 113 2 0 0 3 176 177 .none .none .none (.ref 178) 440 113 441 else
 bif Nat.beq i 180 then fO "choices_taken" "choices_taken" (htop 21) 3 (.str "nonebetter.plans" 435) 179 else
 tO #[]
def hob22 (i:Nat) (P:Params):Obj :=
 bif Nat.beq i 184 then cO "cost_of_plan" 443 "cost_of_plan" 444 445 115 2 0 0 3 181 182 .none .none .none (.ref 183) 446 115 447 else
 bif Nat.beq i 185 then fO "cost_of_plan" "cost_of_plan" (htop 22) 3 (.str "nonebetter.plans" 435) 184 else
 bif Nat.beq i 186 then tO #[] else
 bif Nat.beq i 188 then tO #[.str "facts" 452,.str "work" 453,.str "thing" 454] else
 tO #[]
def hob23 (i:Nat) (P:Params):Obj :=
 bif Nat.beq i 191 then cO "is_as_told" 449 "is_as_told" 450 451 118 3 0 0 3 186 187 .none (.ref 188) (.ref 189) (.ref 190) 455 118 456 else
 bif Nat.beq i 192 then fO "is_as_told" "is_as_told" (htop 23) 3 (.str "nonebetter.plans" 435) 191 else
 bif Nat.beq i 193 then tO #[] else
 bif Nat.beq i 196 then cO "wrong_works" 458 "wrong_works" 459 460 122 2 0 0 3 193 194 .none .none .none (.ref 195) 461 122 462 else
 fO "wrong_works" "wrong_works" (htop 24) 3 (.str "nonebetter.plans" 435) 196
def hob24 (i:Nat) (P:Params):Obj :=
 bif Nat.beq i 198 then tO #[] else
 bif Nat.beq i 201 then cO "wrong_rooms" 464 "wrong_rooms" 465 466 125 2 0 0 3 198 199 .none .none .none (.ref 200) 467 125 468 else
 bif Nat.beq i 202 then fO "wrong_rooms" "wrong_rooms" (htop 25) 3 (.str "nonebetter.plans" 435) 201 else
 bif Nat.beq i 203 then tO #[] else
 cO "wrong_stores" 470 "wrong_stores" 471 472 132 2 0 0 3 203 204 .none .none .none (.ref 205) 473 132 474
def hob25 (i:Nat) (P:Params):Obj :=
 bif Nat.beq i 207 then fO "wrong_stores" "wrong_stores" (htop 26) 3 (.str "nonebetter.plans" 435) 206 else
 bif Nat.beq i 208 then tO #[] else
 bif Nat.beq i 211 then cO "wrong_afters" 476 "wrong_afters" 477 478 139 2 0 0 3 208 209 .none .none .none (.ref 210) 479 139 480 else
 bif Nat.beq i 212 then fO "wrong_afters" "wrong_afters" (htop 27) 3 (.str "nonebetter.plans" 435) 211 else
 tO #[]
def hob26 (i:Nat) (P:Params):Obj :=
 bif Nat.beq i 215 then tO #[.str "book" 485,.str "plan" 486,.str "facts" 487,.str "wrong" 488,.str "taken" 489] else
 bif Nat.beq i 216 then tO #[] else
 bif Nat.beq i 218 then cO "broken" 482 "broken" 483 484 143 2 0 0 3 213 214 .none (.ref 215) (.ref 216) (.ref 217) 490 143 491 else
 bif Nat.beq i 219 then fO "broken" "broken" (htop 28) 3 (.str "nonebetter.plans" 435) 218 else
 tO #[]
def hob27 (i:Nat) (P:Params):Obj :=
 bif Nat.beq i 223 then cO "weighed" 495 "weighed" 496 497 151 2 0 0 3 220 221 .none .none .none (.ref 222) 498 151 499 else
 bif Nat.beq i 224 then fO "weighed" "weighed" (htop 30) 3 (.str "nonebetter.rows" 493) 223 else
 bif Nat.beq i 225 then tO #[] else
 bif Nat.beq i 227 then tO #[.str "row" 504,.str "point" 505] else
 tO #[]
def hob28 (i:Nat) (P:Params):Obj :=
 bif Nat.beq i 230 then cO "kept" 501 "kept" 502 503 153 2 0 0 3 225 226 .none (.ref 227) (.ref 228) (.ref 229) 506 153 507 else
 bif Nat.beq i 231 then fO "kept" "kept" (htop 31) 3 (.str "nonebetter.rows" 493) 230 else
 bif Nat.beq i 232 then tO #[] else
 bif Nat.beq i 235 then cO "keeps" 509 "keeps" 510 511 155 2 0 0 3 232 233 .none .none .none (.ref 234) 512 155 513 else
 fO "keeps" "keeps" (htop 32) 3 (.str "nonebetter.rows" 493) 235
def hob29 (i:Nat) (P:Params):Obj :=
 bif Nat.beq i 237 then tO #[] else
 bif Nat.beq i 239 then tO #[.str "problem" 518,.str "point" 519] else
 bif Nat.beq i 240 then tO #[] else
 bif Nat.beq i 242 then cO "cost_of" 515 "cost_of" 516 517 157 2 0 0 3 237 238 .none (.ref 239) (.ref 240) (.ref 241) 520 157 521 else
 fO "cost_of" "cost_of" (htop 33) 3 (.str "nonebetter.rows" 493) 242
def hob30 (i:Nat) (P:Params):Obj :=
 bif Nat.beq i 244 then tO #[] else
 bif Nat.beq i 246 then tO #[.str "_law_script" 528,.str "_law_k" 529,.str "_law_cell" 530,.str "_law_number" 531] else
 bif Nat.beq i 247 then tO #[] else
 bif Nat.beq i 249 then cO "_law_mix" 525 "_law_mix" 526 527 160 2 0 0 3 244 245 .none (.ref 246) (.ref 247) (.ref 248) 532 160 533 else
 fO "_law_mix" "_law_mix" (htop 35) 3 (.str "law_nonebetter_k65_whole_plans_are_points" 523) 249
def hob31 (i:Nat) (P:Params):Obj :=
 bif Nat.beq i 251 then tO #[] else
 bif Nat.beq i 253 then tO #[.str "_law_script" 538,.str "_law_many" 539,.str "_law_found" 540,.str "_law_k" 541,.str "_law_cell" 542] else
 bif Nat.beq i 254 then tO #[] else
 bif Nat.beq i 256 then cO "_law_draws" 535 "_law_draws" 536 537 167 2 0 0 3 251 252 .none (.ref 253) (.ref 254) (.ref 255) 543 167 544 else
 fO "_law_draws" "_law_draws" (htop 36) 3 (.str "law_nonebetter_k65_whole_plans_are_points" 523) 256
def hob32 (i:Nat) (P:Params):Obj :=
 bif Nat.beq i 258 then tO #[] else
 bif Nat.beq i 260 then tO #[.str "_law_k" 549,.str "_law_number" 550,.str "_law_letters" 551,.str "_law_found" 552,.str "_law_j" 553] else
 bif Nat.beq i 261 then tO #[] else
 bif Nat.beq i 263 then cO "_law_name" 546 "_law_name" 547 548 182 2 0 0 3 258 259 .none (.ref 260) (.ref 261) (.ref 262) 554 182 555 else
 fO "_law_name" "_law_name" (htop 37) 3 (.str "law_nonebetter_k65_whole_plans_are_points" 523) 263
def hob33 (i:Nat) (P:Params):Obj :=
 bif Nat.beq i 265 then tO #[] else
 bif Nat.beq i 267 then tO #[.str "_law_draws_here" 560,.str "_law_at" 561,.str "_law_days" 562,.str "_law_quays" 563,.str "_law_stocks" 564,.str "_law_found" 565,.str "_law_k" 566,.str "_law_bench" 567,.str "_law_number" 568,.str "_law_begin" 569,.str "_law_store" 570,.str "_law_full" 571] else
 bif Nat.beq i 268 then tO #[] else
 bif Nat.beq i 270 then cO "_law_rooms" 557 "_law_rooms" 558 559 190 5 0 0 3 265 266 .none (.ref 267) (.ref 268) (.ref 269) 572 190 573 else
 fO "_law_rooms" "_law_rooms" (htop 38) 3 (.str "law_nonebetter_k65_whole_plans_are_points" 523) 270
def hob34 (i:Nat) (P:Params):Obj :=
 bif Nat.beq i 272 then tO #[] else
 bif Nat.beq i 275 then cO "_law_book" 575 "_law_book" 576 577 202 4 0 0 3 272 273 .none .none .none (.ref 274) 578 202 579 else
 bif Nat.beq i 276 then fO "_law_book" "_law_book" (htop 39) 3 (.str "law_nonebetter_k65_whole_plans_are_points" 523) 275 else
 bif Nat.beq i 277 then tO #[] else
 tO #[.str "_law_draws_here" 584,.str "_law_at" 585,.str "_law_work" 586,.str "_law_j" 587,.str "_law_days" 588,.str "_law_quays" 589,.str "_law_stocks" 590,.str "_law_way_here" 591,.str "_law_number" 592,.str "_law_found" 593,.str "_law_k" 594,.str "_law_bench" 595,.str "_law_uses" 596,.str "_law_store" 597]
def hob35 (i:Nat) (P:Params):Obj :=
 bif Nat.beq i 280 then tO #[] else
 bif Nat.beq i 282 then cO "_law_way" 581 "_law_way" 582 583 230 7 0 0 3 277 278 .none (.ref 279) (.ref 280) (.ref 281) 598 230 599 else
 bif Nat.beq i 283 then fO "_law_way" "_law_way" (htop 40) 3 (.str "law_nonebetter_k65_whole_plans_are_points" 523) 282 else
 bif Nat.beq i 284 then tO #[] else
 cO "_law_ways" 601 "_law_ways" 602 603 246 2 0 0 3 284 285 .none .none .none (.ref 286) 604 246 605
def hob36 (i:Nat) (P:Params):Obj :=
 bif Nat.beq i 288 then fO "_law_ways" "_law_ways" (htop 41) 3 (.str "law_nonebetter_k65_whole_plans_are_points" 523) 287 else
 bif Nat.beq i 289 then tO #[] else
 bif Nat.beq i 291 then tO #[.str "_law_book_here" 610,.str "_law_found" 611,.str "_law_row" 612,.str "_law_way_here" 613,.str "_law_length" 614,.str "_law_cost_here" 615,.str "_law_begin" 616] else
 bif Nat.beq i 292 then tO #[] else
 cO "_law_choices" 607 "_law_choices" 608 609 248 1 0 0 3 289 290 .none (.ref 291) (.ref 292) (.ref 293) 617 248 618
def hob37 (i:Nat) (P:Params):Obj :=
 bif Nat.beq i 295 then fO "_law_choices" "_law_choices" (htop 42) 3 (.str "law_nonebetter_k65_whole_plans_are_points" 523) 294 else
 bif Nat.beq i 296 then tO #[] else
 bif Nat.beq i 298 then tO #[.str "_law_book_here" 623,.str "_law_found" 624,.str "_law_row" 625,.str "_law_longer" 626,.str "_law_work" 627,.str "_law_way_here" 628,.str "_law_begin" 629,.str "_law_plan" 630,.str "_law_more" 631] else
 bif Nat.beq i 299 then tO #[] else
 cO "_law_plans" 620 "_law_plans" 621 622 256 1 0 0 3 296 297 .none (.ref 298) (.ref 299) (.ref 300) 632 256 633
def hob38 (i:Nat) (P:Params):Obj :=
 bif Nat.beq i 302 then fO "_law_plans" "_law_plans" (htop 43) 3 (.str "law_nonebetter_k65_whole_plans_are_points" 523) 301 else
 bif Nat.beq i 303 then tO #[] else
 bif Nat.beq i 306 then cO "_law_end" 635 "_law_end" 636 637 269 3 0 0 3 303 304 .none .none .none (.ref 305) 638 269 639 else
 bif Nat.beq i 307 then fO "_law_end" "_law_end" (htop 44) 3 (.str "law_nonebetter_k65_whole_plans_are_points" 523) 306 else
 tO #[]
def hob39 (i:Nat) (P:Params):Obj :=
 bif Nat.beq i 311 then cO "_law_cost" 641 "_law_cost" 642 643 272 2 0 0 3 308 309 .none .none .none (.ref 310) 644 272 645 else
 bif Nat.beq i 312 then fO "_law_cost" "_law_cost" (htop 45) 3 (.str "law_nonebetter_k65_whole_plans_are_points" 523) 311 else
 bif Nat.beq i 313 then tO #[] else
 bif Nat.beq i 315 then tO #[.str "_law_book_here" 650,.str "_law_plan" 651,.str "_law_word" 652,.str "_law_thing" 653,.str "_law_day" 654,.str "_law_total" 655,.str "_law_row" 656,.str "_law_begin" 657,.str "_law_end_here" 658] else
 tO #[]
def hob40 (i:Nat) (P:Params):Obj :=
 bif Nat.beq i 318 then cO "_law_moved" 647 "_law_moved" 648 649 280 5 0 0 3 313 314 .none (.ref 315) (.ref 316) (.ref 317) 659 280 660 else
 bif Nat.beq i 319 then fO "_law_moved" "_law_moved" (htop 46) 3 (.str "law_nonebetter_k65_whole_plans_are_points" 523) 318 else
 bif Nat.beq i 320 then tO #[] else
 bif Nat.beq i 322 then tO #[.str "_law_book_here" 665,.str "_law_plan" 666,.str "_law_row" 667,.str "_law_day" 668,.str "_law_room" 669,.str "_law_other" 670,.str "_law_here" 671] else
 tO #[]
def hob41 (i:Nat) (P:Params):Obj :=
 bif Nat.beq i 325 then cO "_law_is_kept" 662 "_law_is_kept" 663 664 291 2 0 0 3 320 321 .none (.ref 322) (.ref 323) (.ref 324) 672 291 673 else
 bif Nat.beq i 326 then fO "_law_is_kept" "_law_is_kept" (htop 47) 3 (.str "law_nonebetter_k65_whole_plans_are_points" 523) 325 else
 bif Nat.beq i 327 then tO #[] else
 bif Nat.beq i 330 then cO "_law_one_each" 675 "_law_one_each" 676 677 310 3 0 0 3 327 328 .none .none .none (.ref 329) 678 310 679 else
 fO "_law_one_each" "_law_one_each" (htop 48) 3 (.str "law_nonebetter_k65_whole_plans_are_points" 523) 330
def hob42 (i:Nat) (P:Params):Obj :=
 bif Nat.beq i 332 then tO #[] else
 bif Nat.beq i 335 then cO "law" 681 "law" 682 683 314 1 0 0 3 332 333 .none .none .none (.ref 334) 684 314 685 else
 fO "law" "law" (htop 49) 3 (.str "law_nonebetter_k65_whole_plans_are_points" 523) 335
def hob (i:Nat) (P:Params):Obj:=(bif Nat.ble i 174 then (bif Nat.ble i 89 then (bif Nat.ble i 54 then (bif Nat.ble i 25 then (bif Nat.ble i 18 then hob0 i P else hob1 i P) else (bif Nat.ble i 32 then hob2 i P else (bif Nat.ble i 47 then hob3 i P else hob4 i P))) else (bif Nat.ble i 68 then (bif Nat.ble i 61 then hob5 i P else hob6 i P) else (bif Nat.ble i 75 then hob7 i P else (bif Nat.ble i 82 then hob8 i P else hob9 i P)))) else (bif Nat.ble i 126 then (bif Nat.ble i 103 then (bif Nat.ble i 96 then hob10 i P else hob11 i P) else (bif Nat.ble i 110 then hob12 i P else (bif Nat.ble i 118 then hob13 i P else hob14 i P))) else (bif Nat.ble i 149 then (bif Nat.ble i 135 then hob15 i P else (bif Nat.ble i 142 then hob16 i P else hob17 i P)) else (bif Nat.ble i 157 then hob18 i P else (bif Nat.ble i 165 then hob19 i P else hob20 i P))))) else (bif Nat.ble i 257 then (bif Nat.ble i 213 then (bif Nat.ble i 189 then (bif Nat.ble i 181 then hob21 i P else hob22 i P) else (bif Nat.ble i 197 then hob23 i P else (bif Nat.ble i 206 then hob24 i P else hob25 i P))) else (bif Nat.ble i 236 then (bif Nat.ble i 220 then hob26 i P else (bif Nat.ble i 228 then hob27 i P else hob28 i P)) else (bif Nat.ble i 243 then hob29 i P else (bif Nat.ble i 250 then hob30 i P else hob31 i P)))) else (bif Nat.ble i 294 then (bif Nat.ble i 271 then (bif Nat.ble i 264 then hob32 i P else hob33 i P) else (bif Nat.ble i 279 then hob34 i P else (bif Nat.ble i 287 then hob35 i P else hob36 i P))) else (bif Nat.ble i 316 then (bif Nat.ble i 301 then hob37 i P else (bif Nat.ble i 308 then hob38 i P else hob39 i P)) else (bif Nat.ble i 323 then hob40 i P else (bif Nat.ble i 331 then hob41 i P else hob42 i P))))))
def heapK:Params->W.Frag:=fun P=>(nat_lit 2,hob (nat_lit 2) P) :: (nat_lit 3,hob (nat_lit 3) P) :: (nat_lit 15,hob (nat_lit 15) P) :: (nat_lit 17,hob (nat_lit 17) P) :: (nat_lit 18,hob (nat_lit 18) P) :: (nat_lit 20,hob (nat_lit 20) P) :: (nat_lit 21,hob (nat_lit 21) P) :: (nat_lit 22,hob (nat_lit 22) P) :: (nat_lit 24,hob (nat_lit 24) P) :: (nat_lit 25,hob (nat_lit 25) P) :: (nat_lit 27,hob (nat_lit 27) P) :: (nat_lit 28,hob (nat_lit 28) P) :: (nat_lit 29,hob (nat_lit 29) P) :: (nat_lit 30,hob (nat_lit 30) P) :: (nat_lit 32,hob (nat_lit 32) P) :: (nat_lit 33,hob (nat_lit 33) P) :: (nat_lit 35,hob (nat_lit 35) P) :: (nat_lit 36,hob (nat_lit 36) P) :: (nat_lit 44,hob (nat_lit 44) P) :: (nat_lit 47,hob (nat_lit 47) P) :: (nat_lit 48,hob (nat_lit 48) P) :: (nat_lit 49,hob (nat_lit 49) P) :: (nat_lit 51,hob (nat_lit 51) P) :: (nat_lit 52,hob (nat_lit 52) P) :: (nat_lit 54,hob (nat_lit 54) P) :: (nat_lit 55,hob (nat_lit 55) P) :: (nat_lit 56,hob (nat_lit 56) P) :: (nat_lit 58,hob (nat_lit 58) P) :: (nat_lit 59,hob (nat_lit 59) P) :: (nat_lit 61,hob (nat_lit 61) P) :: (nat_lit 62,hob (nat_lit 62) P) :: (nat_lit 63,hob (nat_lit 63) P) :: (nat_lit 66,hob (nat_lit 66) P) :: (nat_lit 67,hob (nat_lit 67) P) :: (nat_lit 68,hob (nat_lit 68) P) :: (nat_lit 70,hob (nat_lit 70) P) :: (nat_lit 71,hob (nat_lit 71) P) :: (nat_lit 73,hob (nat_lit 73) P) :: (nat_lit 74,hob (nat_lit 74) P) :: (nat_lit 75,hob (nat_lit 75) P) :: (nat_lit 77,hob (nat_lit 77) P) :: (nat_lit 78,hob (nat_lit 78) P) :: (nat_lit 80,hob (nat_lit 80) P) :: (nat_lit 81,hob (nat_lit 81) P) :: (nat_lit 82,hob (nat_lit 82) P) :: (nat_lit 84,hob (nat_lit 84) P) :: (nat_lit 85,hob (nat_lit 85) P) :: (nat_lit 87,hob (nat_lit 87) P) :: (nat_lit 88,hob (nat_lit 88) P) :: (nat_lit 89,hob (nat_lit 89) P) :: (nat_lit 91,hob (nat_lit 91) P) :: (nat_lit 92,hob (nat_lit 92) P) :: (nat_lit 94,hob (nat_lit 94) P) :: (nat_lit 95,hob (nat_lit 95) P) :: (nat_lit 96,hob (nat_lit 96) P) :: (nat_lit 98,hob (nat_lit 98) P) :: (nat_lit 99,hob (nat_lit 99) P) :: (nat_lit 101,hob (nat_lit 101) P) :: (nat_lit 102,hob (nat_lit 102) P) :: (nat_lit 103,hob (nat_lit 103) P) :: (nat_lit 106,hob (nat_lit 106) P) :: (nat_lit 107,hob (nat_lit 107) P) :: (nat_lit 108,hob (nat_lit 108) P) :: (nat_lit 109,hob (nat_lit 109) P) :: (nat_lit 110,hob (nat_lit 110) P) :: (nat_lit 111,hob (nat_lit 111) P) :: (nat_lit 112,hob (nat_lit 112) P) :: (nat_lit 115,hob (nat_lit 115) P) :: (nat_lit 117,hob (nat_lit 117) P) :: (nat_lit 118,hob (nat_lit 118) P) :: (nat_lit 120,hob (nat_lit 120) P) :: (nat_lit 121,hob (nat_lit 121) P) :: (nat_lit 122,hob (nat_lit 122) P) :: (nat_lit 125,hob (nat_lit 125) P) :: (nat_lit 126,hob (nat_lit 126) P) :: (nat_lit 127,hob (nat_lit 127) P) :: (nat_lit 130,hob (nat_lit 130) P) :: (nat_lit 131,hob (nat_lit 131) P) :: (nat_lit 132,hob (nat_lit 132) P) :: (nat_lit 135,hob (nat_lit 135) P) :: (nat_lit 136,hob (nat_lit 136) P) :: (nat_lit 137,hob (nat_lit 137) P) :: (nat_lit 140,hob (nat_lit 140) P) :: (nat_lit 141,hob (nat_lit 141) P) :: (nat_lit 142,hob (nat_lit 142) P) :: (nat_lit 144,hob (nat_lit 144) P) :: (nat_lit 145,hob (nat_lit 145) P) :: (nat_lit 147,hob (nat_lit 147) P) :: (nat_lit 148,hob (nat_lit 148) P) :: (nat_lit 149,hob (nat_lit 149) P) :: (nat_lit 152,hob (nat_lit 152) P) :: (nat_lit 153,hob (nat_lit 153) P) :: (nat_lit 154,hob (nat_lit 154) P) :: (nat_lit 156,hob (nat_lit 156) P) :: (nat_lit 157,hob (nat_lit 157) P) :: (nat_lit 159,hob (nat_lit 159) P) :: (nat_lit 160,hob (nat_lit 160) P) :: (nat_lit 161,hob (nat_lit 161) P) :: (nat_lit 164,hob (nat_lit 164) P) :: (nat_lit 165,hob (nat_lit 165) P) :: (nat_lit 166,hob (nat_lit 166) P) :: (nat_lit 169,hob (nat_lit 169) P) :: (nat_lit 170,hob (nat_lit 170) P) :: (nat_lit 171,hob (nat_lit 171) P) :: (nat_lit 174,hob (nat_lit 174) P) :: (nat_lit 175,hob (nat_lit 175) P) :: (nat_lit 176,hob (nat_lit 176) P) :: (nat_lit 179,hob (nat_lit 179) P) :: (nat_lit 180,hob (nat_lit 180) P) :: (nat_lit 181,hob (nat_lit 181) P) :: (nat_lit 184,hob (nat_lit 184) P) :: (nat_lit 185,hob (nat_lit 185) P) :: (nat_lit 186,hob (nat_lit 186) P) :: (nat_lit 188,hob (nat_lit 188) P) :: (nat_lit 189,hob (nat_lit 189) P) :: (nat_lit 191,hob (nat_lit 191) P) :: (nat_lit 192,hob (nat_lit 192) P) :: (nat_lit 193,hob (nat_lit 193) P) :: (nat_lit 196,hob (nat_lit 196) P) :: (nat_lit 197,hob (nat_lit 197) P) :: (nat_lit 198,hob (nat_lit 198) P) :: (nat_lit 201,hob (nat_lit 201) P) :: (nat_lit 202,hob (nat_lit 202) P) :: (nat_lit 203,hob (nat_lit 203) P) :: (nat_lit 206,hob (nat_lit 206) P) :: (nat_lit 207,hob (nat_lit 207) P) :: (nat_lit 208,hob (nat_lit 208) P) :: (nat_lit 211,hob (nat_lit 211) P) :: (nat_lit 212,hob (nat_lit 212) P) :: (nat_lit 213,hob (nat_lit 213) P) :: (nat_lit 215,hob (nat_lit 215) P) :: (nat_lit 216,hob (nat_lit 216) P) :: (nat_lit 218,hob (nat_lit 218) P) :: (nat_lit 219,hob (nat_lit 219) P) :: (nat_lit 220,hob (nat_lit 220) P) :: (nat_lit 223,hob (nat_lit 223) P) :: (nat_lit 224,hob (nat_lit 224) P) :: (nat_lit 225,hob (nat_lit 225) P) :: (nat_lit 227,hob (nat_lit 227) P) :: (nat_lit 228,hob (nat_lit 228) P) :: (nat_lit 230,hob (nat_lit 230) P) :: (nat_lit 231,hob (nat_lit 231) P) :: (nat_lit 232,hob (nat_lit 232) P) :: (nat_lit 235,hob (nat_lit 235) P) :: (nat_lit 236,hob (nat_lit 236) P) :: (nat_lit 237,hob (nat_lit 237) P) :: (nat_lit 239,hob (nat_lit 239) P) :: (nat_lit 240,hob (nat_lit 240) P) :: (nat_lit 242,hob (nat_lit 242) P) :: (nat_lit 243,hob (nat_lit 243) P) :: (nat_lit 244,hob (nat_lit 244) P) :: (nat_lit 246,hob (nat_lit 246) P) :: (nat_lit 247,hob (nat_lit 247) P) :: (nat_lit 249,hob (nat_lit 249) P) :: (nat_lit 250,hob (nat_lit 250) P) :: (nat_lit 251,hob (nat_lit 251) P) :: (nat_lit 253,hob (nat_lit 253) P) :: (nat_lit 254,hob (nat_lit 254) P) :: (nat_lit 256,hob (nat_lit 256) P) :: (nat_lit 257,hob (nat_lit 257) P) :: (nat_lit 258,hob (nat_lit 258) P) :: (nat_lit 260,hob (nat_lit 260) P) :: (nat_lit 261,hob (nat_lit 261) P) :: (nat_lit 263,hob (nat_lit 263) P) :: (nat_lit 264,hob (nat_lit 264) P) :: (nat_lit 265,hob (nat_lit 265) P) :: (nat_lit 267,hob (nat_lit 267) P) :: (nat_lit 268,hob (nat_lit 268) P) :: (nat_lit 270,hob (nat_lit 270) P) :: (nat_lit 271,hob (nat_lit 271) P) :: (nat_lit 272,hob (nat_lit 272) P) :: (nat_lit 275,hob (nat_lit 275) P) :: (nat_lit 276,hob (nat_lit 276) P) :: (nat_lit 277,hob (nat_lit 277) P) :: (nat_lit 279,hob (nat_lit 279) P) :: (nat_lit 280,hob (nat_lit 280) P) :: (nat_lit 282,hob (nat_lit 282) P) :: (nat_lit 283,hob (nat_lit 283) P) :: (nat_lit 284,hob (nat_lit 284) P) :: (nat_lit 287,hob (nat_lit 287) P) :: (nat_lit 288,hob (nat_lit 288) P) :: (nat_lit 289,hob (nat_lit 289) P) :: (nat_lit 291,hob (nat_lit 291) P) :: (nat_lit 292,hob (nat_lit 292) P) :: (nat_lit 294,hob (nat_lit 294) P) :: (nat_lit 295,hob (nat_lit 295) P) :: (nat_lit 296,hob (nat_lit 296) P) :: (nat_lit 298,hob (nat_lit 298) P) :: (nat_lit 299,hob (nat_lit 299) P) :: (nat_lit 301,hob (nat_lit 301) P) :: (nat_lit 302,hob (nat_lit 302) P) :: (nat_lit 303,hob (nat_lit 303) P) :: (nat_lit 306,hob (nat_lit 306) P) :: (nat_lit 307,hob (nat_lit 307) P) :: (nat_lit 308,hob (nat_lit 308) P) :: (nat_lit 311,hob (nat_lit 311) P) :: (nat_lit 312,hob (nat_lit 312) P) :: (nat_lit 313,hob (nat_lit 313) P) :: (nat_lit 315,hob (nat_lit 315) P) :: (nat_lit 316,hob (nat_lit 316) P) :: (nat_lit 318,hob (nat_lit 318) P) :: (nat_lit 319,hob (nat_lit 319) P) :: (nat_lit 320,hob (nat_lit 320) P) :: (nat_lit 322,hob (nat_lit 322) P) :: (nat_lit 323,hob (nat_lit 323) P) :: (nat_lit 325,hob (nat_lit 325) P) :: (nat_lit 326,hob (nat_lit 326) P) :: (nat_lit 327,hob (nat_lit 327) P) :: (nat_lit 330,hob (nat_lit 330) P) :: (nat_lit 331,hob (nat_lit 331) P) :: (nat_lit 332,hob (nat_lit 332) P) :: (nat_lit 335,hob (nat_lit 335) P) :: (nat_lit 336,hob (nat_lit 336) P) :: []
theorem all_ok {P:Program} {w:World} {K:Fg} {mg:Str->Option Value} {base:Heap} (M:Mg mg) {C aN fI fE fY fL fM fU fG fR fA fP:Addr} {fdI fdE fdY fdL fdM fdU fdG fdR fdA fdP:FuncData} {fN:Str->Option Value} (T:FcTxt K mg C) (TN:Tab w K mg "NAMES" aN fN) (hN:Qce fN) (mkI:Mk K C fI) (FI:Fun K "__init__" "Facts.__init__" Vi fI fdI) (bI:Binds K fdI ["self","book"] []) (FE:Fun K "end_of" "Facts.end_of" Qdt fE fdE) (bE:Binds K fdE ["self","choice"] []) (mE:Meth K C "end_of" fE) (FY:Fun K "is_way" "Facts.is_way" Kx fY fdY) (bY:Binds K fdY ["self","work","way"] []) (mY:Meth K C "is_way" fY) (FL:Fun K "last_begin" "Facts.last_begin" Qab fL fdL) (bL:Binds K fdL ["self","work","way"] []) (mL:Meth K C "last_begin" fL) (FM:Fun K "many" "Facts.many" Qac fM fdM) (bM:Binds K fdM ["self","word","choice","name"] []) (mM:Meth K C "many" fM) (FU:Fun K "used_by" "Facts.used_by" Qad fU fdU) (bU:Binds K fdU ["self","choice","bench","day"] []) (mU:Meth K C "used_by" fU) (FG:Fun K "gain_by" "Facts.gain_by" Qae fG fdG) (bG:Binds K fdG ["self","choice","store","day"] []) (mG:Meth K C "gain_by" fG) (FR:Fun K "room_of" "Facts.room_of" Qaf fR fdR) (bR:Binds K fdR ["self","bench","day"] []) (mR:Meth K C "room_of" fR) (FA:Fun K "all_choices" "Facts.all_choices" Qba fA fdA) (bA:Binds K fdA ["self"] []) (mA:Meth K C "all_choices" fA) (FP:Fun K "price_of" "Facts.price_of" Ky fP fdP) (bP:Binds K fdP ["self","choice"] []) (mP:Meth K C "price_of" fP) (F1:Fn K mg "_law_mix" Qgj) (F2:Fn K mg "_law_draws" Vy) (F3:Fn K mg "_law_name" Qby) (F4:Fn K mg "_law_rooms" Vz) (F5:Fn K mg "_law_way" Qgm) (F6:Fn K mg "_law_book" Qcc) (F7:Fn K mg "said_by" Qnh) (F8:Fn K mg "negated" Qgu) (F9:Fn K mg "after_number" sAfN) (F10:Fn K mg "work_rows" sWoR) (F11:Fn K mg "room_rows" sRoR) (F12:Fn K mg "store_rows" sStR) (F13:Fn K mg "after_rows" sAfR) (F14:Fn K mg "labelled" Qnv) (F15:Fn K mg "problem_of" sPrb) (F16:Fn K mg "_law_ways" sWys) (F17:Fn K mg "_law_choices" sChs) (F18:Fn K mg "_law_end" Qlm) (F19:Fn K mg "is_whole" sIW) (F20:Fn K mg "is_pair" sIP) (F21:Fn K mg "choices_taken" Qee) (F22:Fn K mg "is_as_told" Qoa) (F23:Fn K mg "wrong_works" sWW) (F24:Fn K mg "wrong_rooms" sWR) (F25:Fn K mg "wrong_stores" sWS) (F26:Fn K mg "wrong_afters" sWA) (F27:Fn K mg "broken" Qcp) (F28:Fn K mg "choices" Qoe) (F29:Fn K mg "point_of" sPtO) (F30:Fn K mg "plan_of" sPlO) (F31:Fn K mg "cost_of_plan" sCoP) (F32:Fn K mg "weighed" Wb) (F33:Fn K mg "kept" Qol) (F34:Fn K mg "keeps" Qhm) (F35:Fn K mg "cost_of" Qom) (F36:Fn K mg "_law_cost" Qeh) (F37:Fn K mg "_law_moved" sMvd) (F38:Fn K mg "_law_is_kept" sIsK) (F39:Fn K mg "_law_plans" sPls) (F40:Fn K mg "_law_one_each" sOnE) {f:Addr} {fd:FuncData} (F41:Fun K "law" "law" sLaw f fd):FnOk P w K mg base CX0 6 f fd ["_law_script"] (Qmr K):=by
 have h_cl_mix:=Qqi (P:=P) (w:=w) (base:=base) F1 M
 have h_cl_draws:=Qkp (P:=P) (w:=w) (base:=base) F2 M h_cl_mix
 have h_cl_name:=Qnc (P:=P) (w:=w) (base:=base) F3 M
 have h_cl_rooms:=Qkq (P:=P) (w:=w) (base:=base) F4 M
 have h_cl_way:=Qql (P:=P) (w:=w) (base:=base) F5 M h_cl_name
 have h_cl_book:=Qne (P:=P) (w:=w) (base:=base) F6 M h_cl_name h_cl_rooms h_cl_way
 have h_c_said_by:=okSaid (P:=P) (w:=w) (base:=base) F7 M TN hN
 have h_c_negated:=Qqw (P:=P) (w:=w) (base:=base) F8 M
 have h_c_after_number:=okAfN (P:=P) (w:=w) (base:=base) F9 M T (Qdx (P:=P) (w:=w) (base:=base) FE T) bE mE
 have h_c_work_rows:=okWoR (P:=P) (w:=w) (base:=base) F10 M T h_c_negated
 have h_c_room_rows:=okRoR (P:=P) (w:=w) (base:=base) F11 M T (okFcU (P:=P) (w:=w) (base:=base) FU T (Qdx (P:=P) (w:=w) (base:=base) FE T) bE mE (Qnp (P:=P) (w:=w) (base:=base) FM T) bM mM) bU mU (okFcR (P:=P) (w:=w) (base:=base) FR M T) bR mR h_c_negated
 have h_c_store_rows:=okStR (P:=P) (w:=w) (base:=base) F12 M T (okFcG (P:=P) (w:=w) (base:=base) FG T (Qdx (P:=P) (w:=w) (base:=base) FE T) bE mE (Qnp (P:=P) (w:=w) (base:=base) FM T) bM mM) bG mG h_c_negated
 have h_c_after_rows:=okAfR (P:=P) (w:=w) (base:=base) F13 M T h_c_after_number
 have h_c_labelled:=okLabd (P:=P) (w:=w) (base:=base) F14 M T mkI (Qla (P:=P) (w:=w) (base:=base) FI M T h_c_said_by) bI (Qrh (P:=P) (w:=w) (base:=base) FA M T (Qno (P:=P) (w:=w) (base:=base) FL T) bL mL) bA mA h_c_work_rows h_c_room_rows h_c_store_rows h_c_after_rows
 have h_c_problem_of:=okPrb (P:=P) (w:=w) (base:=base) F15 M T mkI (Qla (P:=P) (w:=w) (base:=base) FI M T h_c_said_by) bI (Qrh (P:=P) (w:=w) (base:=base) FA M T (Qno (P:=P) (w:=w) (base:=base) FL T) bL mL) bA mA (okFcP (P:=P) (w:=w) (base:=base) FP M T (Qdx (P:=P) (w:=w) (base:=base) FE T) bE mE) bP mP h_c_labelled
 have h_cl_ways:=okWys (P:=P) (w:=w) (base:=base) F16 M
 have h_cl_choices:=okChs (P:=P) (w:=w) (base:=base) F17 M h_cl_ways
 have h_cl_end:=okLEnd (P:=P) (w:=w) (base:=base) F18 M h_cl_ways
 have h_c_is_whole:=okIW (P:=P) (w:=w) (base:=base) F19 M
 have h_c_is_pair:=okIP (P:=P) (w:=w) (base:=base) F20 M
 have h_c_choices_taken:=Qrr (P:=P) (w:=w) (base:=base) F21 T
 have h_c_is_as_told:=okTold (P:=P) (w:=w) (base:=base) F22 M T (okFcY (P:=P) (w:=w) (base:=base) FY T) bY mY (Qno (P:=P) (w:=w) (base:=base) FL T) bL mL h_c_is_whole h_c_is_pair
 have h_c_wrong_works:=okWW (P:=P) (w:=w) (base:=base) F23 M T h_c_is_as_told
 have h_c_wrong_rooms:=okWR (P:=P) (w:=w) (base:=base) F24 M T (okFcU (P:=P) (w:=w) (base:=base) FU T (Qdx (P:=P) (w:=w) (base:=base) FE T) bE mE (Qnp (P:=P) (w:=w) (base:=base) FM T) bM mM) bU mU (okFcR (P:=P) (w:=w) (base:=base) FR M T) bR mR
 have h_c_wrong_stores:=okWS (P:=P) (w:=w) (base:=base) F25 M T (okFcG (P:=P) (w:=w) (base:=base) FG T (Qdx (P:=P) (w:=w) (base:=base) FE T) bE mE (Qnp (P:=P) (w:=w) (base:=base) FM T) bM mM) bG mG
 have h_c_wrong_afters:=okWA (P:=P) (w:=w) (base:=base) F26 M T (Qdx (P:=P) (w:=w) (base:=base) FE T) bE mE
 have h_c_broken:=Qod (P:=P) (w:=w) (base:=base) F27 M T mkI (Qla (P:=P) (w:=w) (base:=base) FI M T h_c_said_by) bI h_c_wrong_works h_c_choices_taken h_c_wrong_rooms h_c_wrong_stores h_c_wrong_afters
 have h_c_choices:=okChoi (P:=P) (w:=w) (base:=base) F28 M T mkI (Qla (P:=P) (w:=w) (base:=base) FI M T h_c_said_by) bI (Qrh (P:=P) (w:=w) (base:=base) FA M T (Qno (P:=P) (w:=w) (base:=base) FL T) bL mL) bA mA
 have h_c_point_of:=okPtO (P:=P) (w:=w) (base:=base) F29 M h_c_choices
 have h_c_plan_of:=okPlO (P:=P) (w:=w) (base:=base) F30 M h_c_choices
 have h_c_cost_of_plan:=okCoP (P:=P) (w:=w) (base:=base) F31 M T mkI (Qla (P:=P) (w:=w) (base:=base) FI M T h_c_said_by) bI (okFcP (P:=P) (w:=w) (base:=base) FP M T (Qdx (P:=P) (w:=w) (base:=base) FE T) bE mE) bP mP h_c_choices_taken
 have h_c_weighed:=Qly (P:=P) (w:=w) (base:=base) F32 M
 have h_c_kept:=okKept (P:=P) (w:=w) (base:=base) F33 M h_c_weighed
 have h_c_keeps:=Qse (P:=P) (w:=w) (base:=base) F34 M h_c_kept
 have h_c_cost_of:=okCost (P:=P) (w:=w) (base:=base) F35 M h_c_weighed
 have h_cl_cost:=Qry (P:=P) (w:=w) (base:=base) F36 M h_cl_ways h_cl_end
 have h_cl_moved:=okMvd (P:=P) (w:=w) (base:=base) F37 M h_cl_end
 have h_cl_is_kept:=okIsK (P:=P) (w:=w) (base:=base) F38 M h_cl_end h_cl_moved
 have h_cl_plans:=okPls (P:=P) (w:=w) (base:=base) F39 M h_cl_choices
 have h_cl_one_each:=okOnE (P:=P) (w:=w) (base:=base) F40 M
 have h_c_law:=okLaw (P:=P) (w:=w) (base:=base) F41 M h_cl_draws h_cl_book h_c_broken h_c_choices h_cl_choices h_c_problem_of h_cl_plans h_c_point_of h_cl_is_kept h_c_keeps h_cl_cost h_c_cost_of h_c_cost_of_plan h_c_plan_of h_cl_one_each
 exact h_c_law
theorem walk {l:PySem.W.OpenLaw} {q:Program} {loose:List Str} {XP:(Str->Option Value)->Heap->Prop} {YP:World->Heap->Prop} {d:DefRec} {K:Params->Fg} (hn:l.most=some 63) (hdf:d.params.defaults=[])
  (hY:∀ (w:World) (h:Heap),YP w h->(K w.params).In h)
  (F:∀ (w:World) (mg:Str->Option Value) (fa:Addr) (h:Heap),(K w.params).In h->h.Ns mainGlobals mg->mg d.name=some (.ref fa) ->
   ∃ fd:FuncData,(∀ (s:Shared) (u:Value),BindsTo s fd ⟨[u],[]⟩ [("_law_script",u)])/\∀ base:Heap,(K w.params).In base->base.Ns mainGlobals mg->FnOk l.prog w (K w.params) mg base CX0 6 fa fd ["_law_script"] (Qmr (K w.params))) :
  PySem.W.WalkO q loose XP YP l.row.toRowW d [] (fun f vs=>PySem.call f vs) :=
 L2.Qjn (n:=63) (k:=6) (x:="_law_script") (CX:=fun _=>CX0) (sp:=fun w=>Qmr (K w.params)) hn (by decide) hdf ⟨rfl,by decide,by decide⟩ hY F (fun _ _ a ns hl hb hS=>⟨a,ns,rfl,hS,hl,fun _=>rfl⟩) fun _ _ _ _ _ z=>z
end Nb
def Nb.pwv:PySem.Program:={ PySem.Challenge.pw_nonebetter_k65_whole_plans_are_points with main:={ PySem.Challenge.pw_nonebetter_k65_whole_plans_are_points.main with body:=[Nb.htop 0,Nb.htop 1,Nb.htop 2,Nb.htop 3,Nb.htop 4,Nb.htop 5,Nb.htop 6,Nb.htop 7,Nb.htop 8,Nb.htop 9,Nb.htop 10,Nb.htop 11,Nb.htop 12,Nb.htop 13,Nb.htop 14,Nb.htop 15,Nb.htop 16,Nb.htop 17,Nb.htop 18,Nb.htop 19,Nb.htop 20,Nb.htop 21,Nb.htop 22,Nb.htop 23,Nb.htop 24,Nb.htop 25,Nb.htop 26,Nb.htop 27,Nb.htop 28,Nb.htop 29,Nb.htop 30,Nb.htop 31,Nb.htop 32,Nb.htop 33,Nb.htop 34,Nb.htop 35,Nb.htop 36,Nb.htop 37,Nb.htop 38,Nb.htop 39,Nb.htop 40,Nb.htop 41,Nb.htop 42,Nb.htop 43,Nb.htop 44,Nb.htop 45,Nb.htop 46,Nb.htop 47,Nb.htop 48,Nb.htop 49] } }
def PySem.W.Fast.tw1653918685017820470:Nat->PySem.Params->PySem.Obj:=Nb.hob
theorem PySem.W.Fast.te1653918685017820470:Nb.hob=PySem.W.Fast.tw1653918685017820470:=rfl
def PySem.W.Fast.tw17941885584283501905:PySem.Program:=PySem.Challenge.pw_nonebetter_k65_whole_plans_are_points
theorem PySem.W.Fast.te17941885584283501905:PySem.Challenge.pw_nonebetter_k65_whole_plans_are_points=PySem.W.Fast.tw17941885584283501905:=rfl
def PySem.W.Fast.tw9401860820342270615:PySem.Program:=Nb.pwv
theorem PySem.W.Fast.te9401860820342270615:Nb.pwv=PySem.W.Fast.tw9401860820342270615:=rfl
def PySem.W.Fast.tw11570947652754012800:Nat->PySem.Stmt:=Nb.htop
theorem PySem.W.Fast.te11570947652754012800:Nb.htop=PySem.W.Fast.tw11570947652754012800:=rfl
namespace PySem.W.Fast
def tw17811051968985843439:=0
def tw14461321485299996587:=0
def tw8478890712675116392:=0
def tw9075657755296396190:=0
def tw16976952117170017349:=0
def tw6091959612267070479:=0
def tw7156237276730972437:=0
def tw7139717229460505325:=0
def tw12727407384185630674:=0
def tw9322764302931909851:=0
def tw4473639228862379417:=0
def tw10428702508914426352:=0
def tw7164762116074595876:=0
def tw15686647813787612282:=0
def tw9902974068243771877:=0
def tw13604065828142997766:=0
def tw11910933693657761307:=0
def tw1678645189438425647:=0
def tw232528479542518962:=0
def tw2045502550832757303:=0
def tw108844571545249888:=0
def tw4298112725068344976:=0
def tw16688564301991644347:=0
def tw3231646771654774757:=0
def tw17277029599533278536:=0
def tw9008419759848059770:=0
def tw9183564744755540754:=0
def tw12500446114608091415:=0
def tw14959452694581979754:=0
def tw15549327021830194571:=0
def tw10431652443148412044:=0
def tw8774807112877982689:=0
def tw9341497229249227929:=0
def tw16669757269924241869:=0
def tw10019873950721354450:=0
def tw4747596125805031669:=0
def tw7784652533560319137:=0
def tw6342101677452750078:=0
def tw17061827543388295810:=0
def tw3513576661500573050:=0
def tw5021238648295347321:=0
def tw2408701276380878597:=0
def tw13928705200075584034:=0
def tw4694317591593281274:=0
def tw5856877997921110268:=0
def tw7229257769288895021:=0
def tw911469925343985629:=0
def tw4066337078216986732:=0
def tw14652085434729101992:=0
def tw10606755193410339041:=0
def tw8813810264737839803:=0
def tw1972022974586779514:=0
def tw16768274139683743686:=0
def tw15248218647395810254:=0
def tw14124282007368268904:=0
def tw1649272071022926459:=0
def tw9513840208932080749:=0
def tw8016955550654815862:=0
def tw15850131458376100552:=0
def tw11233093921801976478:=0
def tw4282173546323088187:=0
def tw8386841020789948352:=0
def tw5613402905637582773:=0
def tw6905339156425230785:=0
def tw905028083216337235:=0
def tw333143452873032615:=0
def tw561178344629830003:=0
def tw4051912879455194235:=0
def tw11550041704612351891:=0
def tw8196966272253429934:=0
def tw6177908427843804740:=0
def tw16813724961683393020:=0
def tw13477784543288196077:=0
def tw2036389523362092199:=0
def tw1530646675475829937:=0
def tw7275622517101163245:=0
def tw13424627872682088428:=0
def tw14056162137548429422:=0
def tw8653537219396564418:=0
def tw14237978018892883958:=0
def tw6778199287109040328:=0
def tw15020447333058011055:=0
def tw17986450859829250181:=0
def tw6996990026714615828:=0
def tw11459442845455775840:=0
def tw4848449664179792554:=0
def tw6580483870587811274:=0
def tw9603085464024188192:=0
def tw13265322790484380115:=0
def tw10814329601200950209:=0
def tw15776523252247094025:=0
def tw1739032078043005233:=0
def tw13113103373534132461:=0
def tw18298500229570876561:=0
def tw16723670517880216145:=0
def tw2019765448129317971:=0
def tw3102592101476505130:=0
def tw6918449799207888281:=0
def tw360869257243205794:=0
def tw11190981473770329733:=0
def tw16457741405979210991:=0
def tw16186591913392524967:=0
def tw4572902626904832559:=0
def tw16362401420226215853:=0
def tw5400577466126839619:=0
def tw6276698850629971309:=0
def tw4283642141336784245:=0
def tw7541001953989397033:=0
def tw15875037838732486987:=0
def tw4722157646745931050:=0
def tw7443161273592844434:=0
def tw4430888134006096007:=0
def tw747990738631709150:=0
def tw5390098949060305581:=0
def tw5851362542256396564:=0
def tw6007572678104513623:=0
def tw4846010460040096216:=0
def tw4070887411148401946:=0
def tw10849500896253467498:=0
def tw6783025793513654349:=0
def tw4467687923126517391:=0
def tw2830465497012021224:=0
def tw2226091985575333130:=0
def tw5331169533622411930:=0
def tw416268772100621796:=0
def tw18155535807525779200:=0
def tw212595474304120212:=0
def tw16369621401875347978:=0
def tw17196401433959975410:=0
def tw95005024068975524:=0
def tw844787394510531424:=0
def tw6978775017134814131:=0
def tw8248421161434418198:=0
def tw5644395903613620993:=0
def tw17895625120933185635:=0
def tw1161719786465777587:=0
def tw11428733687177451379:=0
def tw9180753830748257022:=0
def tw17769964525961190904:=0
end PySem.W.Fast
open PySem PySem.W PyProof.Rows
set_option maxRecDepth 100000 in
set_option maxHeartbeats 0 in
theorem PySem.Challenge.cw_nonebetter_k65_whole_plans_are_points_holds : PySem.Challenge.rw_nonebetter_k65_whole_plans_are_points.Holds := by
 w_on;o_law;show PySem.W.OpenRow.Holds { PySem.Challenge.rw_nonebetter_k65_whole_plans_are_points.row with prog:=Nb.pwv };o_head (PySem.W.kHook Nb.heapK (nat_lit 2 :: nat_lit 3 :: nat_lit 15 :: nat_lit 17 :: nat_lit 18 :: nat_lit 20 :: nat_lit 21 :: nat_lit 22 :: nat_lit 24 :: nat_lit 25 :: nat_lit 27 :: nat_lit 28 :: nat_lit 29 :: nat_lit 30 :: nat_lit 32 :: nat_lit 33 :: nat_lit 35 :: nat_lit 36 :: nat_lit 44 :: nat_lit 47 :: nat_lit 48 :: nat_lit 49 :: nat_lit 51 :: nat_lit 52 :: nat_lit 54 :: nat_lit 55 :: nat_lit 56 :: nat_lit 58 :: nat_lit 59 :: nat_lit 61 :: nat_lit 62 :: nat_lit 63 :: nat_lit 66 :: nat_lit 67 :: nat_lit 68 :: nat_lit 70 :: nat_lit 71 :: nat_lit 73 :: nat_lit 74 :: nat_lit 75 :: nat_lit 77 :: nat_lit 78 :: nat_lit 80 :: nat_lit 81 :: nat_lit 82 :: nat_lit 84 :: nat_lit 85 :: nat_lit 87 :: nat_lit 88 :: nat_lit 89 :: nat_lit 91 :: nat_lit 92 :: nat_lit 94 :: nat_lit 95 :: nat_lit 96 :: nat_lit 98 :: nat_lit 99 :: nat_lit 101 :: nat_lit 102 :: nat_lit 103 :: nat_lit 106 :: nat_lit 107 :: nat_lit 108 :: nat_lit 109 :: nat_lit 110 :: nat_lit 111 :: nat_lit 112 :: nat_lit 115 :: nat_lit 117 :: nat_lit 118 :: nat_lit 120 :: nat_lit 121 :: nat_lit 122 :: nat_lit 125 :: nat_lit 126 :: nat_lit 127 :: nat_lit 130 :: nat_lit 131 :: nat_lit 132 :: nat_lit 135 :: nat_lit 136 :: nat_lit 137 :: nat_lit 140 :: nat_lit 141 :: nat_lit 142 :: nat_lit 144 :: nat_lit 145 :: nat_lit 147 :: nat_lit 148 :: nat_lit 149 :: nat_lit 152 :: nat_lit 153 :: nat_lit 154 :: nat_lit 156 :: nat_lit 157 :: nat_lit 159 :: nat_lit 160 :: nat_lit 161 :: nat_lit 164 :: nat_lit 165 :: nat_lit 166 :: nat_lit 169 :: nat_lit 170 :: nat_lit 171 :: nat_lit 174 :: nat_lit 175 :: nat_lit 176 :: nat_lit 179 :: nat_lit 180 :: nat_lit 181 :: nat_lit 184 :: nat_lit 185 :: nat_lit 186 :: nat_lit 188 :: nat_lit 189 :: nat_lit 191 :: nat_lit 192 :: nat_lit 193 :: nat_lit 196 :: nat_lit 197 :: nat_lit 198 :: nat_lit 201 :: nat_lit 202 :: nat_lit 203 :: nat_lit 206 :: nat_lit 207 :: nat_lit 208 :: nat_lit 211 :: nat_lit 212 :: nat_lit 213 :: nat_lit 215 :: nat_lit 216 :: nat_lit 218 :: nat_lit 219 :: nat_lit 220 :: nat_lit 223 :: nat_lit 224 :: nat_lit 225 :: nat_lit 227 :: nat_lit 228 :: nat_lit 230 :: nat_lit 231 :: nat_lit 232 :: nat_lit 235 :: nat_lit 236 :: nat_lit 237 :: nat_lit 239 :: nat_lit 240 :: nat_lit 242 :: nat_lit 243 :: nat_lit 244 :: nat_lit 246 :: nat_lit 247 :: nat_lit 249 :: nat_lit 250 :: nat_lit 251 :: nat_lit 253 :: nat_lit 254 :: nat_lit 256 :: nat_lit 257 :: nat_lit 258 :: nat_lit 260 :: nat_lit 261 :: nat_lit 263 :: nat_lit 264 :: nat_lit 265 :: nat_lit 267 :: nat_lit 268 :: nat_lit 270 :: nat_lit 271 :: nat_lit 272 :: nat_lit 275 :: nat_lit 276 :: nat_lit 277 :: nat_lit 279 :: nat_lit 280 :: nat_lit 282 :: nat_lit 283 :: nat_lit 284 :: nat_lit 287 :: nat_lit 288 :: nat_lit 289 :: nat_lit 291 :: nat_lit 292 :: nat_lit 294 :: nat_lit 295 :: nat_lit 296 :: nat_lit 298 :: nat_lit 299 :: nat_lit 301 :: nat_lit 302 :: nat_lit 303 :: nat_lit 306 :: nat_lit 307 :: nat_lit 308 :: nat_lit 311 :: nat_lit 312 :: nat_lit 313 :: nat_lit 315 :: nat_lit 316 :: nat_lit 318 :: nat_lit 319 :: nat_lit 320 :: nat_lit 322 :: nat_lit 323 :: nat_lit 325 :: nat_lit 326 :: nat_lit 327 :: nat_lit 330 :: nat_lit 331 :: nat_lit 332 :: nat_lit 335 :: nat_lit 336 :: []) (fun _=>by kernel_rfl));(case hw=>w_witness2)
 k_fill
 refine Nb.walk (l:=PySem.Challenge.rw_nonebetter_k65_whole_plans_are_points) rfl rfl (fun w h Y=>PySem.W.kIn_of Y) ?F
 case F =>
  intro w mg fa h KX G hmg
  have ⟨F1,F2,F3,F4,F5,F6,F7,F8,F9,F10,F11,F12,F13,F14,F15,F16,F17,F18,F19,F20,F21,F22,F23,F24,F25,F26,F27,F28,F29,F30,F31,F32,F33,F34,F35,F36,F37,F38,F39,F40,F41⟩:L2.Fn (L2.KOf KX) mg "_law_mix" Nb.Qgj/\L2.Fn (L2.KOf KX) mg "_law_draws" Nb.Vy/\L2.Fn (L2.KOf KX) mg "_law_name" Nb.Qby/\L2.Fn (L2.KOf KX) mg "_law_rooms" Nb.Vz/\L2.Fn (L2.KOf KX) mg "_law_way" Nb.Qgm/\L2.Fn (L2.KOf KX) mg "_law_book" Nb.Qcc/\L2.Fn (L2.KOf KX) mg "said_by" Nb.Qnh/\L2.Fn (L2.KOf KX) mg "negated" Nb.Qgu/\L2.Fn (L2.KOf KX) mg "after_number" Nb.sAfN/\L2.Fn (L2.KOf KX) mg "work_rows" Nb.sWoR/\L2.Fn (L2.KOf KX) mg "room_rows" Nb.sRoR/\L2.Fn (L2.KOf KX) mg "store_rows" Nb.sStR/\L2.Fn (L2.KOf KX) mg "after_rows" Nb.sAfR/\L2.Fn (L2.KOf KX) mg "labelled" Nb.Qnv/\L2.Fn (L2.KOf KX) mg "problem_of" Nb.sPrb/\L2.Fn (L2.KOf KX) mg "_law_ways" Nb.sWys/\L2.Fn (L2.KOf KX) mg "_law_choices" Nb.sChs/\L2.Fn (L2.KOf KX) mg "_law_end" Nb.Qlm/\L2.Fn (L2.KOf KX) mg "is_whole" Nb.sIW/\L2.Fn (L2.KOf KX) mg "is_pair" Nb.sIP/\L2.Fn (L2.KOf KX) mg "choices_taken" Nb.Qee/\L2.Fn (L2.KOf KX) mg "is_as_told" Nb.Qoa/\L2.Fn (L2.KOf KX) mg "wrong_works" Nb.sWW/\L2.Fn (L2.KOf KX) mg "wrong_rooms" Nb.sWR/\L2.Fn (L2.KOf KX) mg "wrong_stores" Nb.sWS/\L2.Fn (L2.KOf KX) mg "wrong_afters" Nb.sWA/\L2.Fn (L2.KOf KX) mg "broken" Nb.Qcp/\L2.Fn (L2.KOf KX) mg "choices" Nb.Qoe/\L2.Fn (L2.KOf KX) mg "point_of" Nb.sPtO/\L2.Fn (L2.KOf KX) mg "plan_of" Nb.sPlO/\L2.Fn (L2.KOf KX) mg "cost_of_plan" Nb.sCoP/\L2.Fn (L2.KOf KX) mg "weighed" Nb.Wb/\L2.Fn (L2.KOf KX) mg "kept" Nb.Qol/\L2.Fn (L2.KOf KX) mg "keeps" Nb.Qhm/\L2.Fn (L2.KOf KX) mg "cost_of" Nb.Qom/\L2.Fn (L2.KOf KX) mg "_law_cost" Nb.Qeh/\L2.Fn (L2.KOf KX) mg "_law_moved" Nb.sMvd/\L2.Fn (L2.KOf KX) mg "_law_is_kept" Nb.sIsK/\L2.Fn (L2.KOf KX) mg "_law_plans" Nb.sPls/\L2.Fn (L2.KOf KX) mg "_law_one_each" Nb.sOnE/\L2.Fn (L2.KOf KX) mg "law" Nb.sLaw:=by
   dsimp only [L2.KOf]
   refine ⟨?_,?_,?_,?_,?_,?_,?_,?_,?_,?_,?_,?_,?_,?_,?_,?_,?_,?_,?_,?_,?_,?_,?_,?_,?_,?_,?_,?_,?_,?_,?_,?_,?_,?_,?_,?_,?_,?_,?_,?_,?_⟩ <;> (refine' L2.Yh KX G ?a ?l ?c ?k;case a | l | c | k=>k_is)
  have M:Nb.Mg mg:=by
   refine' ⟨PySem.W.mg_none_of KX G ?m_len,PySem.W.mg_none_of KX G ?m_min,PySem.W.mg_none_of KX G ?m_max,PySem.W.mg_none_of KX G ?m_sum,PySem.W.mg_none_of KX G ?m_all,PySem.W.mg_none_of KX G ?m_any,PySem.W.mg_none_of KX G ?m_abs,PySem.W.mg_none_of KX G ?m_isinstance,PySem.W.mg_none_of KX G ?m_sorted,PySem.W.mg_none_of KX G ?m_range_,PySem.W.mg_none_of KX G ?m_zip_,PySem.W.mg_none_of KX G ?m_tuple_,PySem.W.mg_none_of KX G ?m_list_,PySem.W.mg_none_of KX G ?m_int_,PySem.W.mg_none_of KX G ?m_bool_,PySem.W.mg_none_of KX G ?m_dict_,PySem.W.mg_none_of KX G ?m_enumerate_,PySem.W.mg_none_of KX G ?m_reversed_,PySem.W.mg_none_of KX G ?m_ValueError_,PySem.W.mg_none_of KX G ?m_set_,PySem.W.mg_none_of KX G ?m_str_⟩
   (case m_len | m_min | m_max | m_sum | m_all | m_any | m_abs | m_isinstance | m_sorted | m_range_ | m_zip_ | m_tuple_ | m_list_ | m_int_ | m_bool_ | m_dict_ | m_enumerate_ | m_reversed_ | m_ValueError_ | m_set_ | m_str_=>k_is)
  have CL:∃ (C fI fE fY fL fM fU fG fR fA fP:Addr) (fdI fdE fdY fdL fdM fdU fdG fdR fdA fdP:FuncData),Nb.FcTxt (L2.KOf KX) mg C/\L2.Mk (L2.KOf KX) C fI/\L2.Fun (L2.KOf KX) "__init__" "Facts.__init__" Nb.Vi fI fdI/\L2.Fun (L2.KOf KX) "end_of" "Facts.end_of" Nb.Qdt fE fdE/\L2.Meth (L2.KOf KX) C "end_of" fE/\L2.Fun (L2.KOf KX) "is_way" "Facts.is_way" Nb.Kx fY fdY/\L2.Meth (L2.KOf KX) C "is_way" fY/\L2.Fun (L2.KOf KX) "last_begin" "Facts.last_begin" Nb.Qab fL fdL/\L2.Meth (L2.KOf KX) C "last_begin" fL/\L2.Fun (L2.KOf KX) "many" "Facts.many" Nb.Qac fM fdM/\L2.Meth (L2.KOf KX) C "many" fM/\L2.Fun (L2.KOf KX) "used_by" "Facts.used_by" Nb.Qad fU fdU/\L2.Meth (L2.KOf KX) C "used_by" fU/\L2.Fun (L2.KOf KX) "gain_by" "Facts.gain_by" Nb.Qae fG fdG/\L2.Meth (L2.KOf KX) C "gain_by" fG/\L2.Fun (L2.KOf KX) "room_of" "Facts.room_of" Nb.Qaf fR fdR/\L2.Meth (L2.KOf KX) C "room_of" fR/\L2.Fun (L2.KOf KX) "all_choices" "Facts.all_choices" Nb.Qba fA fdA/\L2.Meth (L2.KOf KX) C "all_choices" fA/\L2.Fun (L2.KOf KX) "price_of" "Facts.price_of" Nb.Ky fP fdP/\L2.Meth (L2.KOf KX) C "price_of" fP:=by
   dsimp only [L2.KOf]
   refine' ⟨_,_,_,_,_,_,_,_,_,_,_,_,_,_,_,_,_,_,_,_,_,⟨⟨?pg,?hd,?po,?sa⟩,?n1,?n2,?n3,?n4,?n5,?n6,?n7,PySem.W.mg_of KX G ?aC⟩,⟨?mk,?a1,?i1,?kc⟩,L2.Jp (st:=Nb.Vi) ?l1 ?c1 ?k1,L2.Jp (st:=Nb.Qdt) ?l2 ?c2 ?k2,⟨?a2,?i2,?m2⟩,L2.Jp (st:=Nb.Kx) ?l3 ?c3 ?k3,⟨?a3,?i3,?m3⟩,L2.Jp (st:=Nb.Qab) ?l4 ?c4 ?k4,⟨?a4,?i4,?m4⟩,L2.Jp (st:=Nb.Qac) ?l5 ?c5 ?k5,⟨?a5,?i5,?m5⟩,L2.Jp (st:=Nb.Qad) ?l6 ?c6 ?k6,⟨?a6,?i6,?m6⟩,L2.Jp (st:=Nb.Qae) ?l7 ?c7 ?k7,⟨?a7,?i7,?m7⟩,L2.Jp (st:=Nb.Qaf) ?l8 ?c8 ?k8,⟨?a8,?i8,?m8⟩,L2.Jp (st:=Nb.Qba) ?l9 ?c9 ?k9,⟨?a9,?i9,?m9⟩,L2.Jp (st:=Nb.Ky) ?l10 ?c10 ?k10,⟨?a10,?i10,?m10⟩⟩
   (case aC | a1 | i1 | l1 | c1 | k1 | a2 | i2 | l2 | c2 | k2 | m2 | a3 | i3 | l3 | c3 | k3 | m3 | a4 | i4 | l4 | c4 | k4 | m4 | a5 | i5 | l5 | c5 | k5 | m5 | a6 | i6 | l6 | c6 | k6 | m6 | a7 | i7 | l7 | c7 | k7 | m7 | a8 | i8 | l8 | c8 | k8 | m8 | a9 | i9 | l9 | c9 | k9 | m9 | a10 | i10 | l10 | c10 | k10 | m10 | pg | hd | po | sa | mk | kc=>k_is)
   (case n1=>unfold L2.NoAttr;k_is);(case n2=>unfold L2.NoAttr;k_is);(case n3=>unfold L2.NoAttr;k_is);(case n4=>unfold L2.NoAttr;k_is);(case n5=>unfold L2.NoAttr;k_is);(case n6=>unfold L2.NoAttr;k_is);(case n7=>unfold L2.NoAttr;k_is)
  obtain ⟨C,fI,fE,fY,fL,fM,fU,fG,fR,fA,fP,fdI,fdE,fdY,fdL,fdM,fdU,fdG,fdR,fdA,fdP,T,mkI,FI,FE,mE,FY,mY,FL,mL,FM,mM,FU,mU,FG,mG,FR,mR,FA,mA,FP,mP⟩:=CL
  have TNN:∃ aN fN,L2.Tab w (L2.KOf KX) mg "NAMES" aN fN/\Nb.Qce fN:=by
   dsimp only [L2.KOf]
   refine' ⟨_,Nb.Qlq (PySem.W.mg_of KX G ?b1) ?l1 ?k1 ?o1 ?e1⟩
   (case b1 | l1=>k_is);(case k1=>k_keys);(case o1=>decide);(case e1=>exact rfl)
  obtain ⟨aN,fN,TN,hN⟩:=TNN
  have bI:=FI.binds (ps:=["self","book"]) fun _ _ _ _ _ _=>L2.Zm (fun _ _=>rfl)
  have bE:=FE.binds (ps:=["self","choice"]) fun _ _ _ _ _ _=>L2.Zm (fun _ _=>rfl)
  have bY:=FY.binds (ps:=["self","work","way"]) fun _ _ _ _ _ _=>L2.Qii (fun _ _ _=>rfl)
  have bL:=FL.binds (ps:=["self","work","way"]) fun _ _ _ _ _ _=>L2.Qii (fun _ _ _=>rfl)
  have bM:=FM.binds (ps:=["self","word","choice","name"]) fun _ _ _ _ _ _=>L2.Qkl (fun _ _ _ _=>rfl)
  have bU:=FU.binds (ps:=["self","choice","bench","day"]) fun _ _ _ _ _ _=>L2.Qkl (fun _ _ _ _=>rfl)
  have bG:=FG.binds (ps:=["self","choice","store","day"]) fun _ _ _ _ _ _=>L2.Qkl (fun _ _ _ _=>rfl)
  have bR:=FR.binds (ps:=["self","bench","day"]) fun _ _ _ _ _ _=>L2.Qii (fun _ _ _=>rfl)
  have bA:=FA.binds (ps:=["self"]) fun _ _ _ _ _ _=>L2.bind1 (fun _=>rfl)
  have bP:=FP.binds (ps:=["self","choice"]) fun _ _ _ _ _ _=>L2.Zm (fun _ _=>rfl)
  obtain ⟨f,fd,FF,hm⟩:=F41
  have e0:=hmg.symm.trans hm
  cases e0
  refine' ⟨fd,?b,fun base kb nb=>Nb.all_ok M T TN hN mkI FI bI FE bE mE FY bY mY FL bL mL FM bM mM FU bU mU FG bG mG FR bR mR FA bA mA FP bP mP F1 F2 F3 F4 F5 F6 F7 F8 F9 F10 F11 F12 F13 F14 F15 F16 F17 F18 F19 F20 F21 F22 F23 F24 F25 F26 F27 F28 F29 F30 F31 F32 F33 F34 F35 F36 F37 F38 F39 F40 FF⟩
  obtain ⟨oc,od,kV,doc,pm,an,cdv,ct,osl,rfl,lk,hcd⟩:=FF.ex
  exact fun s u=>.of_eq rfl

