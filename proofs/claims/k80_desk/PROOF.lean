import PyProof.Rows.All
import KE.KFromBytes
import KE.KEqDict
import KE.KPairComp
import KE.KSortTup
import KE.RegKIsAll
import KE.KDictSum
import KE.KMinKey
import KE.KIntText
import KE.KRevIter
import KE.KDictOf
import PySem.Challenge.RW_nonebetter_k80_whole_desk
noncomputable section
abbrev Fg := PySem.W.Frag
section
open PySem PySem.Spec PySem.W PyProof.Rows
abbrev jQ := @List.mem_singleton
abbrev jX := @List.mem_cons_self
abbrev jY := @List.mem_cons_of_mem
abbrev jZ := @wpAny_bind
abbrev jJ := @List.mem_cons
abbrev jK := @List.length_map
abbrev jV := @Heap.get?_push_of_some
abbrev jW := @List.length_append
abbrev kQ := @Nat.le_refl
abbrev kX := @Heap.lt_size
abbrev kY := @List.size_toArray
abbrev kZ := @List.getElem?_eq_some_iff
abbrev kJ := @wpAny_pure
abbrev kK := @Bool.false_ne_true
abbrev kW := @Heap.get?_push_size
abbrev yQ := @List.mem_append
abbrev yX := @List.mem_of_getElem?
abbrev yY := @List.mem_append_right
abbrev yZ := @Int.emod_lt_of_pos
abbrev yJ := @Nat.ne_of_lt
abbrev yK := @of_decide_eq_true
abbrev yV := @decide_eq_true
abbrev yW := @List.length_take
abbrev zQ := @Int.emod_nonneg
abbrev zX := @Nat.lt_of_lt_of_le
abbrev zY := @decide_eq_false
abbrev zZ := @List.eq_nil_of_length_eq_zero
abbrev zJ := @List.length_cons
abbrev zK := @List.length_drop
abbrev zV := @List.mem_filterMap
abbrev zW := @List.lookup_cons
abbrev xQ := @Bool.and_eq_true
abbrev xX := @Option.some_ne_none
abbrev xY := @List.map_append
abbrev xZ := @List.map_cons
abbrev xJ := @List.getElem?_map
abbrev xK := @Nat.min_eq_left
abbrev xV := @List.mem_nil_iff
abbrev xW := @Nat.le_trans
abbrev wQ := @List.getElem?_set_self
abbrev wX := @Nat.zero_le
abbrev wY := @Heap.size_push
abbrev wZ := @List.mem_of_mem_take
abbrev wJ := @List.all_eq_true
abbrev wV := @List.take_length
abbrev wW := @Nat.lt_succ_of_lt
abbrev jQa := @List.length_eq_zero_iff
abbrev jQb := @List.mem_of_mem_drop
abbrev jQc := @Nat.lt_irrefl
abbrev jQd := @List.getElem?_append_right
abbrev jQe := @List.mem_map
abbrev jQf := @Array.length_toList
abbrev jXa := @List.mem_iff_getElem?
abbrev jXb := @List.not_mem_nil
abbrev jXc := @Option.isSome_iff_exists
abbrev jXd := @List.mem_append_left
abbrev jXe := @Heap.get?_update_other
abbrev jXf := @Option.map_eq_some_iff
abbrev jYa := @List.take_of_length_le
abbrev jYb := @Nat.lt_succ_self
abbrev jYc := @List.getElem?_append_left
abbrev jYd := @List.getElem?_take_of_lt
abbrev jYe := @List.find?_cons
abbrev jYf := @Heap.get?_update_self
abbrev jZa := @Nat.le_succ
abbrev jZb := @Array.getElem?_eq_some_iff
abbrev jZc := @Nat.add_le_add_left
abbrev jZd := @List.length_nil
abbrev jZe := @List.contains_cons
abbrev jZf := @Nat.lt_of_le_of_lt
abbrev jJa := @Nat.ne_of_gt
abbrev jJb := @Bool.not_eq_true'
abbrev jJc := @Nat.le_add_right
abbrev jJd := @Bool.eq_iff_iff
abbrev jJe := @List.append_nil
abbrev jJf := @List.mem_map_of_mem
abbrev jKa := @List.map_map
abbrev jKb := @List.mem_range
abbrev jKc := @Bool.false_and
abbrev jKd := @Array.find?_toList
abbrev jKe := @Array.append_empty
abbrev jKf := @List.getElem?_eq_none_iff
abbrev kQa := @Int.toNat_natCast
abbrev kQb := @Nat.le_of_succ_le
abbrev kQc := @Nat.le_of_lt
abbrev kQd := @List.mem_filter
abbrev kQe := @List.nodup_cons
abbrev kQf := @Bool.or_eq_true
abbrev kXa := @Option.map_some
abbrev kXb := @Array.getElem?_setIfInBounds_self_of_lt
abbrev kXc := @Heap.get?_none_of_le
abbrev kXd := @List.getElem?_set_ne
abbrev kXe := @List.take_zero
abbrev kXf := @List.filterMap_cons
end
abbrev gE := @List.getElem?_eq_getElem
set_option Elab.async false
set_option linter.all false
set_option maxRecDepth 100000
set_option maxHeartbeats 4000000
set_option bootstrap.genMatcherCode false
set_option genSizeOfSpec false
set_option compiler.extract_closed false
def PySem.W.Fast.tw13035408126934952735 : PySem.Program := PySem.Challenge.pw_nonebetter_k80_whole_desk
theorem PySem.W.Fast.te13035408126934952735 : PySem.Challenge.pw_nonebetter_k80_whole_desk = PySem.W.Fast.tw13035408126934952735 := rfl
set_option maxHeartbeats 0 in
theorem Nb.ws (h : PySem.Challenge.rw_nonebetter_k80_whole_desk.row.wellSaid = true → PySem.Challenge.rw_nonebetter_k80_whole_desk.row.Holds) : PySem.Challenge.rw_nonebetter_k80_whole_desk.Holds := by
  w_on; o_law
  exact h (by assumption)
namespace L2
theorem aRfl (h:True:=by rfl):True:=h
theorem aDec (h:True:=by decide):True:=h
theorem aFst (h:True:=by first | exact .inl rfl | exact .inr rfl | assumption):True:=h
theorem aIrf (h:True:=by intro _;rfl):True:=h
end L2
namespace L2
open PySem PySem.Spec PyProof.Rows
abbrev Key:=Sum Int Str
def Qfj:Key->Value->Bool
 | .inl k,v=>Value.isInt k v
 | .inr x,v=>Value.isStrOf x v
def keyH (w:World):Key->Int
 | .inl k=>hashInt k
 | .inr x=>hashStr w x
theorem Xo:∀ {k:Key} {v:Value},Qfj k v=true->(∃ i t,k=Sum.inl i/\v=Value.int i t)\/(∃ x t,k=Sum.inr x/\v=Value.str x t)
 | .inl i,v,h=>by
  obtain ⟨t,e⟩:=Value.isInt_shape (k:=i) (v:=v) h
  exact .inl ⟨i,t,rfl,e⟩
 | .inr x,v,h=>by
  obtain ⟨t,e⟩:=Value.isStrOf_shape (x:=x) (v:=v) h
  exact .inr ⟨x,t,rfl,e⟩
theorem Qgs (i:Int) (t:Tok):Qfj (.inl i) (.int i t)=true:=by simp [Qfj,Value.isInt]
theorem Qgt (x:Str) (t:Tok):Qfj (.inr x) (.str x t)=true:=by simp [Qfj,Value.isStrOf]
theorem key_ll (a b:Int):decide ((Sum.inl a:Key)=Sum.inl b)=(a == b):=by
 by_cases e:a=b
 ·subst e;simp
 ·have h:¬ (Sum.inl a:Key)=Sum.inl b:=fun q=>e (Sum.inl.inj q)
  rw [zY h]
  exact (beq_eq_false_iff_ne.mpr e).symm
theorem key_rr (a b:Str):decide ((Sum.inr a:Key)=Sum.inr b)=decide (a=b):=by
 by_cases e:a=b
 ·subst e;simp
 ·have h:¬ (Sum.inr a:Key)=Sum.inr b:=fun q=>e (Sum.inr.inj q)
  rw [zY h,zY e]
theorem key_lr (a:Int) (b:Str):decide ((Sum.inl a:Key)=Sum.inr b)=false:=zY (fun q=>nomatch q)
theorem key_rl (a:Str) (b:Int):decide ((Sum.inr a:Key)=Sum.inl b)=false:=zY (fun q=>nomatch q)
def Yl (prog:Program) (w:World):PySem.KeyKind prog w Key where
 is:=Qfj
 hash:=keyH w
 inj:=fun v a b ha hb=>by
  rcases Xo ha with ⟨i,t,rfl,rfl⟩ | ⟨x,t,rfl,rfl⟩
  ·rcases Xo hb with ⟨j,u,rfl,e⟩ | ⟨y,u,rfl,e⟩
   ·injection e with e1 _;rw [e1]
   ·exact nomatch e
  ·rcases Xo hb with ⟨j,u,rfl,e⟩ | ⟨y,u,rfl,e⟩
   ·exact nomatch e
   ·injection e with e1 _;rw [e1]
 byValue:=fun k v h=>by
  rcases Xo h with ⟨i,t,rfl,rfl⟩ | ⟨x,t,rfl,rfl⟩ <;> rfl
 pyHash:=fun hv h=>by
  rcases Xo hv with ⟨i,t,rfl,rfl⟩ | ⟨x,t,rfl,rfl⟩
  ·exact wpAny_pyHash_int h
  ·exact wpAny_pyHash_str h
 eqBool:=fun hu hv h=>by
  rcases Xo hu with ⟨i,t,rfl,rfl⟩ | ⟨x,t,rfl,rfl⟩
  ·rcases Xo hv with ⟨j,u,rfl,rfl⟩ | ⟨y,u,rfl,rfl⟩
   ·rw [key_ll] at h;exact wpAny_eqBool_int h
   ·rw [key_lr] at h;exact SeqAt.EqAt.int_str i t y u _ _ _ _ h
  ·rcases Xo hv with ⟨j,u,rfl,rfl⟩ | ⟨y,u,rfl,rfl⟩
   ·rw [key_rl] at h;exact SeqAt.EqAt.str_int x t j u _ _ _ _ h
   ·rw [key_rr] at h;exact wpAny_eqBool_str h
 «strs»:=fun k x t v h=>by
  rcases Xo h with ⟨i,u,rfl,e⟩ | ⟨y,u,rfl,e⟩
  ·exact nomatch e
  ·injection e with e1 _
   subst e1
   cases v <;> rfl
theorem Qdf (prog:Program) (w:World) (i:Int) (t:Tok):(Yl prog w).is (.inl i) (.int i t)=true:=Qgs i t
theorem Qdg (prog:Program) (w:World) (x:Str) (t:Tok):(Yl prog w).is (.inr x) (.str x t)=true:=Qgt x t
inductive V where
 | non | bl (b:Bool) | int (i:Int) | str (x:Str) | byt (b:Array UInt8) | flt (b:UInt64) | ref (a:Addr) | ty (n:String)
 deriving DecidableEq
def RelV:V->Value->Prop
 | .non,u=>u=Value.none
 | .bl b,u=>u=Value.bool b
 | .int i,u=>∃ t,u=Value.int i t
 | .str x,u=>∃ t,u=Value.str x t
 | .byt b,u=>∃ t,u=Value.bytes b t
 | .flt b,u=>∃ t,u=Value.float b t
 | .ref a,u=>u=Value.ref a
 | .ty n,u=>u=Value.type n
abbrev Vals:List V->List Value->Prop:=Paired RelV
theorem Vals.length {xs:List V} {us:List Value} (r:Vals xs us):xs.length=us.length:=Paired.length r
theorem Vals.get:∀ {xs:List V} {us:List Value} {i:Nat} {x:V},Vals xs us->xs[i]?=some x->∃ u,us[i]?=some u/\RelV x u
 | _,_,_,_,.nil,e=>by simp at e
 | _,_,0,_,.cons r _,e=>by simp at e;subst e;exact ⟨_,rfl,r⟩
 | _,_,i + 1,x,.cons _ t,e=>by
  obtain ⟨u,h1,h2⟩:=Vals.get (i:=i) (x:=x) t (by simpa using e)
  exact ⟨u,by simpa using h1,h2⟩
theorem Vals.set {x:V} {u:Value} (r:RelV x u):∀ {xs:List V} {us:List Value} (i:Nat),Vals xs us->Vals (xs.set i x) (us.set i u)
 | _,_,_,.nil=>.nil
 | _,_,0,.cons _ t=>.cons r t
 | _,_,i + 1,.cons q t=>.cons q (Vals.set r i t)
theorem Vals.append {xs ys:List V} {us ws:List Value} (h:Vals xs us) (g:Vals ys ws):Vals (xs ++ ys) (us ++ ws):=by
 induction h with
 | nil=>exact g
 | cons r t ih=>exact .cons r ih
theorem Vals.take:∀ {xs:List V} {us:List Value} (n:Nat),Vals xs us->Vals (xs.take n) (us.take n)
 | _,_,0,_=>.nil
 | _,_,_ + 1,.nil=>.nil
 | _,_,n + 1,.cons r t=>.cons r (Vals.take n t)
theorem Vals.drop:∀ {xs:List V} {us:List Value} (n:Nat),Vals xs us->Vals (xs.drop n) (us.drop n)
 | _,_,0,r=>r
 | _,_,_ + 1,.nil=>.nil
 | _,_,n + 1,.cons _ t=>Vals.drop n t
def RelO:Option V->Option Value->Prop
 | some v,some u=>RelV v u
 | none,none=>True
 | _,_=>False
def KV {κ:Type}:List (κ × V)->List (κ × Value)->Prop:=Paired fun (p:κ × V) (q:κ × Value)=>p.1=q.1/\RelV p.2 q.2
def kV:Key->V
 | .inl i=>.int i
 | .inr x=>.str x
inductive HO where
 | lst (xs:List V)
 | tup (xs:List V)
 | dK (kvs:List (Key × V)) | dT (kvs:List (List Key × V))
 | set (S:Int->Bool) (n:Nat)
 | ins (C dx:Addr) (fs:List (Str × V))
 | own (x:Addr)
 | xd (fs:List (Str × V))
 | met (f x:Addr)
 | rng (lo hi:Int)
 | frz (o:Obj) (u:HO)
 | tbl (ps:Array Value)
 | ext (φ:Heap->Prop)
abbrev Hp:=Addr->Option HO
def upd (H:Hp) (a:Addr) (o:HO):Hp:=fun b=>if b=a then some o else H b
theorem Qd {H:Hp} {a:Addr} {o:HO}:upd H a o a=some o:=by unfold upd;rw [if_pos rfl]
theorem Ql {H:Hp} {a b:Addr} {o:HO} (h:b ≠ a):upd H a o b=H b:=by unfold upd;rw [if_neg h]
theorem Qnb {H:Hp} {a:Addr} {o u:HO}:upd (upd H a o) a u=upd H a u:=by
 funext b;unfold upd;split <;> rfl
theorem Qam {H:Hp} {a b:Addr} {o u:HO} (h:H a=some o) (h':H b=some u) (d:o ≠ u):a ≠ b:=by
 intro e;subst e;rw [h] at h';exact d (Option.some.inj h')
theorem Qq {H:Hp} {a b:Addr} {o:HO} (h:H a=some o) (h':H b=none):a ≠ b:=by
 intro e;subst e;rw [h] at h';cases h'
section
variable (P:Program) (w:World)
def ObjOk (H:Hp) (h:Heap) (a:Addr):HO->Prop
 | .lst xs=>xs.length<=sizeLine/\∃ (its:List Value) (n:Nat),Vals xs its/\h.get? a=some { cls:=.type "list",data:=.seq its.toArray n }
 | .tup xs=>xs.length<=sizeLine/\∃ its:List Value,Vals xs its/\IsTup h a its.toArray
 | .dK kvs=>kvs.length<=sizeLine/\(a == sysModules)=false/\∃ vs,KV kvs vs/\h.DictOf (Yl P w) a vs
 | .dT kvs=>kvs.length<=sizeLine/\(a == sysModules)=false/\∃ xs:List (List Key × Addr × Value),
   Paired (fun (p:List Key × V) (q:List Key × Addr × Value)=>p.1=q.1/\H q.2.1=some (.tup (p.1.map kV))/\RelV p.2 q.2.2) kvs xs /\
   ∃ o es ep,h.get? a=some o/\o.ExactDict/\o.data=.dict es ep/\es.toList=xs.map (entryOfKey (tupleKind (Yl P w)))/\(xs.map (·.1)).Nodup
 | .set S n=>h.SetOf (intKind P w) a S n
 | .ins C dx fs=>H dx=some (.own a)/\fs.length<=1000/\dx ≠ a/\h.get? a=some (PySem.W.instObj C dx) /\
   ∃ mA,h.Ns1 dx mA/\(∀ f,RelO (fs.lookup f) (mA f))/\PySem.Within mA (fs.map (·.1))
 | .own _=>∃ o,h.get? a=some o
 | .xd fs=>∃ mA,h.Ns1 a mA/\∀ f,RelO (fs.lookup f) (mA f)
 | .rng lo hi=>∃ t u v,h.get? a=some { cls:=.type "range",data:=.fields #[.int lo t,.int hi u,.int 1 v] }
 | .frz o u=>h.get? a=some o/\ObjOk H h a u
 | .tbl ps=>h.get? a=some { cls:=.none,data:=.fields ps }
 | .met f x=>h.get? a=some (PySem.W.methodObj (.ref f) (.ref x))
 | .ext φ=>φ h/\(∃ o,h.get? a=some o)/\∀ h1 h2:Heap,φ h1->(∀ o,h1.get? a=some o->h2.get? a=some o)->φ h2
def HOk (H:Hp) (h:Heap):Prop:=∀ a o,H a=some o->ObjOk P w H h a o
end
section
variable {P:Program} {w:World} {H H':Hp} {h h':Heap} {a:Addr} {o:HO}
theorem ObjOk.lt (x:ObjOk P w H h a o):a < h.objs.size:=by
 cases o with
 | lst xs=>obtain ⟨_,_,_,_,e⟩:=x;exact kX e
 | tup xs=>obtain ⟨_,_,_,p⟩:=x;exact p.lt
 | dK kvs=>obtain ⟨_,_,_,_,o,_,_,e,_⟩:=x;exact kX e
 | dT kvs=>obtain ⟨_,_,_,_,o,_,_,e,_⟩:=x;exact kX e
 | set S n=>obtain ⟨o,_,_,_,e,_⟩:=x;exact kX e
 | ins C dx fs=>obtain ⟨_,_,_,e,_⟩:=x;exact kX e
 | own y=>obtain ⟨_,e⟩:=x;exact kX e
 | xd fs=>obtain ⟨_,⟨_,_,_,e,_⟩,_⟩:=x;exact kX e
 | rng lo hi=>obtain ⟨_,_,_,e⟩:=x;exact kX e
 | frz ob u=>obtain ⟨e,_⟩:=x;exact kX e
 | tbl ps=>exact kX (show h.get? a=some _ from x)
 | met f y=>exact kX (show h.get? a=some _ from x)
 | ext φ=>obtain ⟨_,⟨_,e⟩,_⟩:=x;exact kX e
theorem Paired.mapP {α β:Type} {F G:α->β->Prop} {l₁:List α} {l₂:List β} (h:Paired F l₁ l₂) (f:∀ a b,F a b->G a b):Paired G l₁ l₂:=by
 induction h with
 | nil=>exact .nil
 | cons r t ih=>exact .cons (f _ _ r) ih
theorem ObjOk.stay (x:ObjOk P w H h a o) (k:∀ b u,(b=a\/H b=some (.own a))->h.get? b=some u->h'.get? b=some u)
  (ho:∀ b,H b=some (.own a)->H' b=some (.own a)) (ht:∀ b xs,H b=some (.tup xs)->H' b=some (.tup xs)):ObjOk P w H' h' a o:=by
 induction o with
 | lst xs=>obtain ⟨z,its,n,r,e⟩:=x;exact ⟨z,its,n,r,k _ _ (.inl rfl) e⟩
 | tup xs=>obtain ⟨z,its,r,ob,e,c⟩:=x;exact ⟨z,its,r,ob,k _ _ (.inl rfl) e,c⟩
 | dK kvs=>obtain ⟨z,y,vs,r,ob,es,ep,e,c⟩:=x;exact ⟨z,y,vs,r,ob,es,ep,k _ _ (.inl rfl) e,c⟩
 | dT kvs =>
  obtain ⟨z,y,xs,r,ob,es,ep,e,c⟩:=x
  exact ⟨z,y,xs,Paired.mapP r fun p q z=>⟨z.1,ht _ _ z.2.1,z.2.2⟩,ob,es,ep,k _ _ (.inl rfl) e,c⟩
 | set S n=>obtain ⟨ob,es,ep,t,e,c⟩:=x;exact ⟨ob,es,ep,t,k _ _ (.inl rfl) e,c⟩
 | ins C dx fs =>
  obtain ⟨d,z,ne,e,mA,⟨od,es,ep,e2,c⟩,r⟩:=x
  exact ⟨ho _ d,z,ne,k _ _ (.inl rfl) e,mA,⟨od,es,ep,k _ _ (.inr d) e2,c⟩,r⟩
 | own y=>obtain ⟨ob,e⟩:=x;exact ⟨ob,k _ _ (.inl rfl) e⟩
 | xd fs=>obtain ⟨mA,⟨od,es,ep,e,c⟩,r⟩:=x;exact ⟨mA,⟨od,es,ep,k _ _ (.inl rfl) e,c⟩,r⟩
 | rng lo hi=>obtain ⟨t,u,v,e⟩:=x;exact ⟨t,u,v,k _ _ (.inl rfl) e⟩
 | frz ob u ih=>obtain ⟨e,q⟩:=x;exact ⟨k _ _ (.inl rfl) e,ih q⟩
 | tbl ps =>
  have e:h.get? a=some { cls:=.none,data:=.fields ps }:=x
  show h'.get? a=some { cls:=.none,data:=.fields ps }
  exact k a _ (.inl rfl) e
 | met f y =>
  have e:h.get? a=some (PySem.W.methodObj (.ref f) (.ref y)):=x
  show h'.get? a=some (PySem.W.methodObj (.ref f) (.ref y))
  exact k a _ (.inl rfl) e
 | ext φ=>obtain ⟨p,⟨o,e⟩,st⟩:=x;exact ⟨st _ _ p fun o q=>k _ _ (.inl rfl) q,⟨o,k _ _ (.inl rfl) e⟩,st⟩
theorem HOk.lt (x:HOk P w H h) (e:H a=some o):a < h.objs.size:=(x a o e).lt
theorem HOk.fresh (x:HOk P w H h) (e:h.objs.size<=a):H a=none:=by
 cases q:H a with
 | none=>rfl
 | some u=>exact absurd (zX (x.lt q) e) (jQc _)
theorem HOk.kept (x:HOk P w H h) (k:∀ b u,h.get? b=some u->h'.get? b=some u):HOk P w H h':=fun a o e =>
 (x a o e).stay (fun b u _ q=>k b u q) (fun _ q=>q) fun _ _ q=>q
theorem HOk.laid (x:HOk P w H h) (k:∀ b u,h.get? b=some u->h'.get? b=some u) (hp:h.objs.size<=a) (new:ObjOk P w (upd H a o) h' a o):HOk P w (upd H a o) h':=fun b u e=>by
 have hn:=x.fresh hp
 by_cases hb:b=a
 ·subst hb;rw [Qd] at e;cases e;exact new
 ·rw [Ql hb] at e
  exact (x b u e).stay (fun c v _ q=>k c v q) (fun c q=>by rw [Ql (Qq q hn)];exact q) fun c xs q=>by rw [Ql (Qq q hn)];exact q
end
def Rd (H:Hp) (a:Addr) (u:HO):Prop:=H a=some u\/∃ o,H a=some (.frz o u)
theorem Rd.ok {P:Program} {w:World} {H:Hp} {h:Heap} {a:Addr} {u:HO} (r:Rd H a u) (x:HOk P w H h):ObjOk P w H h a u:=by
 rcases r with r | ⟨o,r⟩
 ·exact x a u r
 ·obtain ⟨_,q⟩:=x a _ r
  exact q
def Mut:Option HO->Prop
 | some (.lst _)=>True
 | some (.dK _)=>True
 | some (.dT _)=>True
 | some (.set _ _)=>True
 | some (.ins _ _ _)=>True
 | some (.ext _)=>True
 | _=>False
section
variable {P:Program} {w:World} {H:Hp} {h h':Heap} {x e:Addr} {o':HO}
theorem HOk.write (ok:HOk P w H h) (mu:Mut (H x)) (he:e=x\/H e=some (.own x)) (k:∀ b u,b ≠ e->h.get? b=some u->h'.get? b=some u) (heo:∃ u,h'.get? e=some u)
  (new:ObjOk P w (upd H x o') h' x o'):HOk P w (upd H x o') h':=fun b u q=>by
 have nown:∀ c y,H c=some (.own y)->c ≠ x:=fun c y r z=>by subst z;rw [r] at mu;exact mu
 have ntup:∀ c xs,H c=some (.tup xs)->c ≠ x:=fun c xs r z=>by subst z;rw [r] at mu;exact mu
 by_cases hb:b=x
 ·subst hb;rw [Qd] at q;cases q;exact new
 ·rw [Ql hb] at q
  by_cases hbe:b=e
  ·have q':H b=some (.own x):=by
    rcases he with z | z
    ·exact absurd (hbe.trans z) hb
    ·rw [hbe];exact z
   rw [q] at q';cases q'
   obtain ⟨v,hv⟩:=heo
   exact ⟨v,by rw [hbe];exact hv⟩
  ·refine (ok b u q).stay (fun c v hc r=>k c v ?_ r) (fun c r=>by rw [Ql (nown c b r)];exact r) fun c xs r=>by rw [Ql (ntup c xs r)];exact r
   rcases hc with rfl | hc
   ·exact hbe
   ·rintro rfl
    rcases he with z | z
    ·exact nown c b hc z
    ·rw [hc] at z;cases z;exact hb rfl
end
structure Un (fs ex:List Addr) (H H':Hp) (h h':Heap):Prop where
 keep:∀ b o,h.get? b=some o->H b=none->b ∉ fs->b ∉ ex->h'.get? b=some o
 slot:∀ b o,h.get? b=some o->H b=none->b ∈ fs->b ∉ ex->∃ sl,h'.get? b=some { o with slots:=sl }
 free:∀ b o,h.get? b=some o->H b=none->b ∉ ex->H' b=none
 there:∀ b o,h.get? b=some o->b ∉ ex->∃ o',h'.get? b=some o'
 tups:∀ b xs,H b=some (.tup xs)->H' b=some (.tup xs)
 frzs:∀ b o u,H b=some (.frz o u)->H' b=some (.frz o u)
 tbls:∀ b ps,H b=some (.tbl ps)->∃ more,H' b=some (.tbl (ps ++ more))
section
variable {fs ex:List Addr} {H H1:Hp} {h h1 h':Heap} {a x e:Addr} {o:HO}
theorem Un.any (u:Un fs ex H H1 h h1) {b:Addr} {ob:Obj} (q:h.get? b=some ob) (n:H b=none) (hx:b ∉ ex):∃ sl,h1.get? b=some { ob with slots:=sl }:=by
 by_cases hb:b ∈ fs
 ·exact u.slot b ob q n hb hx
 ·exact ⟨ob.slots,u.keep b ob q n hb hx⟩
theorem Un.kept (k:∀ b u,h.get? b=some u->h'.get? b=some u):Un fs ex H H h h' :=
 ⟨fun b ob q _ _ _=>k b ob q,fun b ob q _ _ _=>⟨ob.slots,k b ob q⟩,fun _ _ _ n _=>n,fun b ob q _=>⟨ob,k b ob q⟩,fun _ _ q=>q,fun _ _ _ q=>q,fun _ ps q=>⟨#[],by rw [q];simp⟩⟩
theorem Un.refl:Un fs ex H H h h:=Un.kept fun _ _ q=>q
theorem Un.laid (k:∀ b u,h.get? b=some u->h'.get? b=some u) (hp:h.objs.size<=a) (hn:H a=none):Un fs ex H (upd H a o) h h' where
 keep:=fun b u q _ _ _=>k b u q
 slot:=fun b u q _ _ _=>⟨u.slots,k b u q⟩
 free:=fun b u q n _=>by rw [Ql (yJ (zX (kX q) hp))];exact n
 there:=fun b u q _=>⟨u,k b u q⟩
 tups:=fun b xs q=>by rw [Ql (Qq q hn)];exact q
 frzs:=fun b u xs q=>by rw [Ql (Qq q hn)];exact q
 tbls:=fun b ps q=>⟨#[],by rw [Ql (Qq q hn),q];simp⟩
theorem Un.write (mu:Mut (H x)) (he:e=x\/H e=some (.own x)) (k:∀ b u,b ≠ e->h.get? b=some u->h'.get? b=some u) (heo:∃ u,h'.get? e=some u):Un fs ex H (upd H x o) h h':=by
 have hx:∀ b,H b=none->b ≠ x:=fun b n z=>by subst z;rw [n] at mu;exact mu
 have hb:∀ b,H b=none->b ≠ e:=fun b n z=>by
  subst z
  rcases he with r | r
  ·exact hx b n r
  ·rw [n] at r;cases r
 have hm:∀ b u,H b=some u->¬ Mut (some u)->b ≠ x:=fun b u q nm z=>by subst z;rw [q] at mu;exact nm mu
 refine ⟨fun b u q n _ _=>k b u (hb b n) q,fun b u q n _ _=>⟨u.slots,k b u (hb b n) q⟩,fun b u q n _=>by rw [Ql (hx b n)];exact n,fun b u q _=>?_,
  fun b xs q=>by rw [Ql (hm b _ q fun z=>z)];exact q,fun b u xs q=>by rw [Ql (hm b _ q fun z=>z)];exact q,fun b ps q=>⟨#[],by rw [Ql (hm b _ q fun z=>z),q];simp⟩⟩
 by_cases hbe:b=e
 ·subst hbe;exact heo
 ·exact ⟨u,k b u hbe q⟩
end
def trk (h:Heap) (H:Hp):List Addr:=(List.range h.objs.size).filter fun a=>(H a).isSome
def hidT (h:Heap) (H:Hp):Heap:=PySem.W.hideAll h (trk h H)
theorem Qgu (h:Heap) (H:Hp):(hidT h H).objs.size=h.objs.size:=PySem.W.hideAll_size _ _
theorem Qjw {h:Heap} {H:Hp} {b:Addr} {o:Obj} (e:h.get? b=some o) (n:H b=none):(hidT h H).get? b=some o :=
 PySem.W.hideAll_get _ e fun hm=>by
  have q:(H b).isSome=true:=(kQd.mp hm).2
  rw [n] at q;simp at q
theorem Qnc {h:Heap} {H:Hp} {b:Addr} {o:Obj} (e:(hidT h H).get? b=some o):h.get? b=some o/\H b=none:=by
 have e':h.get? b=some o:=PySem.W.of_hideAll (trk h H) e
 refine ⟨e',?_⟩
 cases q:H b with
 | none=>rfl
 | some x =>
  have hm:b ∈ trk h H:=kQd.mpr ⟨jKb.mpr (kX e'),by simp [q]⟩
  have z:(hidT h H).get? b=none:=PySem.W.hideAll_none (trk h H) hm
  rw [z] at e;cases e
structure Mod (K:Fg) (mg:Str->Option Value) (base:Heap):Prop where
 kin:K.In base
 glob:base.Ns mainGlobals mg
 blt:∃ mb,base.Ns builtinsNs mb/\∀ x:Str,x ≠ "__name__"->mb x=bootBuiltins x
 nolimit:base.NoLimit
set_option genInjectivity false in
set_option genInjectivity false in
structure Cx where
 prog:Program
 w:World
 K:Fg
 mg:Str->Option Value
 base:Heap
 A:Around
 N:List Str
 s₀:Shared
 H₀:Hp
 env:Env
 outer:List Env
 stack:List Env
 ex:List Addr
 fn:Str->Bool
 calm:Bool
 pn:List (Addr × Obj)
 xe:Value->Shared->Prop
def frs (l:List Env):List Addr:=l.filterMap (·.frame)
abbrev Cx.fs (X:Cx):List Addr:=frs X.outer
def Vis (sc:Scope) (x:Str):Prop:=sc.names.lookup x=some .local\/sc.names.lookup x=some .cell\/sc.names.lookup x=some .free
def Loc (sc:Scope) (x:Str):Prop:=sc.names.lookup x=some .local\/sc.names.lookup x=some .cell
def Look (env:Env) (h:Heap) (m:Str->Option Value) (x:Str) (u:Value):Prop :=
 (env.kindOf x=some .local/\m x=some u)\/((env.kindOf x=some .cell\/env.kindOf x=some .free)/\∃ c,env.cells.lookup x=some c/\h.IsCell c (some u))
structure Cx.Ok (X:Cx):Prop where
 mod:Mod X.K X.mg X.base
 kind:X.env.scope.kind=.function
 glob:X.env.globals=mainGlobals
 blt:X.env.builtins=builtinsNs
 above:X.s₀.heap.objs.size<=X.env.locals
 inj:∀ x y c,X.env.cells.lookup x=some c->X.env.cells.lookup y=some c->x=y
 has:∀ x,(X.env.kindOf x=some .cell\/X.env.kindOf x=some .free)->∃ c,X.env.cells.lookup x=some c
 cab:∀ x c,X.fn x=true->X.env.cells.lookup x=some c->X.s₀.heap.objs.size<=c
 hd:X.calm=true->X.A.handled=none
 frames:X.A.frames=some X.stack
 stk:X.stack=X.outer\/(X.stack=X.env :: X.outer/\X.env.frame=some X.env.locals)
 exf:∀ b ∈ X.ex,b ≠ X.env.locals/\∀ x c,X.env.cells.lookup x=some c->c ≠ b
 bs:∀ b o,X.base.get? b=some o->X.s₀.heap.get? b=some o/\X.H₀ b=none
 bsz:X.base.objs.size<=X.s₀.heap.objs.size
 noex:∀ b o,X.base.get? b=some o->b ∉ X.ex
 exfs:∀ b ∈ X.ex,b ∉ X.fs
 funs:X.s₀.heap.FunFrames X.base X.outer
 frf:∀ b ∈ X.fs,X.H₀ b=none
structure Inv (X:Cx) (pins:List (Addr × Obj)) (σ:List (Option V)) (H:Hp) (s:Shared):Prop where
 ok:X.Ok
 os:s.os=X.s₀.os
 bare:AllBare s.gens
 base:Un X.fs X.ex X.H₀ H X.s₀.heap s.heap
 loc:∃ m,s.heap.Ns X.env.locals m/\∀ (i:Nat) (x:Str) (v:V),X.N[i]?=some x->σ[i]?=some (some v)->Vis X.env.scope x->∃ u,RelV v u/\Look X.env s.heap m x u
 cell:∀ x c,X.env.cells.lookup x=some c->∃ v,s.heap.IsCell c v
 free:H X.env.locals=none
 freeC:∀ x c,X.env.cells.lookup x=some c->H c=none
 pin:∀ p ∈ X.pn ++ pins,s.heap.get? p.1=some p.2/\H p.1=none/\p.1 ≠ X.env.locals/\p.1 ∉ X.fs/\∀ v,p.2.data ≠ .cell v
 hok:HOk X.prog X.w H s.heap
 len:σ.length=X.N.length
section
variable {X:Cx} {pins:List (Addr × Obj)} {σ:List (Option V)} {H H':Hp} {s:Shared} {h':Heap}
theorem Cx.Ok.nofr (ok:X.Ok) {b:Addr} {o:Obj} (e:X.base.get? b=some o):b ∉ X.fs:=fun hb=>by
 have:=(ok.funs.mem hb).1
 rw [e] at this;cases this
theorem Inv.bs (I:Inv X pins σ H s):∀ b o,X.base.get? b=some o->s.heap.get? b=some o/\H b=none:=fun b o e =>
 ⟨I.base.keep b o (I.ok.bs b o e).1 (I.ok.bs b o e).2 (I.ok.nofr e) (I.ok.noex b o e),I.base.free b o (I.ok.bs b o e).1 (I.ok.bs b o e).2 (I.ok.noex b o e)⟩
theorem Inv.bk (I:Inv X pins σ H s):∀ b o,X.base.get? b=some o->s.heap.get? b=some o:=fun b o e=>(I.bs b o e).1
theorem Inv.mod (I:Inv X pins σ H s):Mod X.K X.mg X.base:=I.ok.mod
theorem Inv.kIn (I:Inv X pins σ H s):X.K.In s.heap:=I.ok.mod.kin.keeps I.bk
theorem Inv.lt (I:Inv X pins σ H s):X.env.locals < s.heap.objs.size:=by obtain ⟨_,hn,_⟩:=I.loc;exact hn.lt
theorem Inv.sz (I:Inv X pins σ H s):X.s₀.heap.objs.size<=s.heap.objs.size:=xW I.ok.above (kQc I.lt)
theorem Inv.nofs (I:Inv X pins σ H s) {a:Addr} (h:s.heap.objs.size<=a):a ∉ X.fs:=fun hb=>by
 obtain ⟨_,o,ho,_⟩:=I.ok.funs.mem hb
 exact absurd (zX (kX ho) (xW I.sz h)) (jQc _)
theorem Inv.cne (I:Inv X pins σ H s):∀ x c,X.env.cells.lookup x=some c->c ≠ X.env.locals:=fun x c e z=>by
 obtain ⟨v,o,ho,hd⟩:=I.cell x c e
 obtain ⟨m,⟨o',es,ep,ho',hd',_⟩,_⟩:=I.loc
 rw [z,ho'] at ho;cases ho;rw [hd'] at hd;cases hd
theorem Inv.funs (I:Inv X pins σ H s):s.heap.FunFrames X.base X.outer:=by
 have all:∀ (l:List Env),(∀ b ∈ frs l,b ∈ X.fs)->X.s₀.heap.FunFrames X.base l->s.heap.FunFrames X.base l:=by
  intro l
  induction l with
  | nil=>intro _ _;trivial
  | cons env r ih =>
   intro hs hl
   obtain ⟨hk,⟨L,o,hf,hn,ho,hd⟩,hr⟩:=hl
   have hL:L ∈ X.fs:=hs L (by unfold frs;rw [kXf,hf];exact jX)
   obtain ⟨sl,e⟩:=I.base.slot L o ho (I.ok.frf L hL) hL fun z=>I.ok.exfs L z hL
   exact ⟨hk,⟨L,_,hf,hn,e,hd⟩,ih (fun b hb=>hs b (by unfold frs;rw [kXf,hf];exact jY _ hb)) hr⟩
 exact all X.outer (fun _ hb=>hb) I.ok.funs
theorem Inv.stack (I:Inv X pins σ H s):s.heap.FunFrames X.base X.stack:=by
 rcases I.ok.stk with e | ⟨e,hf⟩
 ·rw [e];exact I.funs
 ·rw [e]
  obtain ⟨m,hn,_⟩:=I.loc
  refine .cons (by rw [I.ok.kind];decide) hf hn ?_ I.funs
  exact kXc (xW I.ok.bsz I.ok.above)
theorem Inv.stkSub (I:Inv X pins σ H s):∀ b ∈ frs X.stack,b ∈ X.env.locals :: X.fs:=fun b hb=>by
 rcases I.ok.stk with e | ⟨e,hf⟩
 ·rw [e] at hb;exact jY _ hb
 ·rw [e] at hb
  unfold frs at hb
  rw [kXf,hf] at hb
  exact hb
theorem Inv.stkFree (I:Inv X pins σ H s):∀ b ∈ frs X.stack,H b=none:=fun b hb=>by
 rcases jJ.mp (I.stkSub b hb) with e | hb
 ·rw [e];exact I.free
 ·obtain ⟨_,o,ho,_⟩:=I.ok.funs.mem hb
  exact I.base.free b o ho (I.ok.frf b hb) fun z=>I.ok.exfs b z hb
theorem Inv.step {g':Array GenState} {t':Nat} {d':Drawn} {ch:List Addr} (I:Inv X pins σ H s)
  (hch:∀ b ∈ ch,(b ∈ X.ex\/X.s₀.heap.objs.size<=b)/\b ≠ X.env.locals/\(∀ x c,X.env.cells.lookup x=some c->c ≠ b)/\∀ p ∈ X.pn ++ pins,p.1 ≠ b)
  (keep:∀ b o,b ≠ X.env.locals->b ∉ X.fs->b ∉ ch->s.heap.get? b=some o->H b=none->h'.get? b=some o)
  (slot:∀ b o,b ≠ X.env.locals->b ∈ X.fs->b ∉ ch->s.heap.get? b=some o->H b=none->∃ sl,h'.get? b=some { o with slots:=sl }) (free:∀ b o,b ∉ ch->s.heap.get? b=some o->H b=none->H' b=none)
  (there:∀ b o,b ∉ ch->s.heap.get? b=some o->∃ o',h'.get? b=some o')
  (tups:∀ b xs,H b=some (.tup xs)->H' b=some (.tup xs)) (frzs:∀ b o u,H b=some (.frz o u)->H' b=some (.frz o u)) (tbls:∀ b ps,H b=some (.tbl ps)->∃ more,H' b=some (.tbl (ps ++ more)))
  (ns:∀ m,s.heap.Ns X.env.locals m->h'.Ns X.env.locals m) (hok:HOk X.prog X.w H' h') (hg:AllBare g') :
  Inv X pins σ H' { s with heap:=h',gens:=g',drawn:=d',toks:=t' }:=by
 have neL:∀ b o,X.s₀.heap.get? b=some o->b ≠ X.env.locals:=fun b o e=>yJ (zX (kX e) I.ok.above)
 have neC:∀ b o,X.s₀.heap.get? b=some o->b ∉ X.ex->b ∉ ch:=fun b o e hx hb=>by
  rcases (hch b hb).1 with z | z
  ·exact hx z
  ·exact absurd (zX (kX e) z) (jQc _)
 have cellK:∀ x c,X.env.cells.lookup x=some c->∀ v,s.heap.IsCell c v->h'.IsCell c v:=fun x c e v ⟨o,ho,hd⟩=>by
  have nch:c ∉ ch:=fun z=>(hch c z).2.2.1 x c e rfl
  by_cases hc:c ∈ X.fs
  ·obtain ⟨sl,q⟩:=slot c o (I.cne x c e) hc nch ho (I.freeC x c e)
   exact ⟨_,q,hd⟩
  ·exact ⟨o,keep c o (I.cne x c e) hc nch ho (I.freeC x c e),hd⟩
 refine ⟨I.ok,I.os,hg,⟨fun b o e n hb hx=>?_,fun b o e n hb hx=>?_,fun b o e n hx=>?_,fun b o e hx=>?_,fun b xs e=>tups b xs (I.base.tups b xs e),fun b o xs e=>frzs b o xs (I.base.frzs b o xs e),fun b ps e=>?_⟩,?_,fun x c e=>?_,?_,fun x c e=>?_,fun p hp=>?_,hok,I.len⟩
 ·exact keep b o (neL b o e) hb (neC b o e hx) (I.base.keep b o e n hb hx) (I.base.free b o e n hx)
 ·obtain ⟨sl,e1⟩:=I.base.slot b o e n hb hx
  obtain ⟨sl',e2⟩:=slot b _ (neL b o e) hb (neC b o e hx) e1 (I.base.free b o e n hx)
  exact ⟨sl',e2⟩
 ·obtain ⟨o',e1⟩:=I.base.there b o e hx
  exact free b o' (neC b o e hx) e1 (I.base.free b o e n hx)
 ·obtain ⟨o',e1⟩:=I.base.there b o e hx
  exact there b o' (neC b o e hx) e1
 ·obtain ⟨m1,e1⟩:=I.base.tbls b ps e
  obtain ⟨m2,e2⟩:=tbls b _ e1
  exact ⟨m1 ++ m2,by rw [e2,Array.append_assoc]⟩
 ·obtain ⟨m,hn,hl⟩:=I.loc
  refine ⟨m,ns m hn,fun i x v e1 e2 e3=>?_⟩
  obtain ⟨u,r,l⟩:=hl i x v e1 e2 e3
  refine ⟨u,r,?_⟩
  rcases l with l | ⟨k,c,e,z⟩
  ·exact .inl l
  ·exact .inr ⟨k,c,e,cellK x c e _ z⟩
 ·obtain ⟨v,z⟩:=I.cell x c e
  exact ⟨v,cellK x c e v z⟩
 ·obtain ⟨m,⟨o,_,_,ho,_⟩,_⟩:=I.loc
  exact free _ o (fun z=>(hch _ z).2.1 rfl) ho I.free
 ·obtain ⟨v,o,ho,hd⟩:=I.cell x c e
  exact free c o (fun z=>(hch c z).2.2.1 x c e rfl) ho (I.freeC x c e)
 ·obtain ⟨e,n,ne,nf,d⟩:=I.pin p hp
  have nch:p.1 ∉ ch:=fun z=>(hch p.1 z).2.2.2 p hp rfl
  exact ⟨keep p.1 p.2 ne nf nch e n,free p.1 p.2 nch e n,ne,nf,d⟩
theorem Inv.un {t':Nat} (I:Inv X pins σ H s) (u:Un X.fs [] H H' s.heap h') (hok:HOk X.prog X.w H' h'):Inv X pins σ H' { s with heap:=h',toks:=t' }:=by
 obtain ⟨m,⟨o,es,ep,ho,r⟩,_⟩:=id I.loc
 obtain ⟨sl,hL⟩:=u.any ho I.free (by simp)
 exact I.step (g':=s.gens) (d':=s.drawn) (ch:=[]) (fun _ z=>nomatch z) (fun b o _ hb _ e n=>u.keep b o e n hb (by simp)) (fun b o _ hb _ e n=>u.slot b o e n hb (by simp)) (fun b o _ e n=>u.free b o e n (by simp)) (fun b o _ e=>u.there b o e (by simp)) u.tups u.frzs u.tbls (fun m' hm=>by
  obtain ⟨o',es',ep',ho',r'⟩:=hm
  rw [ho] at ho';cases ho'
  exact ⟨_,es',ep',hL,r'⟩) hok I.bare
theorem Inv.call {g':Array GenState} {t':Nat} {d':Drawn} {ch:List Addr} (I:Inv X pins σ H s) (u:Un (frs X.stack) ch H H' s.heap h') (hok:HOk X.prog X.w H' h') (hg:AllBare g')
  (hch:∀ b ∈ ch,(b ∈ X.ex\/X.s₀.heap.objs.size<=b)/\b ≠ X.env.locals/\(∀ x c,X.env.cells.lookup x=some c->c ≠ b)/\∀ p ∈ X.pn ++ pins,p.1 ≠ b) :
  Inv X pins σ H' { s with heap:=h',gens:=g',drawn:=d',toks:=t' }:=by
 obtain ⟨m,⟨o,es,ep,ho,r⟩,_⟩:=id I.loc
 obtain ⟨sl,hL⟩:=u.any ho I.free fun z=>(hch _ z).2.1 rfl
 exact I.step (ch:=ch) hch (fun b o hL hb hc e n=>u.keep b o e n (fun z=>(jJ.mp (I.stkSub b z)).elim hL hb) hc) (fun b o _ _ hc e n=>u.any e n hc) (fun b o hc e n=>u.free b o e n hc) (fun b o hc e=>u.there b o e hc) u.tups u.frzs u.tbls (fun m' hm=>by
  obtain ⟨o',es',ep',ho',r'⟩:=hm
  rw [ho] at ho';cases ho'
  exact ⟨_,es',ep',hL,r'⟩) hok hg
theorem Inv.turned {t':Nat} {it:Addr} (I:Inv X pins σ H s) (k:∀ b o,b ≠ it->s.heap.get? b=some o->h'.get? b=some o) (hn:H it=none) (hL:it ≠ X.env.locals)
  (h1:it ∈ X.ex\/X.s₀.heap.objs.size<=it) (h2:∀ x c,X.env.cells.lookup x=some c->c ≠ it) (h3:∀ p ∈ X.pn ++ pins,p.1 ≠ it):Inv X pins σ H { s with heap:=h',toks:=t' }:=by
 have nit:∀ b u,H b=some u->b ≠ it:=fun b u e z=>by rw [z,hn] at e;cases e
 refine I.step (g':=s.gens) (d':=s.drawn) (ch:=[it]) (fun b hb=>?_) (fun b o _ _ hc e _=>k b o (fun z=>hc (by simp [z])) e) (fun b o _ _ hc e _=>⟨o.slots,k b o (fun z=>hc (by simp [z])) e⟩) (fun _ _ _ _ n=>n)
  (fun b o hc e=>⟨o,k b o (fun z=>hc (by simp [z])) e⟩) (fun _ _ e=>e) (fun _ _ _ e=>e) (fun b ps e=>⟨#[],by rw [e];simp⟩) (fun m hm=>?_) (fun b u e=>?_) I.bare
 ·have e:b=it:=by simpa using hb
  subst e
  exact ⟨h1,hL,h2,h3⟩
 ·obtain ⟨o,es,ep,ho,r⟩:=hm
  exact ⟨o,es,ep,k _ o (Ne.symm hL) ho,r⟩
 ·refine (I.hok b u e).stay (fun c v hc q=>k c v ?_ q) (fun _ q=>q) fun _ _ q=>q
  rcases hc with z | z
  ·rw [z];exact nit b u e
  ·exact nit c _ z
theorem Inv.tok (I:Inv X pins σ H s) (t:Nat):Inv X pins σ H { s with toks:=t }:=I.un (h':=s.heap) (t':=t) Un.refl I.hok
theorem Inv.kept {t':Nat} (I:Inv X pins σ H s) (k:∀ b u,s.heap.get? b=some u->h'.get? b=some u):Inv X pins σ H { s with heap:=h',toks:=t' }:=I.un (Un.kept k) (I.hok.kept k)
theorem Inv.laid {a:Addr} {o:HO} {t':Nat} (I:Inv X pins σ H s) (k:∀ b u,s.heap.get? b=some u->h'.get? b=some u) (hp:s.heap.objs.size<=a) (new:ObjOk X.prog X.w (upd H a o) h' a o) :
  Inv X pins σ (upd H a o) { s with heap:=h',toks:=t' }:=I.un (Un.laid k hp (I.hok.fresh hp)) (I.hok.laid k hp new)
theorem Inv.write {x e:Addr} {o:HO} {t':Nat} (I:Inv X pins σ H s) (mu:Mut (H x)) (he:e=x\/H e=some (.own x)) (k:∀ b u,b ≠ e->s.heap.get? b=some u->h'.get? b=some u) (heo:∃ u,h'.get? e=some u)
  (new:ObjOk X.prog X.w (upd H x o) h' x o):Inv X pins σ (upd H x o) { s with heap:=h',toks:=t' }:=I.un (Un.write mu he k heo) (I.hok.write mu he k heo new)
theorem Inv.pins_of {pins':List (Addr × Obj)} (I:Inv X pins σ H s) (h:∀ p ∈ pins',s.heap.get? p.1=some p.2/\H p.1=none/\p.1 ≠ X.env.locals/\p.1 ∉ X.fs/\∀ v,p.2.data ≠ .cell v):Inv X pins' σ H s :=
 ⟨I.ok,I.os,I.bare,I.base,I.loc,I.cell,I.free,I.freeC,fun p hp=>(yQ.mp hp).elim (fun z=>I.pin p (jXd _ z)) (h p),I.hok,I.len⟩
theorem Qan {N:List Str} (hN:N.Nodup) {i j:Nat} {x:Str} (a:N[i]?=some x) (b:N[j]?=some x):i=j:=by
 obtain ⟨h1,e1⟩:=kZ.mp a
 obtain ⟨h2,e2⟩:=kZ.mp b
 exact (List.getElem_inj hN).mp (e1.trans e2.symm)
theorem Qbx {M:Model} {A:Around} {E:Value->Shared->Prop} {i:Nat} {x:Str} {v:V} {u:Value} {Q:Unit->Shared->Prop} (I:Inv X pins σ H s) (hN:X.N.Nodup) (hi:X.N[i]?=some x) (hx:Loc X.env.scope x) (r:RelV v u)
  (h:∀ s',Inv X pins (σ.set i (some v)) H s'->(∃ a,Heap.SameBut a s.heap s'.heap/\(a=X.env.locals\/X.env.cells.lookup x=some a))->Q () s') (hf:autoParam (X.fn x=true\/X.env.scope.names.lookup x=some .local) L2.aFst._auto_1):wpAny M A (storeName X.env x u) Q E s:=by
 obtain ⟨m,hn,hl⟩:=id I.loc
 have hcls:(X.env.scope.kind == .class || (X.env.scope.kind == .module && X.env.locals != X.env.globals))=false:=by rw [I.ok.kind];rfl
 have hiσ:i < σ.length:=by rw [I.len];exact (kZ.mp hi).1
 have cne:=I.cne
 have tracked:∀ {a:Addr} {h':Heap},(∃ o,s.heap.get? a=some o/\H a=none)->Heap.SameBut a s.heap h'->HOk X.prog X.w H h':=fun {a h'} ha hs b ob e=>by
  obtain ⟨_,_,hfree⟩:=ha
  refine (I.hok b ob e).stay (fun c w' hc q=>(hs.2 c ?_).trans q) (fun _ q=>q) fun _ _ q=>q
  rintro rfl
  rcases hc with rfl | hc
  ·rw [hfree] at e;cases e
  ·rw [hfree] at hc;cases hc
 rcases hx with hk | hk
 ·refine wpAny_storeName_local hk hn (fun h' hn' hs=>?_) hcls
  obtain ⟨oL,_,_,hoL,_⟩:=id hn
  refine h _ ⟨I.ok,I.os,I.bare,⟨fun b o e n hb hx=>?_,fun b o e n hb hx=>?_,I.base.free,fun b o e hx=>?_,I.base.tups,I.base.frzs,I.base.tbls⟩,⟨_,hn',fun j y v' e1 e2 e3=>?_⟩,fun y c e=>?_,I.free,I.freeC,fun p hp=>?_,tracked ⟨oL,hoL,I.free⟩ hs,by simpa using I.len⟩ ⟨_,hs,.inl rfl⟩
  ·exact (hs.2 b (yJ (zX (kX e) I.ok.above))).trans (I.base.keep b o e n hb hx)
  ·obtain ⟨sl,e1⟩:=I.base.slot b o e n hb hx
   exact ⟨sl,(hs.2 b (yJ (zX (kX e) I.ok.above))).trans e1⟩
  ·obtain ⟨o',e1⟩:=I.base.there b o e hx
   exact ⟨o',(hs.2 b (yJ (zX (kX e) I.ok.above))).trans e1⟩
  ·by_cases hj:j=i
   ·subst hj
    rw [hi] at e1;cases e1
    rw [wQ hiσ] at e2
    cases e2
    exact ⟨u,r,.inl ⟨hk,by simp⟩⟩
   ·rw [kXd (Ne.symm hj)] at e2
    obtain ⟨u',r',q⟩:=hl j y v' e1 e2 e3
    refine ⟨u',r',?_⟩
    rcases q with ⟨k,e⟩ | ⟨k,c,e,z⟩
    ·refine .inl ⟨k,?_⟩
     have:y ≠ x:=fun e=>hj (Qan hN e1 (e ▸ hi))
     simp [this,e]
    ·exact .inr ⟨k,c,e,z.sameBut hs (cne y c e)⟩
  ·obtain ⟨w',z⟩:=I.cell y c e
   exact ⟨w',z.sameBut hs (cne y c e)⟩
  ·obtain ⟨e,n,ne,nf,d⟩:=I.pin p hp
   exact ⟨(hs.2 p.1 ne).trans e,n,ne,nf,d⟩
 ·have hfn:X.fn x=true:=by
   rcases hf with z | z
   ·exact z
   ·rw [z] at hk;cases hk
  obtain ⟨c,hc⟩:=I.ok.has x (.inl hk)
  obtain ⟨w',z⟩:=I.cell x c hc
  refine wpAny_storeName_cell I.ok.kind hk hc z (fun h' hc' hs=>?_)
  obtain ⟨oc,hoc,hocd⟩:=id z
  refine h { s with heap:=h' } ⟨I.ok,I.os,I.bare,⟨fun b o e n hb hx=>?_,fun b o e n hb hx=>?_,I.base.free,fun b o e hx=>?_,I.base.tups,I.base.frzs,I.base.tbls⟩,⟨m,hn.sameBut hs (Ne.symm (cne x c hc)),fun j y v' e1 e2 e3=>?_⟩,fun y c' e=>?_,I.free,I.freeC,fun p hp=>?_,tracked ⟨oc,hoc,I.freeC x c hc⟩ hs,by simpa using I.len⟩ ⟨c,hs,.inr hc⟩
  ·exact (hs.2 b (yJ (zX (kX e) (I.ok.cab x c hfn hc)))).trans (I.base.keep b o e n hb hx)
  ·obtain ⟨sl,e1⟩:=I.base.slot b o e n hb hx
   exact ⟨sl,(hs.2 b (yJ (zX (kX e) (I.ok.cab x c hfn hc)))).trans e1⟩
  ·obtain ⟨o',e1⟩:=I.base.there b o e hx
   exact ⟨o',(hs.2 b (yJ (zX (kX e) (I.ok.cab x c hfn hc)))).trans e1⟩
  ·by_cases hj:j=i
   ·subst hj
    rw [hi] at e1;cases e1
    rw [wQ hiσ] at e2
    cases e2
    exact ⟨u,r,.inr ⟨.inl hk,c,hc,hc'⟩⟩
   ·rw [kXd (Ne.symm hj)] at e2
    obtain ⟨u',r',q⟩:=hl j y v' e1 e2 e3
    refine ⟨u',r',?_⟩
    rcases q with q | ⟨k,c',e,z'⟩
    ·exact .inl q
    ·refine .inr ⟨k,c',e,z'.sameBut hs ?_⟩
     rintro rfl
     exact hj (Qan hN e1 (I.ok.inj _ _ _ e hc ▸ hi))
  ·by_cases hcc:c'=c
   ·subst hcc;exact ⟨_,hc'⟩
   ·obtain ⟨w2,z2⟩:=I.cell y c' e
    exact ⟨w2,z2.sameBut hs hcc⟩
  ·obtain ⟨e,n,ne,nf,d⟩:=I.pin p hp
   refine ⟨(hs.2 p.1 ?_).trans e,n,ne,nf,d⟩
   intro q
   rw [q,hoc] at e
   have q':oc=p.2:=Option.some.inj e
   exact d w' (by rw [← q'];exact hocd)
theorem Zf {M:Model} {A:Around} {E:Value->Shared->Prop} {i:Nat} {x:Str} {v:V} {u:Value} {Q:Unit->Shared->Prop} (I:Inv X pins σ H s) (hN:X.N.Nodup) (hi:X.N[i]?=some x) (hx:Loc X.env.scope x) (r:RelV v u)
  (h:∀ s',Inv X pins (σ.set i (some v)) H s'->Q () s') (hf:autoParam (X.fn x=true\/X.env.scope.names.lookup x=some .local) L2.aFst._auto_1):wpAny M A (storeName X.env x u) Q E s :=
 Qbx I hN hi hx r (fun s' I' _=>h s' I') hf
theorem Inv.call' {s':Shared} {ch:List Addr} (I:Inv X pins σ H s) (ho:s'.os=s.os) (u:Un (frs X.stack) ch H H' s.heap s'.heap) (hok:HOk X.prog X.w H' s'.heap) (hg:AllBare s'.gens)
  (hch:∀ b ∈ ch,(b ∈ X.ex\/X.s₀.heap.objs.size<=b)/\b ≠ X.env.locals/\(∀ x c,X.env.cells.lookup x=some c->c ≠ b)/\∀ p ∈ X.pn ++ pins,p.1 ≠ b):Inv X pins σ H' s':=by
 obtain ⟨h',g',d',t',o'⟩:=s'
 have e:o'=s.os:=ho
 subst e
 exact I.call (g':=g') (t':=t') (d':=d') u hok hg hch
end
abbrev XK:=Value->Option Addr->Hp->Prop
abbrev St:=List (Option V)
abbrev VK:=V->Hp->Prop
abbrev TE:=St->Hp->VK->Prop
abbrev TT:=St->Hp->(Bool->Hp->Prop)->Prop
abbrev TA:=St->Hp->(List V->Hp->Prop)->Prop
set_option genInjectivity false in
set_option genInjectivity false in
structure Ends where
 nx:St->Hp->Prop
 rt:VK
 bk:St->Hp->Prop:=fun _ _=>False
 ct:St->Hp->Prop:=fun _ _=>False
abbrev TS:=Ends->St->Hp->Prop
def EP (X:Cx) (pins:List (Addr × Obj)) (σ:St) (Q:VK) (u:Value) (s':Shared):Prop:=∃ v H',Inv X pins σ H' s'/\RelV v u/\Q v H'
def TP (X:Cx) (pins:List (Addr × Obj)) (σ:St) (Q:Bool->Hp->Prop) (b:Bool) (s':Shared):Prop:=∃ H',Inv X pins σ H' s'/\Q b H'
def AP (X:Cx) (pins:List (Addr × Obj)) (σ:St) (Q:List V->Hp->Prop) (us:List Value) (s':Shared):Prop:=∃ vs H',Inv X pins σ H' s'/\Vals vs us/\Q vs H'
def SP (X:Cx) (pins:List (Addr × Obj)) (D:Ends) (f:Flow) (s':Shared):Prop :=
 match f with
 | .next=>∃ σ' H',Inv X pins σ' H' s'/\D.nx σ' H'
 | .brk=>∃ σ' H',Inv X pins σ' H' s'/\D.bk σ' H'
 | .cont=>∃ σ' H',Inv X pins σ' H' s'/\D.ct σ' H'
 | .ret u=>∃ v σ' H',Inv X pins σ' H' s'/\RelV v u/\D.rt v H'
def PE (X:Cx) (e:Expr) (t:TE):Prop :=
 ∀ (pins:List (Addr × Obj)) (s:Shared) (σ:St) (H:Hp) (Q:VK),Inv X pins σ H s->t σ H Q->wpAny (model X.prog X.w) X.A (eval e X.env) (EP X pins σ Q) X.xe s
def PT (X:Cx) (e:Expr) (t:TT):Prop :=
 ∀ (pins:List (Addr × Obj)) (s:Shared) (σ:St) (H:Hp) (Q:Bool->Hp->Prop),Inv X pins σ H s->t σ H Q->wpAny (model X.prog X.w) X.A (isTrue e X.env (eval e X.env)) (TP X pins σ Q) X.xe s
def PW (X:Cx) (e:Expr) (t:TT):Prop :=
 ∀ (whole:Sem Value) (pins:List (Addr × Obj)) (s:Shared) (σ:St) (H:Hp) (Q:Bool->Hp->Prop),Inv X pins σ H s->t σ H Q->wpAny (model X.prog X.w) X.A (isTrue e X.env whole) (TP X pins σ Q) X.xe s
theorem PW.pt {X:Cx} {e:Expr} {t:TT} (h:PW X e t):PT X e t:=h _
def PA (X:Cx) (es:List Expr) (t:TA):Prop :=
 ∀ (pos:Pos) (pins:List (Addr × Obj)) (s:Shared) (σ:St) (H:Hp) (Q:List V->Hp->Prop),Inv X pins σ H s->t σ H Q->wpAny (model X.prog X.w) X.A (spliced (backTo pos (starEach es X.env))) (AP X pins σ Q) X.xe s
def PS (X:Cx) (st:Stmt) (t:TS):Prop :=
 ∀ (pins:List (Addr × Obj)) (s:Shared) (σ:St) (H:Hp) (D:Ends),Inv X pins σ H s->t D σ H->wpAny (model X.prog X.w) X.A (exec st X.env) (SP X pins D) X.xe s
def PSs (X:Cx) (st:List Stmt) (t:TS):Prop :=
 ∀ (pins:List (Addr × Obj)) (s:Shared) (σ:St) (H:Hp) (D:Ends),Inv X pins σ H s->t D σ H->wpAny (model X.prog X.w) X.A (execs st X.env) (SP X pins D) X.xe s
theorem thn {α:Type} {t:Sem α} {Q Q':α->Shared->Prop} {M:Model} {A:Around} {E:Value->Shared->Prop} {s:Shared} (h:wpAny M A t Q E s) (hQ:∀ a s,Q a s->Q' a s):wpAny M A t Q' E s:=wpAny_mono h hQ fun _ _ x=>x
section
variable {X:Cx}
def tVar (i:Nat):TE:=fun σ H Q=>∃ v,σ[i]?=some (some v)/\Q v H
def tC (v:V):TE:=fun _ H Q=>Q v H
theorem Qeg {i:Nat} {x:Str} {pos:Pos} (hN:X.N[i]?=some x) (hv:Vis X.env.scope x) (hd:autoParam ((x == ("__debug__":Str))=false) L2.aDec._auto_1) (hcd:autoParam ((x == ("__classdict__":Str))=false) L2.aDec._auto_1):PE X (.Name x pos) (tVar i):=by
 intro pins s σ H Q I h
 obtain ⟨v,e,h⟩:=h
 obtain ⟨m,hn,hl⟩:=I.loc
 obtain ⟨u,r,l⟩:=hl i x v hN e hv
 have fin:EP X pins σ Q u s:=⟨v,H,I,r,h⟩
 rcases l with ⟨hk,hm⟩ | ⟨hk,c,hc,hcell⟩
 ·exact wpAny_Name (wpAny_loadName_local I.ok.kind hk hn hm fin) hd
 ·rcases hk with hk | hk
  ·exact wpAny_Name (wpAny_loadName_cell I.ok.kind hk hc hcell fin) hd
  ·exact wpAny_Name (wpAny_loadName_free I.ok.kind hk hc hcell fin hcd) hd
theorem Qb {i j pos}:PE X (.Constant (.int i) j pos) (tC (.int i)):=fun _ _ _ H _ I h=>wpAny_Constant_int ⟨.int i,H,I.tok _,⟨_,rfl⟩,h⟩
theorem Jr {b j pos}:PE X (.Constant (.bool b) j pos) (tC (.bl b)):=fun _ _ _ H _ I h=>Constant_bool ⟨.bl b,H,I,rfl,h⟩
theorem Zy {j pos}:PE X (.Constant .none j pos) (tC .non):=fun _ _ _ H _ I h=>Constant_none ⟨.non,H,I,rfl,h⟩
theorem Qx {x j pos}:PE X (.Constant (.str x) j pos) (tC (.str x)):=fun _ _ _ H _ I h=>Calls.Constant_str ⟨.str x,H,I.tok _,⟨_,rfl⟩,h⟩
def Gl (X:Cx) (x:Str):Prop:=X.env.kindOf x=some .globalImplicit
theorem Zi {E:Value->Shared->Prop} {pins:List (Addr × Obj)} {s:Shared} {σ:St} {H:Hp} {x:Str} {u:Value} {pos:Pos} {Q:Value->Shared->Prop} (I:Inv X pins σ H s) (hg:Gl X x) (hm:X.mg x=some u) (h:Q u s)
  (hd:autoParam ((x == ("__debug__":Str))=false) L2.aDec._auto_1):wpAny (model X.prog X.w) X.A (eval (.Name x pos) X.env) Q E s :=
 Calls.Name_function_global I.ok.kind hg (Calls.loadGlobal_global (by rw [I.ok.glob];exact I.mod.glob.keeps I.bk) hm h) hd
theorem Vk {E:Value->Shared->Prop} {pins:List (Addr × Obj)} {s:Shared} {σ:St} {H:Hp} {x:Str} {u:Value} {pos:Pos} {Q:Value->Shared->Prop} (I:Inv X pins σ H s) (hg:Gl X x) (hm:X.mg x=none) (hv:bootBuiltins x=some u) (h:Q u s)
  (hn:autoParam (x ≠ "__name__") L2.aDec._auto_1) (hd:autoParam ((x == ("__debug__":Str))=false) L2.aDec._auto_1):wpAny (model X.prog X.w) X.A (eval (.Name x pos) X.env) Q E s:=by
 obtain ⟨mb,h1,h2⟩:=I.mod.blt
 exact Calls.Name_function_global I.ok.kind hg (Calls.loadGlobal_builtin (by rw [I.ok.glob];exact I.mod.glob.keeps I.bk) hm (by rw [I.ok.blt];exact h1.keeps I.bk) ((h2 x hn).trans hv) h) hd
theorem Zj {x:Str} {v:V} {u:Value} {pos:Pos} (hg:Gl X x) (hm:X.mg x=some u) (r:RelV v u) (hd:autoParam ((x == ("__debug__":Str))=false) L2.aDec._auto_1):PE X (.Name x pos) (tC v) :=
 fun _ _ _ H _ I h=>Zi I hg hm ⟨v,H,I,r,h⟩ hd
theorem Qnd {x:Str} {v:V} {u:Value} {pos:Pos} (hg:Gl X x) (hm:X.mg x=none) (hv:bootBuiltins x=some u) (r:RelV v u) (hn:autoParam (x ≠ "__name__") L2.aDec._auto_1) (hd:autoParam ((x == ("__debug__":Str))=false) L2.aDec._auto_1):PE X (.Name x pos) (tC v) :=
 fun _ _ _ H _ I h=>Vk I hg hm hv ⟨v,H,I,r,h⟩ hn hd
variable {a b:Expr} {ta tb:TE} {pos:Pos}
def PC (X:Cx) (op:CmpOp) (a b:Expr) (t:TE):Prop :=
 ∀ (pins:List (Addr × Obj)) (s:Shared) (σ:St) (H:Hp) (Q:VK),Inv X pins σ H s->t σ H Q ->
  wpAny (model X.prog X.w) X.A (eval a X.env) (fun v s₁=>wpAny (model X.prog X.w) X.A (eval b X.env) (fun u s₂=>wpAny (model X.prog X.w) X.A (compareOp op v u) (EP X pins σ Q) X.xe s₂) X.xe s₁) X.xe s
def tB (t:TE):TT:=fun σ H Q=>t σ H fun x H1=>∃ c,x=.bl c/\Q c H1
theorem pe_cmp {op:CmpOp} {t:TE} (h:PC X op a b t) (h1:behindInMarks op b=false:=by first | exact nobehind _ (by decide) (by decide) | rfl):PE X (.Compare a [op] [b] pos) t:=fun pins s σ H Q I hw=>wpAny_Compare1 (h pins s σ H Q I hw) h1
theorem Qlu {op:CmpOp} {t:TE} (h:PC X op a b t) (h1:behindInMarks op b=false:=by first | exact nobehind _ (by decide) (by decide) | rfl):PT X (.Compare a [op] [b] pos) (tB t):=by
 intro pins s σ H Q I hw
 refine wpAny_isTrue_Compare1 (thn (h pins s σ H _ I hw) fun v s1 h1=>thn h1 fun u s2 h2=>thn h2 fun c s3 hqP=>?_) h1
 obtain ⟨x,H1,I1,r1,q1⟩:=hqP
 obtain ⟨d,rfl,q⟩:=q1
 cases r1
 exact wpAny_truthy_bool ⟨H1,I1,q⟩
theorem Zl {e:Expr} {t:TE} (h:PE X e t) (he:autoParam (∀ whole,isTrue e X.env whole=(do let v ← whole;standAt e.pos;holding [v] (truthy v))) L2.aIrf._auto_1):PT X e (tB t):=by
 intro pins s σ H Q I hw
 refine isTrue_plain (thn (h pins s σ H _ I hw) fun v s1 hqP=>?_) (he _)
 obtain ⟨x,H1,I1,r1,q1⟩:=hqP
 obtain ⟨d,rfl,q⟩:=q1
 cases r1
 exact wpAny_truthy_bool ⟨H1,I1,q⟩
variable {tA tB':TT} {rest:List Expr}
def tAnd (t u:TT):TT:=fun σ H Q=>t σ H fun c H1=>if c=true then u σ H1 Q else Q false H1
def tOr (t u:TT):TT:=fun σ H Q=>t σ H fun c H1=>if c=true then Q true H1 else u σ H1 Q
def tNot (t:TT):TT:=fun σ H Q=>t σ H fun c H1=>Q (!c) H1
theorem Vl (ha:PT X a tA):PW X (.BoolOp .And [a] pos) tA:=by
 intro wh pins s σ H Q I h
 refine isTrue_and (thn (ha pins s σ H Q I h) fun c s1 e=>?_)
 cases c with
 | true=>exact isTrue_and_nil e
 | false=>exact e
theorem Vm (ha:PT X a tA):PW X (.BoolOp .Or [a] pos) tA:=by
 intro wh pins s σ H Q I h
 refine isTrue_or (thn (ha pins s σ H Q I h) fun c s1 e=>?_)
 cases c with
 | false=>exact isTrue_or_nil e
 | true=>exact e
theorem Qby (ha:PT X a tA) (hb:PW X (.BoolOp .And (b :: rest) pos) tB'):PW X (.BoolOp .And (a :: b :: rest) pos) (tAnd tA tB'):=by
 intro wh pins s σ H Q I h
 refine isTrue_and (thn (ha pins s σ H _ I h) fun c s1 hqP=>?_)
 obtain ⟨H1,I1,q1⟩:=hqP
 cases c with
 | true=>exact hb wh pins s1 σ H1 Q I1 q1
 | false=>exact ⟨H1,I1,q1⟩
theorem Wv (ha:PT X a tA) (hb:PW X (.BoolOp .Or (b :: rest) pos) tB'):PW X (.BoolOp .Or (a :: b :: rest) pos) (tOr tA tB'):=by
 intro wh pins s σ H Q I h
 refine isTrue_or (thn (ha pins s σ H _ I h) fun c s1 hqP=>?_)
 obtain ⟨H1,I1,q1⟩:=hqP
 cases c with
 | true=>exact ⟨H1,I1,q1⟩
 | false=>exact hb wh pins s1 σ H1 Q I1 q1
theorem Zx (ha:PT X a tA):PT X (.UnaryOp .Not a pos) (tNot tA):=by
 intro pins s σ H Q I h
 exact isTrue_not (ha pins s σ H (fun c H1=>Q (!c) H1) I h)
def tAndV (ta tb:TE):TE:=fun σ H Q=>ta σ H fun x H1=>∃ c,x=.bl c/\if c=true then tb σ H1 Q else Q (.bl false) H1
def tOrV (ta tb:TE):TE:=fun σ H Q=>ta σ H fun x H1=>∃ c,x=.bl c/\if c=true then Q (.bl true) H1 else tb σ H1 Q
def tNotV (ta:TE):TE:=fun σ H Q=>ta σ H fun x H1=>∃ c,x=.bl c/\Q (.bl (!c)) H1
theorem Kv {op} {t:TE} (h:PE X a t):PE X (.BoolOp op [a] pos) t:=fun pins s σ H Q I hw=>BoolOp_one (h pins s σ H Q I hw)
theorem Vn (ha:PE X a ta) (hb:PE X (.BoolOp .And (b :: rest) pos) tb):PE X (.BoolOp .And (a :: b :: rest) pos) (tAndV ta tb):=by
 intro pins s σ H Q I h
 refine BoolOp_and (thn (ha pins s σ H _ I h) fun v s1 hqP=>?_)
 obtain ⟨x,H1,I1,r1,q1⟩:=hqP
 obtain ⟨c,rfl,q1⟩:=q1
 cases r1
 refine wpAny_truthy_bool ?_
 cases c with
 | true=>exact hb pins s1 σ H1 Q I1 q1
 | false=>exact ⟨.bl false,H1,I1,rfl,q1⟩
theorem pe_or (ha:PE X a ta) (hb:PE X (.BoolOp .Or (b :: rest) pos) tb):PE X (.BoolOp .Or (a :: b :: rest) pos) (tOrV ta tb):=by
 intro pins s σ H Q I h
 refine BoolOp_or (thn (ha pins s σ H _ I h) fun v s1 hqP=>?_)
 obtain ⟨x,H1,I1,r1,q1⟩:=hqP
 obtain ⟨c,rfl,q1⟩:=q1
 cases r1
 refine wpAny_truthy_bool ?_
 cases c with
 | false=>exact hb pins s1 σ H1 Q I1 q1
 | true=>exact ⟨.bl true,H1,I1,rfl,q1⟩
theorem Qlv (ha:PE X a ta):PE X (.UnaryOp .Not a pos) (tNotV ta):=by
 intro pins s σ H Q I h
 refine UnaryOp_ (thn (ha pins s σ H _ I h) fun v s1 hqP=>?_)
 obtain ⟨x,H1,I1,r1,q1⟩:=hqP
 obtain ⟨c,rfl,q1⟩:=q1
 cases r1
 exact not_of (wpAny_truthy_bool ⟨.bl (!c),H1,I1,rfl,q1⟩)
def tIf (t:TT) (ta tb:TE):TE:=fun σ H Q=>t σ H fun c H1=>if c=true then ta σ H1 Q else tb σ H1 Q
theorem Qjx {c:Expr} (hc:PT X c tA) (ha:PE X a ta) (hb:PE X b tb):PE X (.IfExp c a b pos) (tIf tA ta tb):=by
 intro pins s σ H Q I h
 refine wpAny_IfExp (thn (hc pins s σ H _ I h) fun d s1 hqP=>?_)
 obtain ⟨H1,I1,q1⟩:=hqP
 cases d with
 | true=>exact ha pins s1 σ H1 Q I1 q1
 | false=>exact hb pins s1 σ H1 Q I1 q1
end
def SqL (K:Fg) (H:Hp) (a:Addr) (xs:List V):Prop :=
 Rd H a (.lst xs) \/
  ∃ (o:Obj) (its:Array Value) (n:Nat),K.lookup a=some o/\o.cls=.type "list"/\o.dict=none/\o.data=.seq its n/\its.size<=sizeLine/\Vals xs its.toList
def SqT (K:Fg) (H:Hp) (a:Addr) (xs:List V):Prop :=
 Rd H a (.tup xs) \/
  ∃ (o:Obj) (its:Array Value) (n:Nat),K.lookup a=some o/\o.cls=.type "tuple"/\o.data=.seq its n/\its.size<=sizeLine/\Vals xs its.toList
def absV:Value->Option V
 | .none=>some .non
 | .bool b=>some (.bl b)
 | .int i _=>some (.int i)
 | .str x _=>some (.str x)
 | .bytes b _=>some (.byt b)
 | .float b _=>some (.flt b)
 | .ref a=>some (.ref a)
 | .type n=>some (.ty n)
 | _=>none
theorem RelV.abs {x:V} {u:Value} (r:RelV x u):absV u=some x:=by
 cases x with
 | non=>cases r;rfl
 | bl _=>cases r;rfl
 | int _=>obtain ⟨t,rfl⟩:=r;rfl
 | str _=>obtain ⟨t,rfl⟩:=r;rfl
 | byt _=>obtain ⟨t,rfl⟩:=r;rfl
 | flt _=>obtain ⟨t,rfl⟩:=r;rfl
 | ref _=>cases r;rfl
 | ty _=>cases r;rfl
theorem RelV.inj {x y:V} {u:Value} (r:RelV x u) (q:RelV y u):x=y:=Option.some.inj (r.abs.symm.trans q.abs)
theorem Vals.inj {xs ys:List V} {us:List Value} (h:Vals xs us) (g:Vals ys us):xs=ys:=by
 induction h generalizing ys with
 | nil=>cases g;rfl
 | cons r t ih =>
  cases g with
  | cons r' t'=>rw [r.inj r',ih t']
section
variable {X:Cx} {pins:List (Addr × Obj)} {σ:St} {H:Hp} {s:Shared} {a:Addr} {xs ys:List V}
theorem Inv.list (I:Inv X pins σ H s) (h:SqL X.K H a xs):∃ its:List Value,Vals xs its/\PlainL s.heap a its.toArray/\xs.length<=sizeLine:=by
 rcases h with h | ⟨o,its,n,hk,hc,hd,hs,hz,r⟩
 ·obtain ⟨z,its,n,r,e⟩:=h.ok I.hok
  exact ⟨its,r,⟨_,n,e,rfl,rfl,rfl⟩,z⟩
 ·refine ⟨its.toList,r,⟨o,n,I.kIn a o hk,hc,hd,by simpa using hs⟩,?_⟩
  have e:=r.length
  simp only [jQf] at e
  lia
theorem Inv.tuple (I:Inv X pins σ H s) (h:SqT X.K H a xs):∃ its:List Value,Vals xs its/\IsTup s.heap a its.toArray/\xs.length<=sizeLine:=by
 rcases h with h | ⟨o,its,n,hk,hc,hs,hz,r⟩
 ·obtain ⟨z,its,r,p⟩:=h.ok I.hok
  exact ⟨its,r,p,z⟩
 ·refine ⟨its.toList,r,⟨o,I.kIn a o hk,hc,n,by simpa using hs⟩,?_⟩
  have e:=r.length
  simp only [jQf] at e
  lia
theorem Inv.list_inj (I:Inv X pins σ H s) (h:SqL X.K H a xs) (h':SqL X.K H a ys):xs=ys:=by
 obtain ⟨its,r,⟨o,n,e,_,_,d⟩,_⟩:=I.list h
 obtain ⟨its',r',⟨o',n',e',_,_,d'⟩,_⟩:=I.list h'
 rw [e] at e';cases e'
 rw [d] at d'
 injection d' with d1 _
 have:its=its':=by simpa using congrArg Array.toList d1
 subst this
 exact r.inj r'
theorem Inv.tuple_inj (I:Inv X pins σ H s) (h:SqT X.K H a xs) (h':SqT X.K H a ys):xs=ys:=by
 obtain ⟨its,r,⟨o,e,_,n,d⟩,_⟩:=I.tuple h
 obtain ⟨its',r',⟨o',e',_,n',d'⟩,_⟩:=I.tuple h'
 rw [e] at e';cases e'
 rw [d] at d'
 injection d' with d1 _
 have:its=its':=by simpa using congrArg Array.toList d1
 subst this
 exact r.inj r'
end
abbrev Cx.wish (X:Cx) (E:Value->Shared->Prop):Cx:={ X with xe:=E }
abbrev Cx.nox (X:Cx):Cx:=X.wish fun _ _=>False
theorem Cx.Ok.wish {X:Cx} (ok:X.Ok) (E:Value->Shared->Prop):(X.wish E).Ok :=
 ⟨ok.mod,ok.kind,ok.glob,ok.blt,ok.above,ok.inj,ok.has,ok.cab,ok.hd,ok.frames,ok.stk,ok.exf,ok.bs,ok.bsz,ok.noex,ok.exfs,ok.funs,ok.frf⟩
theorem Cx.Ok.unwish {X:Cx} {E:Value->Shared->Prop} (ok:(X.wish E).Ok):X.Ok :=
 ⟨ok.mod,ok.kind,ok.glob,ok.blt,ok.above,ok.inj,ok.has,ok.cab,ok.hd,ok.frames,ok.stk,ok.exf,ok.bs,ok.bsz,ok.noex,ok.exfs,ok.funs,ok.frf⟩
section
variable {X:Cx} {pins:List (Addr × Obj)} {σ:St} {H:Hp} {s:Shared} {E:Value->Shared->Prop}
theorem Inv.wish (I:Inv X pins σ H s) (E:Value->Shared->Prop):Inv (X.wish E) pins σ H s:=⟨I.ok.wish E,I.os,I.bare,I.base,I.loc,I.cell,I.free,I.freeC,I.pin,I.hok,I.len⟩
theorem Inv.unwish (I:Inv (X.wish E) pins σ H s):Inv X pins σ H s:=⟨I.ok.unwish,I.os,I.bare,I.base,I.loc,I.cell,I.free,I.freeC,I.pin,I.hok,I.len⟩
theorem SP.unwish {D:Ends} {f:Flow} {s':Shared} (h:SP (X.wish E) pins D f s'):SP X pins D f s':=by
 cases f with
 | next=>obtain ⟨σ',H',I,q⟩:=h;exact ⟨σ',H',I.unwish,q⟩
 | brk=>obtain ⟨σ',H',I,q⟩:=h;exact ⟨σ',H',I.unwish,q⟩
 | cont=>obtain ⟨σ',H',I,q⟩:=h;exact ⟨σ',H',I.unwish,q⟩
 | ret u=>obtain ⟨v,σ',H',I,r,q⟩:=h;exact ⟨v,σ',H',I.unwish,r,q⟩
theorem PSs.nox {st:List Stmt} {t:TS} (h:PSs X.nox st t):PSs X st t:=fun pins s σ H D I hw =>
 wpAny_mono (h pins s σ H D (I.wish _) hw) (fun _ _ q=>q.unwish) fun _ _ z=>False.elim z
end
section
variable {X:Cx} {st:Stmt} {rest:List Stmt} {t u:TS} {e:Expr} {te:TE} {pos:Pos}
def Qne:TS:=fun D σ H=>D.nx σ H
def tSeq (t u:TS):TS:=fun D σ H=>t { D with nx:=u D } σ H
theorem Qt:PSs X [] Qne:=fun _ _ σ H _ I h=>wpAny_execs_nil ⟨σ,H,I,h⟩
theorem Qe (h1:PS X st t) (h2:PSs X rest u):PSs X (st :: rest) (tSeq t u):=by
 intro pins s σ H D I h
 refine wpAny_execs_cons (thn (h1 pins s σ H { D with nx:=u D } I h) fun f s1 q=>?_)
 cases f with
 | next =>
  obtain ⟨σ',H',I',q⟩:=q
  exact h2 pins s1 σ' H' D I' q
 | ret v=>exact q
 | brk=>exact q
 | cont=>exact q
theorem Qi (h1:PS X st t):PSs X [st] t:=by
 intro pins s σ H D I h
 refine wpAny_execs_cons (thn (h1 pins s σ H D I h) fun f s1 q=>?_)
 cases f with
 | next=>exact wpAny_execs_nil q
 | ret v=>exact q
 | brk=>exact q
 | cont=>exact q
theorem Inv.quiet {pins:List (Addr × Obj)} {σ:St} {H:Hp} {s:Shared} (I:Inv X pins σ H s):interactive X.env=false:=by simp [interactive,I.ok.kind]
def tDrop (te:TE):TS:=fun D σ H=>te σ H fun _ H1=>D.nx σ H1
theorem Xg (he:PE X e te) (hs:autoParam (swapsWith e none pos.line X.env=pure false) L2.aRfl._auto_1):PS X (.Expr e pos) (tDrop te):=by
 intro pins s σ H D I h
 exact wpAny_Expr_any (thn (he pins s σ H _ I h) fun v s1 ⟨x,H1,I1,r1,q1⟩=>⟨σ,H1,I1,q1⟩) I.quiet hs
def tRet (te:TE):TS:=fun D σ H=>te σ H D.rt
theorem Xa (he:PE X e te):PS X (.Return (some e) pos) (tRet te):=by
 intro pins s σ H D I h
 exact wpAny_Return_some (thn (he pins s σ H _ I h) fun v s1 ⟨x,H1,I1,r1,q1⟩=>⟨x,σ,H1,I1,r1,q1⟩)
def tIfS (c:TT) (t u:TS):TS:=fun D σ H=>c σ H fun b H1=>if b=true then t D σ H1 else u D σ H1
theorem Xm {c:Expr} {a b:List Stmt} {tc:TT} (hc:PT X c tc) (ha:PSs X a t) (hb:PSs X b u):PS X (.If c a b pos) (tIfS tc t u):=by
 intro pins s σ H D I h
 refine wpAny_If (thn (hc pins s σ H _ I h) fun d s1 hqP=>?_)
 obtain ⟨H1,I1,q1⟩:=hqP
 cases d with
 | true=>exact ha pins s1 σ H1 D I1 q1
 | false=>exact hb pins s1 σ H1 D I1 q1
end
abbrev TG:=V->St->Hp->(St->Hp->Prop)->Prop
abbrev TGs:=List V->St->Hp->(St->Hp->Prop)->Prop
def PG (X:Cx) (target:Expr) (t:TG):Prop :=
 ∀ (pins:List (Addr × Obj)) (s:Shared) (σ:St) (H:Hp) (v:V) (u:Value) (Q:St->Hp->Prop),Inv X pins σ H s->RelV v u->t v σ H Q ->
  wpAny (model X.prog X.w) X.A (assign target X.env u) (fun _ s'=>∃ σ' H',Inv X pins σ' H' s'/\Q σ' H') X.xe s
def PGs (X:Cx) (ts:List Expr) (t:TGs):Prop :=
 ∀ (pins:List (Addr × Obj)) (s:Shared) (σ:St) (H:Hp) (vs:List V) (us:List Value) (Q:St->Hp->Prop),Inv X pins σ H s->Vals vs us->t vs σ H Q ->
  wpAny (model X.prog X.w) X.A (assignInOrder ((assignEach ts X.env).map (·.2)) us) (fun _ s'=>∃ σ' H',Inv X pins σ' H' s'/\Q σ' H') X.xe s
abbrev TSet:=V->V->V->Hp->(Hp->Prop)->Prop
def PSet (X:Cx) (t:TSet):Prop :=
 ∀ (pins:List (Addr × Obj)) (s:Shared) (σ:St) (H:Hp) (o i v:V) (ov iv u:Value) (Q:Hp->Prop),Inv X pins σ H s->RelV o ov->RelV i iv->RelV v u->t o i v H Q ->
  wpAny (model X.prog X.w) X.A (setItem ov iv u) (fun _ s'=>∃ H',Inv X pins σ H' s'/\Q H') X.xe s
section
variable {X:Cx} {pos:Pos}
def Js (i:Nat):TG:=fun v σ H Q=>Q (σ.set i (some v)) H
theorem Xb {i:Nat} {x:Str} (hN:X.N.Nodup) (hi:X.N[i]?=some x) (hx:Loc X.env.scope x) (hf:autoParam (X.fn x=true\/X.env.scope.names.lookup x=some .local) L2.aFst._auto_1):PG X (.Name x pos) (Js i):=by
 intro pins s σ H v u Q I r h
 exact wpAny_assign_Name (Zf I hN hi hx r (fun s' I'=>⟨_,H,I',h⟩) hf)
def gNil:TGs:=fun vs σ H Q=>vs=[]/\Q σ H
def Qnf (t:TG) (u:TGs):TGs:=fun vs σ H Q=>∃ v r,vs=v :: r/\t v σ H fun σ' H'=>u r σ' H' Q
theorem Qgv:PGs X [] gNil:=by
 intro pins s σ H vs us Q I r h
 obtain ⟨e,h⟩:=h
 subst e
 cases r
 exact assignInOrder_nil ⟨σ,H,I,h⟩
theorem Jv {e:Expr} {es:List Expr} {t:TG} {u:TGs} (h1:PG X e t) (h2:PGs X es u)
  (hs:autoParam ((assignEach (e :: es) X.env).map (·.2)=assign e X.env :: (assignEach es X.env).map (·.2)) L2.aRfl._auto_1):PGs X (e :: es) (Qnf t u):=by
 intro pins s σ H vs us Q I r h
 obtain ⟨v,vr,e1,h⟩:=h
 subst e1
 cases r with
 | cons r rr =>
  rw [hs]
  refine assignInOrder_cons (thn (h1 pins s σ H _ _ _ I r h) fun _ s1 hqP=>?_)
  obtain ⟨σ1,H1,I1,q1⟩:=hqP
  exact h2 pins s1 σ1 H1 _ _ Q I1 rr q1
def gTup (K:Fg) (n:Nat) (t:TGs):TG:=fun v σ H Q=>∃ a xs,v=.ref a/\SqT K H a xs/\xs.length=n/\t xs σ H Q
theorem Qlw {es:List Expr} {k:Nat} {t:TGs} {n:Nat} (hc:X.calm=true) (h:PGs X es t)
  (hn:autoParam ((assignEach es X.env).length=n) L2.aRfl._auto_1) (hst:autoParam ((assignEach es X.env).findIdx? (·.1)=none) L2.aRfl._auto_1):PG X (.Tuple es k pos) (gTup X.K n t):=by
 intro pins s σ H v u Q I r hw
 obtain ⟨a,xs,e1,hq,hl,hw⟩:=hw
 subst e1
 cases r
 obtain ⟨its,rv,ht,hz⟩:=I.tuple hq
 refine assign_Tuple_tuple (I.ok.hd hc) ht (by simp [hn,← hl,rv.length]) hst fun h' hx=>?_
 have I1:Inv X pins σ H { s with heap:=h' }:=I.kept (t':=s.toks) fun b o e=>hx b o (yJ (kX e)) e
 exact h pins _ σ H xs _ Q I1 (by simpa using rv) hw
def gSub (to ti:TE) (t:TSet):TG:=fun v σ H Q=>to σ H fun o H1=>ti σ H1 fun i H2=>t o i v H2 fun H3=>Q σ H3
theorem pg_sub {o i:Expr} {to ti:TE} {t:TSet} (ho:PE X o to) (hi:PE X i ti) (hs:PSet X t)
  (ha:∀ v,assign (.Subscript o i pos) X.env v=(do
   let ov ← holding [v] (eval o X.env)
   let iv ← holding [v,ov] (eval i X.env)
   standAt pos
   holding [v,ov,iv] (setItem ov iv v)
   release [v,ov,iv] []):=by intro _;rfl):PG X (.Subscript o i pos) (gSub to ti t):=by
 intro pins s σ H v u Q I r h
 rw [ha]
 refine jZ (wpAny_holding (thn (ho pins s σ H _ I h) fun ov s1 hqP=>?_))
 obtain ⟨x,H1,I1,r1,q1⟩:=hqP
 refine jZ (wpAny_holding (thn (hi pins s1 σ H1 _ I1 q1) fun iv s2 hqP=>?_))
 obtain ⟨y,H2,I2,r2,q2⟩:=hqP
 refine jZ (wpAny_standAt (jZ (wpAny_holding (thn (hs pins s2 σ H2 x y v ov iv u _ I2 r1 r2 r q2) fun _ s3 hqP=>?_))))
 obtain ⟨H3,I3,q3⟩:=hqP
 exact wpAny_release ⟨σ,H3,I3,q3⟩
def tAsg (te:TE) (g:TG):TS:=fun D σ H=>te σ H fun x H1=>g x σ H1 D.nx
theorem Qlx {tg e:Expr} {te:TE} {g:TG} (he:PE X e te) (hg:PG X tg g) (hs:autoParam (swapsWithSole [tg] e pos.line X.env=pure false) L2.aRfl._auto_1) (hw:autoParam (swappedStores [tg] e X.env=pure none) L2.aRfl._auto_1)
  (h1:autoParam ((assignEach [tg] X.env).map (·.2)=[assign tg X.env]) L2.aRfl._auto_1):PS X (.Assign [tg] e pos) (tAsg te g):=by
 intro pins s σ H D I h
 refine wpAny_Assign_stores (thn (he pins s σ H _ I h) fun v s1 hqP=>?_) hs hw
 obtain ⟨x,H1,I1,r1,q1⟩:=hqP
 rw [h1]
 exact thn (hg pins s1 σ H1 x v _ I1 r1 q1) fun _ s2 q=>q
theorem Qs {i:Nat} {x:Str} {e:Expr} {te:TE} {pos':Pos} (hN:X.N.Nodup) (hi:X.N[i]?=some x) (hx:Loc X.env.scope x) (he:PE X e te) (hs:autoParam (swapsWith e (some (.Name x pos')) pos.line X.env=pure false) L2.aRfl._auto_1) (hf:autoParam (X.fn x=true\/X.env.scope.names.lookup x=some .local) L2.aFst._auto_1) :
  PS X (.Assign [.Name x pos'] e pos) (tAsg te (Js i)):=by
 intro pins s σ H D I h
 refine wpAny_Assign_Name (thn (he pins s σ H _ I h) fun v s1 hqP=>?_) hs
 obtain ⟨y,H1,I1,r1,q1⟩:=hqP
 exact Zf I1 hN hi hx r1 (fun s2 I2=>⟨_,H1,I2,q1⟩) hf
end
set_option genInjectivity false in
set_option genInjectivity false in
structure It where
 go:Nat->Hp->Prop
 yld:Nat->Hp->V->Hp->Prop
 stop:Nat->Hp->Prop
def FpOk (X:Cx) (pins:List (Addr × Obj)) (H:Hp) (b:Addr):Prop :=
 H b=none/\b ≠ X.env.locals/\b ∉ X.fs/\(b ∈ X.ex\/X.s₀.heap.objs.size<=b)/\(∀ x c,X.env.cells.lookup x=some c->c ≠ b)/\∀ p ∈ X.pn ++ pins,p.1 ≠ b
theorem Inv.fpOk {X:Cx} {pins:List (Addr × Obj)} {σ:St} {H H':Hp} {s:Shared} {b:Addr} (I:Inv X pins σ H s) (hb:s.heap.objs.size<=b) (hn:H' b=none):FpOk X pins H' b:=by
 refine ⟨hn,jJa (zX I.lt hb),I.nofs hb,.inr (xW I.sz hb),fun x c e z=>?_,fun p hp z=>?_⟩
 ·obtain ⟨v,q⟩:=I.cell x c e
  exact absurd (zX q.lt (by rw [z];exact hb)) (jQc _)
 ·exact absurd (zX (kX (I.pin p hp).1) (by rw [z];exact hb)) (jQc _)
structure Turn (P:Program) (w:World) (K:Fg) (tg:Expr) (J:It) (fp:List Addr) (it:Addr) (tn:Nat->Heap->Prop):Prop where
 mem:it ∈ fp
 obj:∀ i h,tn i h->∀ b ∈ fp,∃ o,h.get? b=some o/\∀ v,o.data ≠ .cell v
 keep:∀ i h h',tn i h->(∀ b ∈ fp,∀ o,h.get? b=some o->h'.get? b=some o)->tn i h'
 item:∀ (X:Cx),X.prog=P->X.w=w->X.K=K->X.calm=true->∀ (i:Nat) (pins:List (Addr × Obj)) (s:Shared) (σ:St) (H:Hp) (E:Value->Shared->Prop),Inv X pins σ H s->(∀ b ∈ fp,FpOk X pins H b)->tn i s.heap->J.go i H ->
  wpAny (model P w) X.A (pyNext (.ref it)) (fun r s1=>∃ u,r=some u /\
   wpAny (model P w) X.A (letOwnedTupleGo tg (.ref it) u) (fun _ s2=>∃ x H',Inv X pins σ H' s2/\RelV x u/\J.yld i H x H'/\tn (i + 1) s2.heap/\∀ b ∈ fp,H' b=none) E s1) E s
 done:∀ (X:Cx),X.prog=P->X.w=w->X.K=K->X.calm=true->∀ (i:Nat) (pins:List (Addr × Obj)) (s:Shared) (σ:St) (H:Hp) (E:Value->Shared->Prop),Inv X pins σ H s->(∀ b ∈ fp,FpOk X pins H b)->tn i s.heap->J.stop i H ->
  wpAny (model P w) X.A (pyNext (.ref it)) (fun r s1=>r=none/\Inv X pins σ H s1) E s
 self:∀ (A:Around) (i:Nat) (s:Shared) (Q:Value->Shared->Prop) (E:Value->Shared->Prop),tn i s.heap->Q (.ref it) s->wpAny (model P w) A (pyIter (.ref it)) Q E s
abbrev TI:=St->Hp->(It->Hp->Prop)->Prop
def PIE (X:Cx) (pins:List (Addr × Obj)) (σ:St) (tg:Expr) (R:It->Hp->Prop) (itv:Value) (s2:Shared):Prop :=
 ∃ (it:Addr) (fp:List Addr) (tn:Nat->Heap->Prop) (J:It) (H':Hp),itv=.ref it/\Inv X pins σ H' s2/\Turn X.prog X.w X.K tg J fp it tn/\tn 0 s2.heap/\(∀ b ∈ fp,FpOk X pins H' b)/\R J H'
def PI (X:Cx) (tg iter:Expr) (wi:TI):Prop :=
 ∀ (pins:List (Addr × Obj)) (s:Shared) (σ:St) (H:Hp) (R:It->Hp->Prop),Inv X pins σ H s->wi σ H R ->
  wpAny (model X.prog X.w) X.A (eval iter X.env) (fun v s1=>wpAny (model X.prog X.w) X.A (pyIter v) (PIE X pins σ tg R) X.xe s1) X.xe s
theorem Qjy {M:Model} {A:Around} {E:Value->Shared->Prop} {s:Shared} {tg:Expr} {it:Addr} {u:Value} {o:Obj} {n:String} {vs:Array Value} {Q:Unit->Shared->Prop} (ho:s.heap.get? it=some o) (hc:o.cls=.type n) (hd:o.data=.fields vs)
    (hn:["enumerate","zip","dict_itemiterator","dict_reverseitemiterator","odict_iterator","itertools.zip_longest","itertools.pairwise"].contains n=false) (hQ:Q () s):wpAny M A (letOwnedTupleGo tg (.ref it) u) Q E s:=by
  unfold letOwnedTupleGo
  cases tg <;> first
    | exact kJ hQ
    | (cases u <;> first
        | exact kJ hQ
        | (refine jZ (wpAny_load ho ?_)
           rw [hc,hd]
           show wpAny M A (if (["enumerate","zip","dict_itemiterator","dict_reverseitemiterator","odict_iterator","itertools.zip_longest","itertools.pairwise"].contains n && vs[0]? == some (rawInt _))=true then _ else _) Q E s
           rw [if_neg (by intro h;rw [hn,jKc] at h;cases h)]
           exact kJ hQ))
def Itl (K:Fg) (a:Addr):It :=
 ⟨fun i H=>∃ xs x,SqL K H a xs/\xs[i]?=some x,fun i H x H'=>H'=H/\∀ xs,SqL K H a xs->xs[i]?=some x,fun i H=>∃ xs,SqL K H a xs/\xs.length<=i⟩
def Itt (K:Fg) (a:Addr):It :=
 ⟨fun i H=>∃ xs x,SqT K H a xs/\xs[i]?=some x,fun i H x H'=>H'=H/\∀ xs,SqT K H a xs->xs[i]?=some x,fun i H=>∃ xs,SqT K H a xs/\xs.length<=i⟩
def Itr (lo:Int) (n:Nat):It:=⟨fun i _=>i < n,fun i H x H'=>H'=H/\x=.int (lo + i),fun i _=>n<=i⟩
theorem Qgw {P:Program} {w:World} {K:Fg} {tg:Expr} (a it:Addr):Turn P w K tg (Itl K a) [it] it (fun i h=>h.IsListIter it a i) where
 mem:=by simp
 obj:=fun i h st b hb=>by
  have e:b=it:=by simpa using hb
  subst e
  obtain ⟨o,e,c,d⟩:=st
  exact ⟨o,e,fun v z=>by rw [d] at z;cases z⟩
 keep:=fun i h h' st k=>st.at fun o e=>k it (by simp) o e
 item:=by
  intro X hP hw hK hc i pins s σ H E I hf st hg
  subst hP hw hK
  obtain ⟨xs,x,hq,hx⟩:=hg
  obtain ⟨its,rv,p,hz⟩:=I.list hq
  obtain ⟨u,hu,ru⟩:=rv.get hx
  obtain ⟨f0,f1,f2,f3,f4,f5⟩:=hf it (by simp)
  refine wpAny_pyNext_list_item st p.isList (x:=u) (by simpa using hu) fun h' st' sb=>?_
  have I1:Inv X pins σ H { s with heap:=h' }:=I.turned (t':=s.toks) (fun b o hb e=>(sb.2 b hb).trans e) f0 f1 f3 f4 f5
  obtain ⟨o,e,c,d⟩:=id st'
  exact ⟨u,rfl,Qjy (s:={ s with heap:=h' }) e c d (by decide) ⟨x,H,I1,ru,⟨rfl,fun ys hy=>by rw [I.list_inj hy hq];exact hx⟩,st',fun b hb=>(hf b hb).1⟩⟩
 done:=by
  intro X hP hw hK hc i pins s σ H E I hf st hg
  subst hP hw hK
  obtain ⟨xs,hq,hx⟩:=hg
  obtain ⟨its,rv,p,hz⟩:=I.list hq
  obtain ⟨f0,f1,f2,f3,f4,f5⟩:=hf it (by simp)
  have hl:=rv.length
  exact wpAny_pyNext_list_end (I.ok.hd hc) st p.isList (by simp;lia) fun h' eb=>⟨rfl,I.turned (t':=s.toks) (fun b o hb e=>eb b o hb e) f0 f1 f3 f4 f5⟩
 self:=fun _ _ _ _ _ st h=>wpAny_pyIter_listiter st h
theorem Qfk {P:Program} {w:World} {K:Fg} {tg:Expr} (a it:Addr):Turn P w K tg (Itt K a) [it] it (fun i h=>h.IsTupleIter it a i) where
 mem:=by simp
 obj:=fun i h st b hb=>by
  have e:b=it:=by simpa using hb
  subst e
  obtain ⟨o,e,c,d⟩:=st
  exact ⟨o,e,fun v z=>by rw [d] at z;cases z⟩
 keep:=fun i h h' st k=>st.at fun o e=>k it (by simp) o e
 item:=by
  intro X hP hw hK hc i pins s σ H E I hf st hg
  subst hP hw hK
  obtain ⟨xs,x,hq,hx⟩:=hg
  obtain ⟨its,rv,p,hz⟩:=I.tuple hq
  obtain ⟨u,hu,ru⟩:=rv.get hx
  obtain ⟨f0,f1,f2,f3,f4,f5⟩:=hf it (by simp)
  refine wpAny_pyNext_tuple_item st (show s.heap.IsTuple a its.toArray from p) (x:=u) (by simpa using hu) fun h' st' sb=>?_
  have I1:Inv X pins σ H { s with heap:=h' }:=I.turned (t':=s.toks) (fun b o hb e=>(sb.2 b hb).trans e) f0 f1 f3 f4 f5
  obtain ⟨o,e,c,d⟩:=id st'
  exact ⟨u,rfl,Qjy (s:={ s with heap:=h' }) e c d (by decide) ⟨x,H,I1,ru,⟨rfl,fun ys hy=>by rw [I.tuple_inj hy hq];exact hx⟩,st',fun b hb=>(hf b hb).1⟩⟩
 done:=by
  intro X hP hw hK hc i pins s σ H E I hf st hg
  subst hP hw hK
  obtain ⟨xs,hq,hx⟩:=hg
  obtain ⟨its,rv,p,hz⟩:=I.tuple hq
  obtain ⟨f0,f1,f2,f3,f4,f5⟩:=hf it (by simp)
  have hl:=rv.length
  exact wpAny_pyNext_tuple_end (I.ok.hd hc) st (show s.heap.IsTuple a its.toArray from p) (by simp;lia) fun h' eb=>⟨rfl,I.turned (t':=s.toks) (fun b o hb e=>eb b o hb e) f0 f1 f3 f4 f5⟩
 self:=fun _ _ _ _ _ st h=>wpAny_pyIter_tupleiter st h
theorem Qfl {P:Program} {w:World} {K:Fg} {tg:Expr} (it:Addr) (lo:Int) (n:Nat):Turn P w K tg (Itr lo n) [it] it (fun i h=>IsRangeIter h it (lo + (i:Nat) * 1) ((n:Int) - (i:Nat)) 1) where
 mem:=by simp
 obj:=fun i h st b hb=>by
  have e:b=it:=by simpa using hb
  subst e
  exact ⟨_,st,fun v z=>by
   have z':Data.fields _=Data.cell v:=z
   cases z'⟩
 keep:=fun i h h' st k=>k it (by simp) _ st
 item:=by
  intro X hP hw hK hc i pins s σ H E I hf st hg
  subst hP hw hK
  obtain ⟨f0,f1,f2,f3,f4,f5⟩:=hf it (by simp)
  have W:=Walks.range (prog:=X.prog) (w:=X.w) (I.ok.hd hc) it lo 1 n
  refine W.item i s _ _ hg st fun v h' tk hv st' kk=>?_
  obtain ⟨t,rfl⟩:=hv
  have I1:Inv X pins σ H { s with heap:=h',toks:=tk }:=I.turned (fun b o hb e=>kk b o (by simpa using hb) e) f0 f1 f3 f4 f5
  refine ⟨_,rfl,Qjy (s:={ s with heap:=h',toks:=tk }) (n:="range_iterator") st' rfl rfl (by decide) ⟨.int (lo + i),H,I1,⟨t,?_⟩,⟨rfl,rfl⟩,st',fun b hb=>(hf b hb).1⟩⟩
  rw [Int.mul_one]
 done:=by
  intro X hP hw hK hc i pins s σ H E I hf st hg
  subst hP hw hK
  obtain ⟨f0,f1,f2,f3,f4,f5⟩:=hf it (by simp)
  exact wpAny_pyNext_range_end (I.ok.hd hc) st (by have:n<=i:=hg;lia) fun h' eb=>⟨rfl,I.turned (t':=s.toks) (fun b o hb e=>eb b o hb e) f0 f1 f3 f4 f5⟩
 self:=fun _ _ _ _ _ st h=>wpAny_pyIter_rangeiter st h
section
variable {X:Cx} {tg:Expr}
def iList (K:Fg) (tl:TE):TI:=fun σ H R=>tl σ H fun x H1=>∃ a,x=.ref a/\(∃ xs,SqL K H1 a xs)/\R (Itl K a) H1
def iTup (K:Fg) (tl:TE):TI:=fun σ H R=>tl σ H fun x H1=>∃ a,x=.ref a/\(∃ xs,SqT K H1 a xs)/\R (Itt K a) H1
theorem Ye {l:Expr} {tl:TE} (hl:PE X l tl):PI X tg l (iList X.K tl):=by
 intro pins s σ H R I h
 refine thn (hl pins s σ H _ I h) fun v s1 hqP=>?_
 obtain ⟨x,H1,I1,r1,q1⟩:=hqP
 obtain ⟨a,e,⟨xs,hq⟩,q⟩:=q1
 subst e
 cases r1
 obtain ⟨its,rv,p,hz⟩:=I1.list hq
 refine wpAny_pyIter_list p.isList ?_
 refine ⟨s1.heap.objs.size,[s1.heap.objs.size],_,_,H1,rfl,I1.kept (t':=s1.toks) fun b o e=>jV _ e,Qgw a _,⟨_,kW _ rfl,rfl,rfl⟩,fun b hb=>?_,q⟩
 have e:b=s1.heap.objs.size:=by simpa using hb
 subst e
 exact I1.fpOk (kQ _) (I1.hok.fresh (kQ _))
theorem Qly {l:Expr} {tl:TE} (hl:PE X l tl):PI X tg l (iTup X.K tl):=by
 intro pins s σ H R I h
 refine thn (hl pins s σ H _ I h) fun v s1 hqP=>?_
 obtain ⟨x,H1,I1,r1,q1⟩:=hqP
 obtain ⟨a,e,⟨xs,hq⟩,q⟩:=q1
 subst e
 cases r1
 obtain ⟨its,rv,p,hz⟩:=I1.tuple hq
 refine wpAny_pyIter_tuple (show s1.heap.IsTuple a its.toArray from p) ?_
 refine ⟨s1.heap.objs.size,[s1.heap.objs.size],_,_,H1,rfl,I1.kept (t':=s1.toks) fun b o e=>jV _ e,Qfk a _,⟨_,kW _ rfl,rfl,rfl⟩,fun b hb=>?_,q⟩
 have e:b=s1.heap.objs.size:=by simpa using hb
 subst e
 exact I1.fpOk (kQ _) (I1.hok.fresh (kQ _))
theorem Qeh {pins:List (Addr × Obj)} {σ:St} {H:Hp} {s:Shared} {R:It->Hp->Prop} {E:Value->Shared->Prop} {lo hi:Int} {t u v:Tok} {tk:Nat} (I:Inv X pins σ H s) (h1:-(2 ^ 62)<=lo) (h2:lo < 2 ^ 62) (h3:-(2 ^ 62)<=hi) (h4:hi < 2 ^ 62)
  (q:R (Itr lo (hi - lo).toNat) H):wpAny (model X.prog X.w) X.A (pyIter (.ref s.heap.objs.size)) (PIE X pins σ tg R) E { s with heap:=s.heap.push { cls:=.type "range",data:=.fields #[.int lo t,.int hi u,.int 1 v] },toks:=tk }:=by
 refine wpAny_pyIter_range (IsRange.new ..) (small_one h1 h2 h3 h4) ?_
 have I1:Inv X pins σ H { s with heap:=s.heap.push { cls:=.type "range",data:=.fields #[.int lo t,.int hi u,.int 1 v] },toks:=tk }:=I.kept fun b o e=>jV _ e
 refine ⟨(s.heap.push { cls:=.type "range",data:=.fields #[.int lo t,.int hi u,.int 1 v] }).objs.size,[(s.heap.push { cls:=.type "range",data:=.fields #[.int lo t,.int hi u,.int 1 v] }).objs.size],_,_,H,rfl,
  I1.kept (t':=tk) fun b o e=>jV _ e,Qfl _ lo (hi - lo).toNat,?_,fun b hb=>?_,q⟩
 ·have e1:lo + ((0:Nat):Int) * 1=lo:=by simp
  have e2:(((hi - lo).toNat:Nat):Int) - ((0:Nat):Int)=Builtin.Range.rangeSize lo hi 1:=by rw [rangeSize_one];split <;> lia
  show IsRangeIter _ _ (lo + ((0:Nat):Int) * 1) ((((hi - lo).toNat:Nat):Int) - ((0:Nat):Int)) 1
  rw [e1,e2]
  exact kW _ rfl
 ·have e:b=(s.heap.push { cls:=.type "range",data:=.fields #[.int lo t,.int hi u,.int 1 v] }).objs.size:=by simpa using hb
  subst e
  exact I1.fpOk (kQ _) (I1.hok.fresh (kQ _))
def iRng1 (ta:TA):TI:=fun σ H R=>ta σ H fun vs H1=>∃ j:Int,vs=[.int j]/\-(2 ^ 62)<=j/\j < 2 ^ 62/\R (Itr 0 j.toNat) H1
def iRng2 (ta:TA):TI:=fun σ H R=>ta σ H fun vs H1=>∃ i j:Int,vs=[.int i,.int j]/\(-(2 ^ 62)<=i/\i < 2 ^ 62/\-(2 ^ 62)<=j/\j < 2 ^ 62)/\R (Itr i (j - i).toNat) H1
theorem Yp {a:Expr} {ta:TA} {p pos:Pos} (hg:Gl X "range") (hm:X.mg "range"=none) (ha:PA X [a] ta) (hs:autoParam (starEach [a] X.env=[(false,eval a X.env)]) L2.aRfl._auto_1):PI X tg (.Call (.Name "range" p) [a] [] pos) (iRng1 ta):=by
 intro pins s σ H R I h
 refine Call_ (Vk I hg hm boot_range (PyProof.Rows.callWith_type1 (thn (ha pos pins s σ H _ I h) fun us s1 hqP=>?_) hs rfl))
 obtain ⟨vs,H1,I1,r1,q1⟩:=hqP
 obtain ⟨j,e,q1,q2,q⟩:=q1
 subst e
 cases r1 with
 | cons r rr =>
  cases rr
  obtain ⟨t,rfl⟩:=r
  exact call_range_1 (Qeh I1 (by lia) (by lia) q1 q2 (by simpa using q))
theorem Qgx {a b:Expr} {ta:TA} {p pos:Pos} (hg:Gl X "range") (hm:X.mg "range"=none) (ha:PA X [a,b] ta) (hs:autoParam (starEach [a,b] X.env=[(false,eval a X.env),(false,eval b X.env)]) L2.aRfl._auto_1) (hs2:autoParam (starEach [b] X.env=[(false,eval b X.env)]) L2.aRfl._auto_1) :
  PI X tg (.Call (.Name "range" p) [a,b] [] pos) (iRng2 ta):=by
 intro pins s σ H R I h
 refine Call_ (Vk I hg hm boot_range (PyProof.Rows.callWith_type1 (thn (ha pos pins s σ H _ I h) fun us s1 hqP=>?_) (by rw [hs,hs2]) (by rw [hs2];rfl)))
 obtain ⟨vs,H1,I1,r1,q1⟩:=hqP
 obtain ⟨i,j,e,⟨q1,q2,q3,q4⟩,q⟩:=q1
 subst e
 cases r1 with
 | cons r rr =>
  cases rr with
  | cons r' rr =>
   cases rr
   obtain ⟨t,rfl⟩:=r
   obtain ⟨t',rfl⟩:=r'
   exact call_range_2 (Qeh I1 q1 q2 q3 q4 q)
def tFor (wi:TI) (g:TG) (tb:TS):TS:=fun D σ H=>wi σ H fun J H1=>∃ W:Nat->Nat->St->Hp->Prop,(∃ m,W 0 m σ H1)/\∀ i m σ H,W i m σ H ->
 (J.stop i H/\D.nx σ H)\/(J.go i H/\∃ N:St->Hp->Prop,(∀ σ' H',N σ' H'->∃ m',m' < m/\W (i + 1) m' σ' H')/\∀ x H',J.yld i H x H'->g x σ H' fun σ2 H2=>tb { D with nx:=N,ct:=N,bk:=D.nx } σ2 H2)
def Qab (fp:List Addr) (h:Heap):List (Addr × Obj):=fp.filterMap fun b=>(h.get? b).map fun o=>(b,o)
theorem Yx {fp:List Addr} {h:Heap} {b:Addr} {o:Obj} (hb:b ∈ fp) (e:h.get? b=some o):(b,o) ∈ Qab fp h:=zV.mpr ⟨b,hb,by rw [e];rfl⟩
theorem Qgy {fp:List Addr} {h:Heap} {p:Addr × Obj} (hp:p ∈ Qab fp h):p.1 ∈ fp/\h.get? p.1=some p.2:=by
 obtain ⟨b,hb,e⟩:=zV.mp hp
 cases q:h.get? b with
 | none=>rw [q] at e;cases e
 | some o =>
  rw [q] at e
  have e':(b,o)=p:=Option.some.inj e
  subst e'
  exact ⟨hb,q⟩
theorem Inv.pinned {pins:List (Addr × Obj)} {σ:St} {H:Hp} {s:Shared} {fp:List Addr} (I:Inv X pins σ H s) (hf:∀ b ∈ fp,FpOk X pins H b) (ho:∀ b ∈ fp,∃ o,s.heap.get? b=some o/\∀ v,o.data ≠ .cell v):Inv X (pins ++ Qab fp s.heap) σ H s :=
 I.pins_of fun p hp=>(yQ.mp hp).elim (fun z=>I.pin p (yY _ z)) fun z=>by
  obtain ⟨hb,e⟩:=Qgy z
  obtain ⟨f0,f1,f2,_⟩:=hf p.1 hb
  obtain ⟨o,e',d⟩:=ho p.1 hb
  rw [e] at e';cases e'
  exact ⟨e,f0,f1,f2,d⟩
theorem Inv.unpinned {pins pl:List (Addr × Obj)} {σ:St} {H:Hp} {s:Shared} (I:Inv X (pins ++ pl) σ H s):Inv X pins σ H s:=I.pins_of fun p hp=>I.pin p (yY _ (jXd _ hp))
theorem Yz {iter:Expr} {body:List Stmt} {wi:TI} {g:TG} {tb:TS} {pos:Pos} (hp:PassesOwn (model X.prog X.w) X.A X.env X.xe) (hc:X.calm=true) (hi:PI X tg iter wi) (hg:PG X tg g) (hb:PSs X body tb)
  (hs:autoParam (∀ x,foldedSetIterable iter X.env x=pure x) L2.aIrf._auto_1):PS X (.For tg iter body [] pos) (tFor wi g tb):=by
 intro pins s σ H D I h
 refine wpAny_For (thn (hi pins s σ H _ I h) fun v s1 h1=>thn h1 fun itv s2 h2=>?_) hs
 obtain ⟨it,fp,tn,J,H2,e,I2,T,st2,f2,W,⟨m0,w0⟩,turn⟩:=h2
 subst e
 -- what stays true of the iterator's objects through the loop
 have stat:∀ {H':Hp},(∀ b ∈ fp,H' b=none)->∀ b ∈ fp,FpOk X pins H' b:=fun hn b hb=>⟨hn b hb,(f2 b hb).2⟩
 refine codeAny_forLoop_any (fun n s'=>∃ i σ' H',Inv X pins σ' H' s'/\tn i s'.heap/\(∀ b ∈ fp,H' b=none)/\W i n σ' H') ?_ m0 ⟨0,σ,H2,I2,st2,fun b hb=>(f2 b hb).1,w0⟩
 rintro n s3 ⟨i,σ3,H3,I3,st3,fr3,w3⟩
 rcases turn i n σ3 H3 w3 with ⟨stop,qn⟩ | ⟨go,N,hN,step⟩
 ·refine wpAny_passesOwn hp (thn (T.done X rfl rfl rfl hc i pins s3 σ3 H3 X.xe I3 (stat fr3) st3 stop) fun r s4 hqP=>?_)
  obtain ⟨hr,I4⟩:=hqP
  subst hr
  exact wpAny_execs_nil ⟨σ3,H3,I4,qn⟩
 ·refine wpAny_passesOwn hp (thn (T.item X rfl rfl rfl hc i pins s3 σ3 H3 X.xe I3 (stat fr3) st3 go) fun r s4 hqP=>?_)
  obtain ⟨u,hr,h4⟩:=hqP
  subst hr
  refine wpAny_passesOwn hp (thn h4 fun _ s5 hqP=>?_)
  obtain ⟨x,H5,I5,r5,y5,st5,fr5⟩:=hqP
  have I5':=I5.pinned (stat fr5) (T.obj _ _ st5)
  refine wpAny_passesOwn hp (thn (hg _ s5 σ3 H5 x u _ I5' r5 (step x H5 y5)) fun _ s6 hqP=>?_)
  obtain ⟨σ6,H6,I6,q6⟩:=hqP
  refine wpAny_passesOwn hp (thn (hb _ s6 σ6 H6 _ I6 q6) fun f s7 q7=>?_)
  have again:∀ {σ7:St} {H7:Hp},Inv X (pins ++ Qab fp s5.heap) σ7 H7 s7->N σ7 H7->∃ m,m < n/\∃ i σ' H',Inv X pins σ' H' s7/\tn i s7.heap/\(∀ b ∈ fp,H' b=none)/\W i m σ' H':=fun {σ7 H7} I7 n7=>by
   obtain ⟨m',hm,w7⟩:=hN σ7 H7 n7
   refine ⟨m',hm,i + 1,σ7,H7,I7.unpinned,T.keep _ _ _ st5 fun b hb o e=>(I7.pin (b,o) (yY _ (yY _ (Yx hb e)))).1,fun b hb=>?_,w7⟩
   obtain ⟨o,e,d⟩:=T.obj _ _ st5 b hb
   exact (I7.pin (b,o) (yY _ (yY _ (Yx hb e)))).2.1
  cases f with
  | next=>obtain ⟨σ7,H7,I7,n7⟩:=q7;exact again I7 n7
  | cont=>obtain ⟨σ7,H7,I7,n7⟩:=q7;exact again I7 n7
  | brk=>obtain ⟨σ7,H7,I7,q7⟩:=q7;exact ⟨σ7,H7,I7.unpinned,q7⟩
  | ret v=>obtain ⟨x7,σ7,H7,I7,r7,q7⟩:=q7;exact ⟨x7,σ7,H7,I7.unpinned,r7,q7⟩
end
theorem Vd {K:Fg} {a:Addr} {xs:List V} {g:TG} {tb:TS} {D:Ends} {σ:St} {H:Hp} (Pv:Nat->St->Hp->Prop) (h0:Pv 0 σ H) (hl:∀ i σ H,i<=xs.length->Pv i σ H->SqL K H a xs)
  (hs:∀ i x σ H,xs[i]?=some x->Pv i σ H->g x σ H fun σ2 H2=>tb { D with nx:=Pv (i + 1),ct:=Pv (i + 1),bk:=D.nx } σ2 H2) (hd:∀ σ H,Pv xs.length σ H->D.nx σ H) :
  ∃ W:Nat->Nat->St->Hp->Prop,(∃ m,W 0 m σ H)/\∀ i m σ H,W i m σ H ->
   ((Itl K a).stop i H/\D.nx σ H)\/((Itl K a).go i H/\∃ N:St->Hp->Prop,(∀ σ' H',N σ' H'->∃ m',m' < m/\W (i + 1) m' σ' H')/\∀ x H',(Itl K a).yld i H x H'->g x σ H' fun σ2 H2=>tb { D with nx:=N,ct:=N,bk:=D.nx } σ2 H2):=by
 refine ⟨fun i m σ H=>m=xs.length - i/\i<=xs.length/\Pv i σ H,⟨xs.length,by simp,wX _,h0⟩,?_⟩
 rintro i m σ H ⟨rfl,hi,p⟩
 have q:=hl i σ H hi p
 by_cases hlt:i < xs.length
 ·refine .inr ⟨⟨xs,xs[i],q,by simp [hlt]⟩,Pv (i + 1),fun σ' H' p'=>⟨xs.length - (i + 1),by lia,rfl,hlt,p'⟩,fun x H' y=>?_⟩
  obtain ⟨e,y⟩:=y
  subst e
  exact hs i x σ _ (y xs q) p
 ·have e:i=xs.length:=by lia
  subst e
  exact .inl ⟨⟨xs,q,kQ _⟩,hd σ H p⟩
theorem Za {lo:Int} {n:Nat} {g:TG} {tb:TS} {D:Ends} {σ:St} {H:Hp} (Pv:Nat->St->Hp->Prop) (h0:Pv 0 σ H)
  (hs:∀ i σ H,i < n->Pv i σ H->g (.int (lo + i)) σ H fun σ2 H2=>tb { D with nx:=Pv (i + 1),ct:=Pv (i + 1),bk:=D.nx } σ2 H2) (hd:∀ σ H,Pv n σ H->D.nx σ H) :
  ∃ W:Nat->Nat->St->Hp->Prop,(∃ m,W 0 m σ H)/\∀ i m σ H,W i m σ H ->
   ((Itr lo n).stop i H/\D.nx σ H)\/((Itr lo n).go i H/\∃ N:St->Hp->Prop,(∀ σ' H',N σ' H'->∃ m',m' < m/\W (i + 1) m' σ' H')/\∀ x H',(Itr lo n).yld i H x H'->g x σ H' fun σ2 H2=>tb { D with nx:=N,ct:=N,bk:=D.nx } σ2 H2):=by
 refine ⟨fun i m σ H=>m=n - i/\i<=n/\Pv i σ H,⟨n,by simp,wX _,h0⟩,?_⟩
 rintro i m σ H ⟨rfl,hi,p⟩
 by_cases hlt:i < n
 ·refine .inr ⟨hlt,Pv (i + 1),fun σ' H' p'=>⟨n - (i + 1),by lia,rfl,hlt,p'⟩,fun x H' y=>?_⟩
  obtain ⟨e,y⟩:=y
  subst e y
  exact hs i σ _ hlt p
 ·have e:i=n:=by lia
  subst e
  exact .inl ⟨kQ _,hd σ H p⟩
abbrev R2:=V->V->Hp->VK->Prop
def OpR (X:Cx) (f:Value->Value->Sem Value) (r:R2):Prop :=
 ∀ (pins:List (Addr × Obj)) (s:Shared) (σ:St) (H:Hp) (x y:V) (v u:Value) (Q:VK),Inv X pins σ H s->RelV x v->RelV y u->r x y H Q ->
  wpAny (model X.prog X.w) X.A (f v u) (EP X pins σ Q) X.xe s
def UnR (X:Cx) (f:Value->Sem Value) (r:V->Hp->VK->Prop):Prop :=
 ∀ (pins:List (Addr × Obj)) (s:Shared) (σ:St) (H:Hp) (x:V) (v:Value) (Q:VK),Inv X pins σ H s->RelV x v->r x H Q ->
  wpAny (model X.prog X.w) X.A (f v) (EP X pins σ Q) X.xe s
def Jm (X:Cx) (f:Value) (r:List V->Hp->VK->Prop):Prop :=
 ∀ (pins:List (Addr × Obj)) (s:Shared) (σ:St) (H:Hp) (xs:List V) (us:List Value) (Q:VK),Inv X pins σ H s->Vals xs us->r xs H Q ->
  wpAny (model X.prog X.w) X.A (call f us) (EP X pins σ Q) X.xe s
def tOp (r:R2) (ta tb:TE):TE:=fun σ H Q=>ta σ H fun x H1=>tb σ H1 fun y H2=>r x y H2 Q
def tUn (r:V->Hp->VK->Prop) (ta:TE):TE:=fun σ H Q=>ta σ H fun x H1=>r x H1 Q
def rI (C:Int->Int->Prop) (g:Int->Int->V):R2:=fun x y H Q=>∃ i j,x=.int i/\y=.int j/\C i j/\Q (g i j) H
def rI0 (g:Int->Int->V):R2:=fun x y H Q=>∃ i j,x=.int i/\y=.int j/\Q (g i j) H
def rU (g:Int->V):V->Hp->VK->Prop:=fun x H Q=>∃ i,x=.int i/\Q (g i) H
section
variable {X:Cx} {a b:Expr} {ta tb:TE} {pos:Pos}
theorem binT (ha:PE X a ta) (hb:PE X b tb) {pins:List (Addr × Obj)} {s:Shared} {σ:St} {H:Hp} {R:V->V->Hp->Prop} (I:Inv X pins σ H s)
  (h:ta σ H fun x H1=>tb σ H1 fun y H2=>R x y H2) {Q:Value->Shared->Prop} {f:Value->Value->Sem Value}
  (hf:∀ v u s2 x y H2,Inv X pins σ H2 s2->RelV x v->RelV y u->R x y H2->wpAny (model X.prog X.w) X.A (f v u) Q X.xe s2) :
  wpAny (model X.prog X.w) X.A (eval a X.env) (fun v s₁=>wpAny (model X.prog X.w) X.A (eval b X.env) (fun u s₂=>wpAny (model X.prog X.w) X.A (f v u) Q X.xe s₂) X.xe s₁) X.xe s:=by
 refine thn (ha pins s σ H _ I h) fun v s1 hqP=>?_
 obtain ⟨x,H1,I1,r1,q1⟩:=hqP
 refine thn (hb pins s1 σ H1 _ I1 q1) fun u s2 hqP=>?_
 obtain ⟨y,H2,I2,r2,q2⟩:=hqP
 exact hf v u s2 x y H2 I2 r1 r2 q2
theorem Qj {op:Operator} {r:R2} (ho:OpR X (binaryOp op) r) (ha:PE X a ta) (hb:PE X b tb):PE X (.BinOp a op b pos) (tOp r ta tb):=by
 intro pins s σ H Q I h
 exact wpAny_BinOp (binT ha hb I h fun v u s2 x y H2 I2 rx ry q=>ho pins s2 σ H2 x y v u Q I2 rx ry q)
theorem Ww {op:UnaryOp} {r:V->Hp->VK->Prop} (ho:UnR X (unaryOp op) r) (ha:PE X a ta):PE X (.UnaryOp op a pos) (tUn r ta):=by
 intro pins s σ H Q I h
 exact UnaryOp_ (thn (ha pins s σ H _ I h) fun v s1 ⟨x,H1,I1,r1,q1⟩=>ho pins s1 σ H1 x v Q I1 r1 q1)
theorem opI {f:Value->Value->Sem Value} {C:Int->Int->Prop} {g:Int->Int->Int}
  (rule:∀ (i j:Int) (t u:Tok) (s:Shared) (Q:Value->Shared->Prop) (E:Value->Shared->Prop),C i j->Q (.int (g i j) s.toks) { s with toks:=s.toks + 1 }->wpAny (model X.prog X.w) X.A (f (.int i t) (.int j u)) Q E s) :
  OpR X f (rI C fun i j=>.int (g i j)):=by
 intro pins s σ H x y v u Q I rx ry h
 obtain ⟨i,j,rfl,rfl,hc,q⟩:=h
 obtain ⟨t,rfl⟩:=rx
 obtain ⟨t',rfl⟩:=ry
 exact rule i j t t' s _ _ hc ⟨.int (g i j),H,I.tok _,⟨_,rfl⟩,q⟩
theorem opI0 {f:Value->Value->Sem Value} {g:Int->Int->Int}
  (rule:∀ (i j:Int) (t u:Tok) (s:Shared) (Q:Value->Shared->Prop) (E:Value->Shared->Prop),Q (.int (g i j) s.toks) { s with toks:=s.toks + 1 }->wpAny (model X.prog X.w) X.A (f (.int i t) (.int j u)) Q E s) :
  OpR X f (rI0 fun i j=>.int (g i j)):=by
 intro pins s σ H x y v u Q I rx ry h
 obtain ⟨i,j,rfl,rfl,q⟩:=h
 obtain ⟨t,rfl⟩:=rx
 obtain ⟨t',rfl⟩:=ry
 exact rule i j t t' s _ _ ⟨.int (g i j),H,I.tok _,⟨_,rfl⟩,q⟩
theorem opB0 {f:Value->Value->Sem Value} {g:Int->Int->Bool}
  (rule:∀ (i j:Int) (t u:Tok) (s:Shared) (Q:Value->Shared->Prop) (E:Value->Shared->Prop),Q (.bool (g i j)) s->wpAny (model X.prog X.w) X.A (f (.int i t) (.int j u)) Q E s) :
  OpR X f (rI0 fun i j=>.bl (g i j)):=by
 intro pins s σ H x y v u Q I rx ry h
 obtain ⟨i,j,rfl,rfl,q⟩:=h
 obtain ⟨t,rfl⟩:=rx
 obtain ⟨t',rfl⟩:=ry
 exact rule i j t t' s _ _ ⟨.bl (g i j),H,I,rfl,q⟩
def CDiv (i j:Int):Prop:=0 < j/\j < 1073741824
def CMul (i j:Int):Prop:=(-(2 ^ 64) < i/\i < 2 ^ 64)\/(-(2 ^ 64) < j/\j < 2 ^ 64)
theorem CMul.ok {i j:Int} (h:CMul i j):IntMulOk i j:=by
 rcases h with ⟨h1,h2⟩ | ⟨h1,h2⟩
 ·exact .of_left (intBits_le_64 h1 h2)
 ·exact .of_right (intBits_le_64 h1 h2)
theorem Qo:OpR X (binaryOp .Add) (rI0 fun i j=>.int (i + j)):=opI0 fun _ _ _ _ _ _ _ q=>add_int q
theorem Qei:OpR X (binaryOp .Sub) (rI0 fun i j=>.int (i - j)):=opI0 fun _ _ _ _ _ _ _ q=>sub_int q
theorem Zm:OpR X (binaryOp .Mult) (rI CMul fun i j=>.int (i * j)):=opI fun _ _ _ _ _ _ _ hc q=>mul_int q hc.ok
theorem Xh:OpR X (binaryOp .FloorDiv) (rI CDiv fun i j=>.int (i / j)):=opI fun i j _ _ _ _ _ hc q=>by
 have h1:(0:Int) < j:=hc.1
 have h2:j < 1073741824:=hc.2
 exact floordiv_int (by lia) (by rw [Int.fdiv_eq_ediv_of_nonneg i (by lia)];exact q) (.inl (PyProof.noPylong_small (by lia)))
theorem Qv:OpR X (binaryOp .Mod) (rI (fun _ j=>0 < j) fun i j=>.int (i % j)):=opI fun i j _ _ _ _ _ hc q=>by
 have h1:(0:Int) < j:=hc
 exact mod_int' (by lia) (by rw [Int.fmod_eq_emod_of_nonneg i (by lia)];exact q)
theorem unI {f:Value->Sem Value} {g:Int->Int}
  (rule:∀ (i:Int) (t:Tok) (s:Shared) (Q:Value->Shared->Prop) (E:Value->Shared->Prop),Q (.int (g i) s.toks) { s with toks:=s.toks + 1 }->wpAny (model X.prog X.w) X.A (f (.int i t)) Q E s) :
  UnR X f (rU fun i=>.int (g i)):=by
 intro pins s σ H x v Q I rx h
 obtain ⟨i,rfl,q⟩:=h
 obtain ⟨t,rfl⟩:=rx
 exact rule i t s _ _ ⟨.int (g i),H,I.tok _,⟨_,rfl⟩,q⟩
theorem Jo:UnR X (unaryOp .USub) (rU fun i=>.int (-i)):=unI fun _ _ _ _ _ q=>neg_int q
end
def scal:V->V->Bool
 | .non,.non=>true | .non,.int _=>true | .int _,.non=>true | .non,.bl _=>true | .bl _,.non=>true | .non,.str _=>true | .str _,.non=>true
 | .int _,.int _=>true | .bl _,.bl _=>true | .str _,.str _=>true | .byt _,.byt _=>true
 | .int _,.str _=>true | .str _,.int _=>true | .bl _,.str _=>true | .str _,.bl _=>true
 | _,_=>false
def rEq:R2:=fun x y H Q=>scal x y=true/\Q (.bl (decide (x=y))) H
def rNe:R2:=fun x y H Q=>scal x y=true/\Q (.bl (!decide (x=y))) H
theorem Qgz {i j:Int}:decide (V.int i=V.int j)=(i == j):=by
 rw [jJd]
 simp
theorem Qlz {i j:Bool}:decide (V.bl i=V.bl j)=(i == j):=by
 rw [jJd]
 simp
theorem Qha {i j:Str}:decide (V.str i=V.str j)=(i == j):=by
 rw [jJd]
 simp
theorem Qhb {i j:Array UInt8}:decide (V.byt i=V.byt j)=(i.toList == j.toList):=by
 rw [jJd]
 cases i
 cases j
 simp
section
variable {X:Cx} {a b c:Expr} {ta tb tc:TE} {pos:Pos}
theorem Xj {pins:List (Addr × Obj)} {σ:St} {H:Hp} {s:Shared} {Q:VK} {k k':Bool} (I:Inv X pins σ H s) (q:Q (.bl k) H) (e:k=k'):EP X pins σ Q (.bool k') s:=by
 subst e
 exact ⟨.bl k,H,I,rfl,q⟩
theorem Xy:OpR X (compareOp .Eq) rEq:=by
 intro pins s σ H x y v u Q I rx ry h
 obtain ⟨hs,q⟩:=h
 cases x with
 | non =>
  cases rx
  cases y with
  | non=>cases ry;exact PySem.EqNone.eq_none_none (Xj I q (by simp))
  | bl j=>cases ry;exact PySem.EqNone.eq_none_bool (Xj I q (by simp))
  | int j=>obtain ⟨t',rfl⟩:=ry;exact PySem.EqNone.eq_none_int (Xj I q (by simp))
  | str j=>obtain ⟨t',rfl⟩:=ry;exact PySem.EqNone.eq_none_str (Xj I q (by simp))
  | _=>exact absurd (show false=true from hs) kK
 | bl i =>
  cases rx
  cases y with
  | non=>cases ry;exact PySem.EqNone.eq_bool_none (Xj I q (by simp))
  | bl j=>cases ry;exact eq_bool (Xj I q Qlz)
  | str j=>obtain ⟨t',rfl⟩:=ry;exact PySem.EqMixed.eq_bool_str (Xj I q (by simp))
  | _=>exact absurd (show false=true from hs) kK
 | int i =>
  obtain ⟨t,rfl⟩:=rx
  cases y with
  | non=>cases ry;exact PySem.EqNone.eq_int_none (Xj I q (by simp))
  | int j=>obtain ⟨t',rfl⟩:=ry;exact eq_int (Xj I q Qgz)
  | str j=>obtain ⟨t',rfl⟩:=ry;exact PySem.EqMixed.eq_int_str (Xj I q (by simp))
  | _=>exact absurd (show false=true from hs) kK
 | str i =>
  obtain ⟨t,rfl⟩:=rx
  cases y with
  | non=>cases ry;exact PySem.EqNone.eq_str_none (Xj I q (by simp))
  | bl j=>cases ry;exact PySem.EqMixed.eq_str_bool (Xj I q (by simp))
  | int j=>obtain ⟨t',rfl⟩:=ry;exact PySem.EqMixed.eq_str_int (Xj I q (by simp))
  | str j=>obtain ⟨t',rfl⟩:=ry;exact eq_str (Xj I q Qha)
  | _=>exact absurd (show false=true from hs) kK
 | byt i =>
  obtain ⟨t,rfl⟩:=rx
  cases y with
  | byt j=>obtain ⟨t',rfl⟩:=ry;exact PySem.W.eq_bytes (Xj I q Qhb)
  | _=>exact absurd (show false=true from hs) kK
 | _=>cases y <;> exact absurd (show false=true from hs) kK
theorem Qjz:OpR X (compareOp .NotEq) rNe:=by
 intro pins s σ H x y v u Q I rx ry h
 obtain ⟨hs,q⟩:=h
 cases x with
 | non =>
  cases rx
  cases y with
  | non=>cases ry;exact PySem.EqNone.ne_none_none (Xj I q (by simp))
  | bl j=>cases ry;exact PySem.EqNone.ne_none_bool (Xj I q (by simp))
  | int j=>obtain ⟨t',rfl⟩:=ry;exact PySem.EqNone.ne_none_int (Xj I q (by simp))
  | str j=>obtain ⟨t',rfl⟩:=ry;exact PySem.EqNone.ne_none_str (Xj I q (by simp))
  | _=>exact absurd (show false=true from hs) kK
 | bl i =>
  cases rx
  cases y with
  | non=>cases ry;exact PySem.EqNone.ne_bool_none (Xj I q (by simp))
  | bl j=>cases ry;exact ne_bool (Xj I q (congrArg not Qlz))
  | str j=>obtain ⟨t',rfl⟩:=ry;exact PySem.EqMixed.ne_bool_str (Xj I q (by simp))
  | _=>exact absurd (show false=true from hs) kK
 | int i =>
  obtain ⟨t,rfl⟩:=rx
  cases y with
  | non=>cases ry;exact PySem.EqNone.ne_int_none (Xj I q (by simp))
  | int j=>obtain ⟨t',rfl⟩:=ry;exact ne_int (Xj I q (congrArg not Qgz))
  | str j=>obtain ⟨t',rfl⟩:=ry;exact PySem.EqMixed.ne_int_str (Xj I q (by simp))
  | _=>exact absurd (show false=true from hs) kK
 | str i =>
  obtain ⟨t,rfl⟩:=rx
  cases y with
  | non=>cases ry;exact PySem.EqNone.ne_str_none (Xj I q (by simp))
  | bl j=>cases ry;exact PySem.EqMixed.ne_str_bool (Xj I q (by simp))
  | int j=>obtain ⟨t',rfl⟩:=ry;exact PySem.EqMixed.ne_str_int (Xj I q (by simp))
  | str j=>obtain ⟨t',rfl⟩:=ry;exact ne_str (Xj I q (congrArg not Qha))
  | _=>exact absurd (show false=true from hs) kK
 | byt i =>
  obtain ⟨t,rfl⟩:=rx
  cases y with
  | byt j=>obtain ⟨t',rfl⟩:=ry;exact PySem.W.ne_bytes (Xj I q (congrArg not Qhb))
  | _=>exact absurd (show false=true from hs) kK
 | _=>cases y <;> exact absurd (show false=true from hs) kK
theorem Qhc:OpR X (compareOp .Lt) (rI0 fun i j=>.bl (decide (i < j))):=opB0 fun _ _ _ _ _ _ _ q=>lt_int q
theorem Qfm:OpR X (compareOp .LtE) (rI0 fun i j=>.bl (decide (i<=j))):=opB0 fun _ _ _ _ _ _ _ q=>le_int q
theorem op_gt:OpR X (compareOp .Gt) (rI0 fun i j=>.bl (decide (j < i))):=opB0 fun _ _ _ _ _ _ _ q=>gt_int q
theorem Qej:OpR X (compareOp .Is) (fun x y H Q=>y=.non/\Q (.bl (decide (x=.non))) H):=by
 intro pins s σ H x y v u Q I rx ry h
 obtain ⟨rfl,q⟩:=h
 cases ry
 refine is_none_gen (Xj I q ?_)
 cases x <;> first
  | (cases rx;rfl)
  | (obtain ⟨t,rfl⟩:=rx;rfl)
theorem Qdh:OpR X (compareOp .IsNot) (fun x y H Q=>y=.non/\Q (.bl (!decide (x=.non))) H):=by
 intro pins s σ H x y v u Q I rx ry h
 obtain ⟨rfl,q⟩:=h
 cases ry
 refine isnot_none_gen (Xj I q ?_)
 cases x <;> first
  | (cases rx;rfl)
  | (obtain ⟨t,rfl⟩:=rx;rfl)
theorem Qu (b:Expr) {op:CmpOp} (h:autoParam (op ≠ .In) L2.aDec._auto_1) (h2:autoParam (op ≠ .NotIn) L2.aDec._auto_1):behindInMarks op b=false:=by
 have e1:(op == CmpOp.In)=false:=by cases op <;> first | rfl | exact absurd rfl h
 have e2:(op == CmpOp.NotIn)=false:=by cases op <;> first | rfl | exact absurd rfl h2
 cases b <;> simp [behindInMarks,e1,e2]
theorem Zk {op:CmpOp} {r:R2} (ho:OpR X (compareOp op) r) (ha:PE X a ta) (hb:PE X b tb) (hm:behindInMarks op b=false):PE X (.Compare a [op] [b] pos) (tOp r ta tb):=by
 intro pins s σ H Q I h
 exact wpAny_Compare1 (binT ha hb I h fun v u s2 x y H2 I2 rx ry q=>ho pins s2 σ H2 x y v u Q I2 rx ry q) hm
def tTest (t:TE):TT:=fun σ H Q=>t σ H fun x H'=>∃ k,x=.bl k/\Q k H'
theorem Qr {op:CmpOp} {r:R2} (ho:OpR X (compareOp op) r) (ha:PE X a ta) (hb:PE X b tb) (hm:behindInMarks op b=false):PT X (.Compare a [op] [b] pos) (tTest (tOp r ta tb)):=by
 intro pins s σ H Q I h
 refine wpAny_isTrue_Compare1 (thn (ha pins s σ H _ I h) fun v s1 ⟨x,H1,I1,r1,q1⟩=>thn (hb pins s1 σ H1 _ I1 q1) fun u s2 ⟨y,H2,I2,r2,q2⟩ =>
  thn (ho pins s2 σ H2 x y v u _ I2 r1 r2 q2) fun c s3 ⟨z,H3,I3,r3,k,e,q3⟩=>?_) hm
 subst e
 cases r3
 exact wpAny_truthy_bool ⟨H3,I3,q3⟩
def Qma (r r':R2) (ta tb tc:TE):TE:=fun σ H Q=>ta σ H fun x H1=>tb σ H1 fun y H2=>r x y H2 fun z H3=>∃ k,z=.bl k /\
 (if k=true then tc σ H3 fun w' H4=>r' y w' H4 Q else Q (.bl false) H3)
theorem Qao {op op':CmpOp} {r r':R2} (ho:OpR X (compareOp op) r) (ho':OpR X (compareOp op') r') (ha:PE X a ta) (hb:PE X b tb) (hc:PE X c tc)
  (hm:lastMarks [op,op'] [b,c]=false:=by with_unfolding_all rfl):PE X (.Compare a [op,op'] [b,c] pos) (Qma r r' ta tb tc):=by
 intro pins s σ H Q I h
 refine Compare_chain (thn (ha pins s σ H _ I h) fun v s1 ⟨x,H1,I1,r1,q1⟩=>chain_link (thn (hb pins s1 σ H1 _ I1 q1) fun u s2 ⟨y,H2,I2,r2,q2⟩ =>
  thn (ho pins s2 σ H2 x y v u _ I2 r1 r2 q2) fun d s3 ⟨z,H3,I3,r3,k,e,q3⟩=>?_)) hm
 subst e
 cases r3
 refine wpAny_truthy_bool ?_
 cases k with
 | false=>exact ite_ff ⟨.bl false,H3,I3,rfl,q3⟩
 | true=>exact ite_tt (chain_last (thn (hc pins s3 σ H3 _ I3 q3) fun w' s4 ⟨z',H4,I4,r4,q4⟩=>ho' pins s4 σ H4 y z' u w' Q I4 r2 r4 q4))
theorem Qka {op op':CmpOp} {r r':R2} (ho:OpR X (compareOp op) r) (ho':OpR X (compareOp op') r') (ha:PE X a ta) (hb:PE X b tb) (hc:PE X c tc)
  (hm:lastMarks [op,op'] [b,c]=false:=by with_unfolding_all rfl):PT X (.Compare a [op,op'] [b,c] pos) (tTest (Qma r r' ta tb tc)):=by
 intro pins s σ H Q I h
 refine isTrue_chain (thn (ha pins s σ H _ I h) fun v s1 ⟨x,H1,I1,r1,q1⟩=>test_link (thn (hb pins s1 σ H1 _ I1 q1) fun u s2 ⟨y,H2,I2,r2,q2⟩ =>
  thn (ho pins s2 σ H2 x y v u _ I2 r1 r2 q2) fun d s3 ⟨z,H3,I3,r3,k,e,q3⟩=>?_)) hm
 subst e
 cases r3
 refine wpAny_truthy_bool ?_
 cases k with
 | false =>
  obtain ⟨k',e',q'⟩:=q3
  cases e'
  exact ite_ff ⟨H3,I3,q'⟩
 | true =>
  refine ite_tt (test_last (thn (hc pins s3 σ H3 _ I3 q3) fun w' s4 ⟨z',H4,I4,r4,q4⟩=>thn (ho' pins s4 σ H4 y z' u w' _ I4 r2 r4 q4) fun d' s5 hqP=>?_))
  obtain ⟨z2,H5,I5,r5,k2,e2,q5⟩:=hqP
  subst e2
  cases r5
  exact wpAny_truthy_bool ⟨H5,I5,q5⟩
theorem Qac:(sizeLine:Nat) < 2 ^ 63:=by rw [sizeLine_eq];decide
theorem Qfn:OpR X (binaryOp .Add) (fun x y H Q=>∃ i j,x=.str i/\y=.str j/\i.length + j.length<=sizeLine/\Q (.str (i ++ j)) H):=by
 intro pins s σ H x y v u Q I rx ry h
 obtain ⟨i,j,rfl,rfl,hz,q⟩:=h
 obtain ⟨t,rfl⟩:=rx
 obtain ⟨t',rfl⟩:=ry
 exact add_str (fun t' tk=>⟨.str (i ++ j),H,I.tok _,⟨_,rfl⟩,q⟩) hz
theorem vals1 {x:V} {us:List Value} (r:Vals [x] us):∃ u,us=[u]/\RelV x u:=by
 cases r with
 | cons r1 r2=>cases r2;exact ⟨_,rfl,r1⟩
theorem vals2 {x y:V} {us:List Value} (r:Vals [x,y] us):∃ u w',us=[u,w']/\RelV x u/\RelV y w':=by
 cases r with
 | cons r1 r2 =>
  cases r2 with
  | cons r3 r4=>cases r4;exact ⟨_,_,rfl,r1,r3⟩
theorem Zz (hc:X.calm=true):Jm X (.builtin "min") (fun xs H Q=>∃ i j,xs=[.int i,.int j]/\Q (.int (if j < i then j else i)) H):=by
 intro pins s σ H xs us Q I r h
 obtain ⟨i,j,rfl,q⟩:=h
 obtain ⟨u,w',rfl,⟨t,rfl⟩,⟨t',rfl⟩⟩:=vals2 r
 refine min_two_ints (I.ok.hd hc) fun h' tk k=>⟨_,H,I.kept k,?_,q⟩
 by_cases hj:j < i
 ·rw [if_pos hj,if_pos hj];exact ⟨_,rfl⟩
 ·rw [if_neg hj,if_neg hj];exact ⟨_,rfl⟩
end
structure ObjM (h:Heap) (x dx C:Addr) (mA:Str->Option Value):Prop where
 obj:h.get? x=some (PySem.W.instObj C dx)
 ns:h.Ns1 dx mA
 ne:dx ≠ x
theorem Qhd {h:Heap} {dx:Addr} {mA:Str->Option Value} (n:h.Ns1 dx mA):∃ od,h.get? dx=some od/\∀ name,PySem.W.lookIn name od=some (mA name):=by
 obtain ⟨o,es,ep,ho,hd,hk,_,hm⟩:=n
 refine ⟨o,ho,fun name=>?_⟩
 have e:=hm name
 unfold nsFind findBy at e
 rw [← jKd] at e
 unfold PySem.W.lookIn
 rw [hd]
 dsimp only
 split
 ·rename_i y q
  rw [q] at e
  exact congrArg some e
 ·rename_i q
  rw [q] at e
  have a:es.toList.any (·.refKey)=false:=by
   rw [List.any_eq_false]
   intro y hy
   obtain ⟨z,t,hkey⟩:=hk y (Array.mem_toList_iff.mp hy)
   simp [DictEntry.refKey,hkey]
  have a':¬ es.toList.any (·.refKey)=true:=by rw [a];exact kK
  rw [if_neg a']
  exact congrArg some e
theorem ObjM.look {h:Heap} {x dx C:Addr} {mA:Str->Option Value} (I:ObjM h x dx C mA):∃ od,PySem.W.InstAt h x (PySem.W.instObj C dx) C (some od)/\∀ name,PySem.W.lookIn name od=some (mA name) :=
 let ⟨od,ho,hl⟩:=Qhd I.ns
 ⟨od,⟨I.obj,rfl,rfl,ho⟩,hl⟩
section
variable {prog:Program} {w:World} {A:Around} {E:Value->Shared->Prop} {s:Shared} {K:Fg} {x dx C f:Addr} {mA:Str->Option Value} {name:Str} {v:Value}
theorem get_map {expr:Bool} {Q:Value->Shared->Prop} (X:K.In s.heap) (I:ObjM s.heap x dx C mA) (hg:PySem.W.plainGet K C name=true) (hh:PySem.W.hasDictIn K C=true)
  (ha:PySem.W.findIn K (.ref C) name=some none) (hv:mA name=some v) (hv':PySem.W.handedIn v=true) (h:Q v { s with toks:=s.toks + 1 }) :
  wpAny (model prog w) A (getAttr (.ref x) name expr) Q E s:=by
 obtain ⟨od,J,hl⟩:=I.look
 exact PySem.W.get_value X J (PySem.W.plainGet_of hg).1 (PySem.W.findObj_own hh ha rfl (by rw [hl,hv])) hv' h
theorem Qkb {pl:Sem Bool} {Q:Value × List Value->Shared->Prop} (X:K.In s.heap) (I:ObjM s.heap x dx C mA) (hg:PySem.W.plainGet K C name=true)
  (hf:PySem.W.findIn K (.ref C) name=some (some (.ref f))) (ht:PySem.W.isFn K (.ref f)=true) (hv:mA name=none) (h:Q (.ref f,[.ref x]) s) :
  wpAny (model prog w) A (getMethod (.ref x) name pl) Q E s:=by
 obtain ⟨od,J,hl⟩:=I.look
 exact PySem.W.method_fn X J (PySem.W.plainGet_of hg).1 (PySem.W.plainGet_of hg).2 hf (beq_iff_eq.mp ht) (by show (PySem.W.lookIn name od).map (·.isSome)=some false;rw [hl,hv];rfl) h
theorem Qng {ns:List Str} {Q:Unit->Shared->Prop} (X:K.In s.heap) (I:ObjM s.heap x dx C mA)
  (hs:PySem.W.findIn K (.ref C) "__setattr__"=some (some (.builtin "object.__setattr__"))) (hp:PySem.W.plainOver K C=true) (ht:PySem.W.takerIn K C name=some none) (hh:PySem.W.hasDictIn K C=true)
  (hw:PySem.Within mA ns) (hsz:ns.length<=sizeLine)
  (h:∀ h',ObjM h' x dx C (fun y=>if y=name then some v else mA y)->Heap.SameBut dx s.heap h'->Q () { s with heap:=h',toks:=s.toks + 2 }) :
  wpAny (model prog w) A (setAttr (.ref x) name v) Q E s:=by
 obtain ⟨od,J,hl⟩:=I.look
 refine PySem.W.set_plain X J hs (PySem.W.osa_open (s:={ s with toks:=s.toks + 1 }) (r:=none) X J hp ht fun b=>?_)
 obtain ⟨cd,hc,hd'⟩:=PySem.W.any_some hh
 have hx:s.heap.get? x=some ⟨.ref C,some dx,.plain,#[]⟩:=I.obj
 refine jZ (kJ (jZ (jZ (wpAny_loadPart hx (jZ (PySem.W.Looks.here (s:={ s with toks:=s.toks + 1 }) (PySem.W.looks_clsIn X hc) ?_))))))
 rw [hd']
 refine kJ (a:=some dx) (jZ (kJ (jZ ?_)))
 refine wpAny_nsSet1 (s:={ s with toks:=s.toks + 1 }) I.ns fun h' hn2 hs2=>?_
 obtain ⟨oD,esD,epD,hoD,hdD,hcD⟩:=hn2.count (PySem.Within.cons name v hw)
 refine jZ (wpAny_lookBehind hoD (by rw [hdD];exact pastItsLine_dict (xW hcD (by rw [zJ];lia))) ?_)
 exact kJ (h _ ⟨(hs2.2 _ (Ne.symm I.ne)).trans I.obj,hn2,I.ne⟩ hs2)
theorem Qek {R:Result->Shared->Prop} {vs:List Value} {kw:List (Str × Value)} (X:K.In s.heap) (hm:PySem.W.makesIn K C=true)
  (hi:PySem.W.findIn K (.ref C) "__init__"=some (some (.ref f))) (hf:PySem.W.typeIn K (.ref f)=some (.type "function"))
  (h:codeAny (model prog w) (A.under (.builtin "type.__call__" ⟨.ref C :: vs,kw⟩)) (.call (.ref f) ⟨.ref (s.heap.objs.size + 1) :: vs,kw⟩) (PySem.W.InitBack (s.heap.objs.size + 1) R)
   { s with heap:=(s.heap.push PySem.W.emptyDict).push (PySem.W.instObj C s.heap.objs.size) }) :
  codeAny (model prog w) A (.call (.ref C) ⟨vs,kw⟩) R s:=by
 obtain ⟨hh,g,d,t,os⟩:=s
 exact PySem.W.make_core (PySem.W.makes_of X hm) (PySem.W.looks_findIn X hi) (fun self=>PySem.W.bind_fn X self hf) (.inl rfl) h
end
def putF (f:Str) (v:V):List (Str × V)->List (Str × V)
 | []=>[(f,v)]
 | (g,x) :: r=>if g=f then (g,v) :: r else (g,x) :: putF f v r
theorem Vo (f g:Str) (v:V):∀ fs:List (Str × V),(putF f v fs).lookup g=if g=f then some v else fs.lookup g
 | []=>by
  show List.lookup g [(f,v)]=_
  by_cases h:g=f
  ·have hb:(g == f)=true:=beq_iff_eq.mpr h
   simp only [List.lookup,hb,if_pos h]
  ·have hb:(g == f)=false:=beq_eq_false_iff_ne.mpr h
   simp only [List.lookup,hb,if_neg h]
 | (k,x) :: r=>by
  have ih:=Vo f g v r
  rw [show putF f v ((k,x) :: r)=(if k=f then (k,v) :: r else (k,x) :: putF f v r) from rfl]
  by_cases hk:k=f
  ·rw [if_pos hk]
   by_cases h:g=k
   ·have hb:(g == k)=true:=beq_iff_eq.mpr h
    simp only [List.lookup,hb,if_pos (h.trans hk)]
   ·have hb:(g == k)=false:=beq_eq_false_iff_ne.mpr h
    simp only [List.lookup,hb,if_neg (fun e:g=f=>h (e.trans hk.symm))]
  ·rw [if_neg hk]
   by_cases h:g=k
   ·have hb:(g == k)=true:=beq_iff_eq.mpr h
    simp only [List.lookup,hb,if_neg (fun e:g=f=>hk (h.symm.trans e))]
   ·have hb:(g == k)=false:=beq_eq_false_iff_ne.mpr h
    simp only [List.lookup,hb]
    exact ih
theorem Vp (f:Str) (v:V):∀ fs:List (Str × V),f ∈ (putF f v fs).map (·.1)/\∀ g,g ∈ fs.map (·.1)->g ∈ (putF f v fs).map (·.1)
 | []=>⟨by simp [putF],fun g h=>by simp at h⟩
 | (k,x) :: r=>by
  obtain ⟨i1,i2⟩:=Vp f v r
  rw [show putF f v ((k,x) :: r)=(if k=f then (k,v) :: r else (k,x) :: putF f v r) from rfl]
  by_cases hk:k=f
  ·rw [if_pos hk]
   subst hk
   exact ⟨by simp,fun g h=>by simpa using h⟩
  ·rw [if_neg hk]
   refine ⟨?_,fun g h=>?_⟩
   ·rw [xZ]
    exact jY _ i1
   ·rw [xZ] at h ⊢
    rcases jJ.mp h with e | e
    ·exact jJ.mpr (.inl e)
    ·exact jY _ (i2 g e)
theorem Vq (f:Str) (v:V):∀ fs:List (Str × V),(putF f v fs).length<=fs.length + 1
 | []=>by simp [putF]
 | (k,x) :: r=>by
  have ih:=Vq f v r
  rw [show putF f v ((k,x) :: r)=(if k=f then (k,v) :: r else (k,x) :: putF f v r) from rfl]
  by_cases hk:k=f
  ·rw [if_pos hk,zJ,zJ];lia
  ·rw [if_neg hk,zJ,zJ];lia
theorem RelO.some_of {v:V} {o:Option Value} (r:RelO (some v) o):∃ u,o=some u/\RelV v u:=by
 cases o with
 | none=>exact (show False from r).elim
 | some u=>exact ⟨u,rfl,r⟩
theorem RelO.none_of {o:Option Value} (r:RelO none o):o=none:=by
 cases o with
 | none=>rfl
 | some u=>exact (show False from r).elim
theorem Qbz {v:V} {u:Value} (r:RelV v u):PySem.W.handedIn u=true:=by
 cases v with
 | non=>cases (show u=Value.none from r);rfl
 | bl b=>cases (show u=Value.bool b from r);rfl
 | int i=>obtain ⟨t,e⟩:=(show ∃ t,u=Value.int i t from r);cases e;rfl
 | str x=>obtain ⟨t,e⟩:=(show ∃ t,u=Value.str x t from r);cases e;rfl
 | byt b=>obtain ⟨t,e⟩:=(show ∃ t,u=Value.bytes b t from r);cases e;rfl
 | flt b=>obtain ⟨t,e⟩:=(show ∃ t,u=Value.float b t from r);cases e;rfl
 | ref a=>cases (show u=Value.ref a from r);rfl
 | ty n=>cases (show u=Value.type n from r);rfl
section
variable {P:Program} {w:World} {H:Hp} {h:Heap} {a C dx:Addr} {fs:List (Str × V)}
theorem Qdi (hok:HOk P w H h) (e:H a=some (.ins C dx fs)):∃ mA,ObjM h a dx C mA/\(∀ f,RelO (fs.lookup f) (mA f))/\PySem.Within mA (fs.map (·.1))/\fs.length<=1000/\H dx=some (.own a):=by
 obtain ⟨d,z,ne,ob,mA,n,r,q⟩:=(show ObjOk P w H h a (.ins C dx fs) from hok a _ e)
 exact ⟨mA,⟨ob,n,ne⟩,r,q,z,d⟩
end
structure Cls (K:Fg) (C:Addr):Prop where
 pg:PySem.W.plainGet K C Str.empty=true
 hd:PySem.W.hasDictIn K C=true
 po:PySem.W.plainOver K C=true
 sa:PySem.W.findIn K (.ref C) "__setattr__"=some (some (.builtin "object.__setattr__"))
theorem Cls.get {K:Fg} {C:Addr} (c:Cls K C) (f:Str):PySem.W.plainGet K C f=true:=c.pg
def NoAttr (K:Fg) (C:Addr) (f:Str):Prop:=PySem.W.findIn K (.ref C) f=some none
theorem NoAttr.taker {K:Fg} {C:Addr} {f:Str} (n:NoAttr K C f):PySem.W.takerIn K C f=some none:=by
 unfold PySem.W.takerIn
 rw [show PySem.W.findIn K (.ref C) f=some none from n]
 rfl
structure Meth (K:Fg) (C:Addr) (m:Str) (f:Addr):Prop where
 at_:PySem.W.findIn K (.ref C) m=some (some (.ref f))
 fn:PySem.W.isFn K (.ref f)=true
 kp:PySem.W.keepIn K (.ref f)=true
section
variable {X:Cx} {pins:List (Addr × Obj)} {σ:St} {H:Hp} {s:Shared} {a C dx:Addr} {fs:List (Str × V)} {f:Str} {v:V} {A:Around} {E:Value->Shared->Prop}
theorem Qfo {b:Bool} {Q:Value->Shared->Prop} (I:Inv X pins σ H s) (e:H a=some (.ins C dx fs)) (c:Cls X.K C) (n:NoAttr X.K C f) (l:fs.lookup f=some v)
  (h:∀ u s',Inv X pins σ H s'->RelV v u->Q u s'):wpAny (model X.prog X.w) A (getAttr (.ref a) f b) Q E s:=by
 obtain ⟨mA,O,r,_,_,_⟩:=Qdi I.hok e
 obtain ⟨u,hu,ru⟩:=RelO.some_of (v:=v) (o:=mA f) (by rw [← l];exact r f)
 exact get_map I.kIn O (c.get f) c.hd n hu (Qbz ru) (h u _ (I.tok _) ru)
theorem Jd {m:Str} {g:Addr} {pl:Sem Bool} {Q:Value × List Value->Shared->Prop} (I:Inv X pins σ H s) (e:H a=some (.ins C dx fs)) (c:Cls X.K C) (k:Meth X.K C m g) (l:fs.lookup m=none)
  (h:Q (.ref g,[.ref a]) s):wpAny (model X.prog X.w) A (getMethod (.ref a) m pl) Q E s:=by
 obtain ⟨mA,O,r,_,_,_⟩:=Qdi I.hok e
 have hn:mA m=none:=RelO.none_of (by rw [← l];exact r m)
 exact Qkb I.kIn O (c.get m) k.at_ k.fn hn h
theorem Qfp {y:V} {u:Value} {Q:Unit->Shared->Prop} (I:Inv X pins σ H s) (e:H a=some (.ins C dx fs)) (c:Cls X.K C) (n:NoAttr X.K C f) (hl:fs.length < 1000) (ry:RelV y u)
  (h:∀ s',Inv X pins σ (upd H a (.ins C dx (putF f y fs))) s'->Q () s'):wpAny (model X.prog X.w) A (setAttr (.ref a) f u) Q E s:=by
 obtain ⟨mA,O,r,wi,_,ho⟩:=Qdi I.hok e
 have hz:(fs.map (·.1)).length<=sizeLine:=by rw [jK,sizeLine_eq];lia
 refine Qng I.kIn O c.sa c.po n.taker c.hd wi hz fun h' O' sb=>h _ ?_
 have hd:∃ o,h'.get? dx=some o:=let ⟨o,_,_,e',_⟩:=O'.ns;⟨o,e'⟩
 refine I.write (x:=a) (e:=dx) (by rw [e];exact True.intro) (.inr ho) (fun b q hb z=>(sb.2 b hb).trans z) hd ?_
 refine ⟨by rw [Ql O.ne];exact ho,?_,O.ne,O'.obj,_,O'.ns,fun g=>?_,fun g hg=>?_⟩
 ·have:=Vq f y fs;lia
 ·show RelO ((putF f y fs).lookup g) (if g=f then some u else mA g)
  rw [Vo]
  by_cases q:g=f
  ·rw [if_pos q,if_pos q];exact ry
  ·rw [if_neg q,if_neg q];exact r g
 ·by_cases q:g=f
  ·rw [q];exact (Vp f y fs).1
  ·refine (Vp f y fs).2 g (wi g fun z=>hg ?_)
   show (if g=f then some u else mA g)=none
   rw [if_neg q];exact z
theorem Inv.made (I:Inv X pins σ H s):Inv X pins σ (upd (upd H s.heap.objs.size (.own (s.heap.objs.size + 1))) (s.heap.objs.size + 1) (.ins C s.heap.objs.size []))
  { s with heap:=(s.heap.push PySem.W.emptyDict).push (PySem.W.instObj C s.heap.objs.size) }:=by
 have e1:(s.heap.push PySem.W.emptyDict).get? s.heap.objs.size=some PySem.W.emptyDict:=kW s.heap rfl
 have e2:((s.heap.push PySem.W.emptyDict).push (PySem.W.instObj C s.heap.objs.size)).get? (s.heap.objs.size + 1)=some (PySem.W.instObj C s.heap.objs.size):=by
  have:=kW (s.heap.push PySem.W.emptyDict) (o:=PySem.W.instObj C s.heap.objs.size) rfl
  rwa [wY] at this
 have e3:(s.heap.push PySem.W.emptyDict).Ns s.heap.objs.size (fun _=>none):=⟨PySem.W.emptyDict,#[],_,e1,rfl,(fun e he=>absurd he (by simp)),fun _=>rfl⟩
 have I1:=I.laid (a:=s.heap.objs.size) (o:=.own (s.heap.objs.size + 1)) (h':=s.heap.push PySem.W.emptyDict) (t':=s.toks) (fun b u q=>jV _ q) (kQ _) ⟨_,e1⟩
 refine I1.laid (a:=s.heap.objs.size + 1) (o:=.ins C s.heap.objs.size []) (t':=s.toks) (fun b u q=>jV _ q) (Nat.le_of_eq (wY _ _)) ?_
 have ne:s.heap.objs.size ≠ s.heap.objs.size + 1:=yJ (jYb _)
 refine ⟨by rw [Ql ne,Qd],wX _,ne,e2,fun _=>none,(Heap.Ns1.of_empty e3).at fun o q=>jV _ q,fun _=>True.intro,fun y hy=>absurd rfl hy⟩
theorem Qhe {prog:Program} {w:World} {env:Env} {e:Expr} {f:Str} {pos:Pos} {s:Shared} {Q:Value->Shared->Prop} (hb:attributeBase e f env (eval e env)=eval e env)
  (h:wpAny (model prog w) A (eval e env) (fun o s₁=>wpAny (model prog w) A (getAttr o f true) Q E s₁) E s):wpAny (model prog w) A (eval (.Attribute e f pos) env) Q E s :=
 Attribute_any_ h (by rw [arm_eval_Attribute,hb])
end
def tFld (K:Fg) (ta:TE) (f:Str):TE:=fun σ H Q=>ta σ H fun x H1=>∃ a C dx fs v,x=.ref a/\H1 a=some (.ins C dx fs)/\Cls K C/\NoAttr K C f/\fs.lookup f=some v/\Q v H1
def sFld (K:Fg) (ta tv:TE) (f:Str):TS:=fun D σ H=>tv σ H fun y H1=>ta σ H1 fun x H2=>∃ a C dx fs,x=.ref a/\H2 a=some (.ins C dx fs)/\Cls K C/\NoAttr K C f/\fs.length < 1000 /\
 D.nx σ (upd H2 a (.ins C dx (putF f y fs)))
section
variable {X:Cx} {o e value:Expr} {f:Str} {pos pos':Pos} {ta tv:TE}
theorem Qad (he:PE X e ta) (hb:attributeBase e f X.env (eval e X.env)=eval e X.env):PE X (.Attribute e f pos) (tFld X.K ta f):=by
 intro pins s σ H Q I h
 refine Qhe hb (thn (he pins s σ H _ I h) fun u s1 hqP=>?_)
 obtain ⟨x,H1,I1,rx,a,C,dx,fs,v,ex,ea,c,n,l,q⟩:=hqP
 subst ex
 obtain rfl:u=Value.ref a:=rx
 exact Qfo I1 ea c n l fun u' s2 I2 ru=>⟨v,H1,I2,ru,q⟩
theorem Qmb (ha:PE X o ta) (hv:PE X value tv) (hs:swapsWith value (some (.Attribute o f pos')) pos.line X.env=pure false):PS X (.Assign [.Attribute o f pos'] value pos) (sFld X.K ta tv f):=by
 intro pins s σ H D I h
 refine plainObj_wpAny_Assign_Attribute (thn (hv pins s σ H _ I h) fun u s1 ⟨y,H1,I1,ry,q⟩=>thn (ha pins s1 σ H1 _ I1 q) fun ov s2 hqP=>?_) hs
 obtain ⟨x,H2,I2,rx,a,C,dx,fs,ex,ea,c,n,l,q2⟩:=hqP
 subst ex
 obtain rfl:ov=Value.ref a:=rx
 exact Qfp I2 ea c n l ry fun s3 I3=>⟨σ,_,I3,q2⟩
end
structure Room (k:Nat) (A:Around):Prop where
 hd:A.handled=none
 dp:A.depth + 3 * k + 5 < recursionLimit
 un:A.units + 16 * k + 200 < cLine
theorem Room.mono {j k:Nat} {A:Around} (r:Room k A) (h:j<=k):Room j A:=⟨r.hd,by have:=r.dp;lia,by have:=r.un;lia⟩
theorem Room.deeper {k:Nat} {A:Around} (r:Room (k + 1) A) (env:Env):Room k (A.deeper env) :=
 ⟨r.hd,by have:=r.dp;show A.depth + 1 + 3 * k + 5 < _;lia,by have:=r.un;show A.units + 3 + 16 * k + 200 < _;lia⟩
theorem Qfq {A:Around} {C:Addr} {us:List Value} {kw:List (Str × Value)}:(A.under (.builtin "type.__call__" ⟨.ref C :: us,kw⟩)).depth=A.depth + 1:=by
 first | rfl | simp [Around.under,Code.weight,Code.isCreation,Code.isGuard,Code.isCaller,Code.frames,Code.isFrame,guardIds]
theorem Qfr {A:Around} {C:Addr} {us:List Value} {kw:List (Str × Value)}:(A.under (.builtin "type.__call__" ⟨.ref C :: us,kw⟩)).units=A.units + 1:=by
 first | rfl | simp [Around.under,Code.cUnits,Code.frames,Code.isFrame]
theorem Room.make {k:Nat} {A:Around} (r:Room (k + 1) A) (C:Addr) (us:List Value) (kw:List (Str × Value)):Room k (A.under (.builtin "type.__call__" ⟨.ref C :: us,kw⟩)) :=
 ⟨r.hd,by have:=r.dp;rw [Qfq];lia,by have:=r.un;rw [Qfr];lia⟩
theorem Room.depth {k:Nat} {A:Around} (r:Room k A):A.depth < recursionLimit:=by have:=r.dp;lia
def tNil:TA:=fun _ H Q=>Q [] H
def Qap (ta:TE) (tr:TA):TA:=fun σ H Q=>ta σ H fun x H1=>tr σ H1 fun xs H2=>Q (x :: xs) H2
section
variable {X:Cx} {e:Expr} {es:List Expr} {te:TE} {t:TA} {pos:Pos}
theorem Qg:PA X [] tNil:=fun _ _ _ _ H Q I h=>Calls.spliced_nil ⟨[],H,I,.nil,h⟩
theorem Qa (ha:PE X e te) (hr:PA X es t) (hs:autoParam (starEach (e :: es) X.env=(false,eval e X.env) :: starEach es X.env) L2.aRfl._auto_1):PA X (e :: es) (Qap te t):=by
 intro pos pins s σ H Q I h
 rw [hs]
 show wpAny _ _ (spliced ((false,eval e X.env) :: backTo pos (starEach es X.env))) _ _ s
 refine Calls.spliced_cons (thn (ha pins s σ H _ I h) fun u s1 hqP=>?_)
 obtain ⟨x,H1,I1,r1,q1⟩:=hqP
 exact thn (hr pos pins s1 σ H1 _ I1 q1) fun us s2 ⟨xs,H2,I2,r2,q2⟩=>⟨x :: xs,H2,I2,.cons r1 r2,q2⟩
def tTup (t:TA):TE:=fun σ H Q=>t σ H fun xs H1=>xs.length<=sizeLine/\∀ p,H1 p=none->Q (.ref p) (upd H1 p (.tup xs))
def tLst (t:TA):TE:=fun σ H Q=>t σ H fun xs H1=>xs.length<=sizeLine/\∀ p,H1 p=none->Q (.ref p) (upd H1 p (.lst xs))
theorem Qae {x1} (h:PA X es t):PE X (.Tuple es x1 pos) (tTup t):=by
 intro pins s σ H Q I hq
 refine wpAny_Tuple_spliced (thn (h pos pins s σ H _ I hq) fun us s1 ⟨xs,H1,I1,r,z,q⟩=>⟨by rw [← r.length];exact z,?_⟩)
 have hf:H1 s1.heap.objs.size=none:=I1.hok.fresh (kQ _)
 refine ⟨.ref s1.heap.objs.size,upd H1 s1.heap.objs.size (.tup xs),I1.laid (t':=s1.toks) (fun b u e=>jV _ e) (kQ _) ?_,rfl,q _ hf⟩
 exact ⟨z,us,r,⟨_,kW _ rfl,rfl,_,rfl⟩⟩
theorem Xi (h:PA X es t):PE X (.List es pos) (tLst t):=by
 intro pins s σ H Q I hq
 refine wpAny_List_spliced (thn (h pos pins s σ H _ I hq) fun us s1 ⟨xs,H1,I1,r,z,q⟩=>⟨by rw [← r.length];exact z,?_⟩)
 have hf:H1 s1.heap.objs.size=none:=I1.hok.fresh (kQ _)
 refine ⟨.ref s1.heap.objs.size,upd H1 s1.heap.objs.size (.lst xs),I1.laid (t':=s1.toks) (fun b u e=>jV _ e) (kQ _) ?_,rfl,q _ hf⟩
 exact ⟨z,us,0,r,kW _ rfl⟩
end
abbrev Sp:=List V->Hp->VK->XK->Prop
abbrev CXT:=List Env->Hp->Shared->XK->Value->Shared->Prop
structure Env0 (P:Program) (w:World) (K:Fg) (mg:Str->Option Value) (base:Heap) (A:Around) (outer:List Env) (s:Shared) (H:Hp):Prop where
 frames:A.frames=some outer
 mod:Mod K mg base
 bs:∀ b o,base.get? b=some o->s.heap.get? b=some o/\H b=none
 bsz:base.objs.size<=s.heap.objs.size
 funs:s.heap.FunFrames base outer
 frf:∀ b ∈ frs outer,H b=none
 hok:HOk P w H s.heap
 bare:AllBare s.gens
def CE (outer:List Env) (P:Program) (w:World) (H:Hp) (s:Shared) (Q:VK) (u:Value) (s':Shared):Prop :=
 ∃ v H',s'.os=s.os/\AllBare s'.gens/\Un (frs outer) [] H H' s.heap s'.heap/\HOk P w H' s'.heap/\RelV v u/\Q v H'
def CR (CX:CXT) (outer:List Env) (P:Program) (w:World) (H:Hp) (s:Shared) (Q:VK) (E:XK) (r:Result) (s':Shared):Prop :=
 match r with
 | .ok (.ret u)=>CE outer P w H s Q u s'
 | .ok _=>False
 | .error e=>CX outer H s E e s'
structure FnOk (P:Program) (w:World) (K:Fg) (mg:Str->Option Value) (base:Heap) (CX:CXT) (k:Nat) (f:Addr) (fd:FuncData) (ps:List Str) (sp:Sp):Prop where
 len:∀ vs H Q E,sp vs H Q E->vs.length=ps.length
 run:∀ (A:Around) (outer:List Env) (s:Shared) (H:Hp) (args:Args) (us:List Value) (vs:List V) (Q:VK) (E:XK),Room k A->Env0 P w K mg base A outer s H->BindsTo s fd args (ps.zip us)->Vals vs us->sp vs H Q E ->
  codeAny (model P w) A (.call (.ref f) args) (CR CX outer P w H s Q E) s
theorem Env0.make {P:Program} {w:World} {K:Fg} {mg:Str->Option Value} {base:Heap} {A:Around} {outer:List Env} {s:Shared} {H:Hp} (e:Env0 P w K mg base A outer s H) (C:Addr) (us:List Value) (kw:List (Str × Value)) :
  Env0 P w K mg base (A.under (.builtin "type.__call__" ⟨.ref C :: us,kw⟩)) outer s H:=⟨by first | exact e.frames | (simpa [Around.under,Code.envs,Code.isFrame,pushEnvs] using e.frames),e.mod,e.bs,e.bsz,e.funs,e.frf,e.hok,e.bare⟩
section
variable {X:Cx} {pins:List (Addr × Obj)} {σ:St} {H:Hp} {s s':Shared}
theorem Inv.env0 (I:Inv X pins σ H s):Env0 X.prog X.w X.K X.mg X.base X.A X.stack s H :=
 ⟨I.ok.frames,I.ok.mod,I.bs,xW I.ok.bsz I.sz,I.stack,I.stkFree,I.hok,I.bare⟩
theorem Inv.after {Q:VK} {u:Value} (I:Inv X pins σ H s) (h:CE X.stack X.prog X.w H s Q u s'):EP X pins σ Q u s':=by
 obtain ⟨v,H',os,bare,un,hok,r,q⟩:=h
 obtain ⟨hh,g,d,t,os'⟩:=s'
 obtain rfl:os'=s.os:=os
 exact ⟨v,H',I.call (h':=hh) (g':=g) (d':=d) (t':=t) (ch:=[]) un hok bare (fun b z=>absurd z (by simp)),r,q⟩
end
def Qnh (sp:Sp) (dvs:List V) (E:XK) (t:TA):TE:=fun σ H Q=>t σ H fun vs H1=>sp (vs ++ dvs) H1 Q E
def Qkc (C:Addr) (m:Str) (sp:Sp) (dvs:List V) (E:XK) (ta:TE) (t:TA):TE:=fun σ H Q=>ta σ H fun x H1=>∃ a dx fs,x=.ref a/\H1 a=some (.ins C dx fs)/\fs.lookup m=none /\
 t σ H1 fun vs H2=>sp (x :: (vs ++ dvs)) H2 Q E
def tMake (C:Addr) (sp:Sp) (dvs:List V) (E:XK) (t:TA):TE:=fun σ H Q=>t σ H fun vs H1=>∀ x dx,H1 x=none->H1 dx=none->dx ≠ x ->
 sp (.ref x :: (vs ++ dvs)) (upd (upd H1 dx (.own x)) x (.ins C dx [])) (fun v H2=>v=.non/\Q (.ref x) H2) E
def Binds (K:Fg) (fd:FuncData) (ps:List Str) (ds:List Value):Prop :=
 ∀ (s:Shared) (us:List Value),K.In s.heap->(us ++ ds).length=ps.length->BindsTo s fd ⟨us,[]⟩ (ps.zip (us ++ ds))
theorem Binds.all {K:Fg} {fd:FuncData} {ps:List Str} (h:∀ us:List Value,us.length=ps.length->bindArgs fd ⟨us,[]⟩=pure (ps.zip us)):Binds K fd ps []:=fun s us _ hl=>by
 rw [jJe] at hl ⊢
 exact .of_eq (h us hl)
def Jw (CX:CXT) (X:Cx) (E:XK):Prop:=∀ (pins:List (Addr × Obj)) (σ:St) (H:Hp) (s:Shared) (e:Value) (s':Shared),Inv X pins σ H s->CX X.stack H s E e s'->X.xe e s'
section
variable {X:Cx} {CX:CXT} {k:Nat} {f C:Addr} {fd:FuncData} {ps:List Str} {sp:Sp} {dvs:List V} {ds:List Value} {E:XK} {x m:Str} {p pos apos:Pos} {e o:Expr} {es:List Expr} {ta:TE} {t:TA}
theorem Qhf {pins:List (Addr × Obj)} {σ:St} {H:Hp} {s:Shared} {Q:VK} {us:List Value} {vs:List V} (F:FnOk X.prog X.w X.K X.mg X.base CX k f fd ps sp) (hr:Room k X.A) (hb:Binds X.K fd ps ds) (hd:Vals dvs ds) (hx:Jw CX X E)
  (I:Inv X pins σ H s) (r:Vals vs us) (h:sp (vs ++ dvs) H Q E):wpAny (model X.prog X.w) X.A (call (.ref f) us) (EP X pins σ Q) X.xe s:=by
 have r2:Vals (vs ++ dvs) (us ++ ds):=r.append hd
 have hl:(us ++ ds).length=ps.length:=by rw [← r2.length];exact F.len _ _ _ _ h
 refine wpAny_call (codeAny_mono (F.run X.A X.stack s H ⟨us,[]⟩ (us ++ ds) (vs ++ dvs) Q E hr I.env0 (hb s us I.kIn hl) r2 h) fun r s' hq=>?_)
 cases r with
 | error e=>exact hx pins σ H s e s' I hq
 | ok fl =>
  cases fl with
  | ret u=>exact I.after hq
  | next=>exact False.elim hq
  | brk=>exact False.elim hq
  | cont=>exact False.elim hq
theorem Qhg (F:FnOk X.prog X.w X.K X.mg X.base CX k f fd ps sp) (hr:Room k X.A) (hg:Gl X x) (hm:X.mg x=some (.ref f)) (hk:PySem.W.keepIn X.K (.ref f)=true) (hb:Binds X.K fd ps ds) (hd:Vals dvs ds) (hx:Jw CX X E)
  (ha:PA X (e :: es) t) (hdb:autoParam ((x == ("__debug__":Str))=false) L2.aDec._auto_1) (he:autoParam (starEach (e :: es) X.env=(false,eval e X.env) :: starEach es X.env) L2.aRfl._auto_1) (hpl:autoParam ((backTo pos (starEach es X.env)).any (·.1)=false) L2.aRfl._auto_1) :
  PE X (.Call (.Name x p) (e :: es) [] pos) (Qnh sp dvs E t):=by
 intro pins s σ H Q I h
 refine wpAny_Call_Name_kw (Zi I hg hm ?_ hdb)
 refine PySem.W.callWith_K (h₀:=X.base) I.ok.mod.kin hk (thn (ha pos pins s σ H _ I h) fun us s1 ⟨vs,H1,I1,r,q⟩=>⟨I1.kIn,?_⟩) he hpl
 exact Qhf F hr hb hd hx I1 r q
theorem Qdj {pl:Sem Bool} (he:PE X o ta) (c:Cls X.K C) (hm:Meth X.K C m f) (F:FnOk X.prog X.w X.K X.mg X.base CX k f fd ps sp) (hr:Room k X.A) (hb:Binds X.K fd ps ds) (hd:Vals dvs ds) (hx:Jw CX X E) (ha:PA X (e :: es) t)
  (hst:autoParam (starEach (e :: es) X.env=(false,eval e X.env) :: starEach es X.env) L2.aRfl._auto_1) (hpl:autoParam ((backTo pos (starEach es X.env)).any (·.1)=false) L2.aRfl._auto_1)
  (ht:eval (.Call (.Attribute o m apos) (e :: es) [] pos) X.env=(do
   let ov ← eval o X.env
   standAt apos.atName
   let (f,first) ← holding [ov] (getMethod ov m pl)
   callWith pos f first (backTo pos (starEach (e :: es) X.env)) (backToKw pos (keywordEach [] X.env))):=by rfl) :
  PE X (.Call (.Attribute o m apos) (e :: es) [] pos) (Qkc C m sp dvs E ta t):=by
 intro pins s σ H Q I h
 refine PySem.W.methodCall_KW (pl:=pl) (thn (he pins s σ H _ I h) fun u s1 hqP=>?_) ht
 obtain ⟨x,H1,I1,rx,a,dx,fs,ex,ea,l,q⟩:=hqP
 subst ex
 obtain rfl:u=Value.ref a:=rx
 refine Jd I1 ea c hm l ?_
 refine PySem.W.callWith_K (first:=[.ref a]) (h₀:=X.base) I.ok.mod.kin hm.kp (thn (ha pos pins s1 σ H1 _ I1 q) fun us s2 ⟨vs,H2,I2,r,q2⟩=>⟨I2.kIn,?_⟩) hst hpl
 exact Qhf (us:=.ref a :: us) (vs:=.ref a :: vs) F hr hb hd hx I2 (.cons rfl r) q2
theorem Qaq {pl:Sem Bool} (he:PE X o ta) (c:Cls X.K C) (hm:Meth X.K C m f) (F:FnOk X.prog X.w X.K X.mg X.base CX k f fd ps sp) (hr:Room k X.A) (hb:Binds X.K fd ps ds) (hd:Vals dvs ds) (hx:Jw CX X E)
  (ht:eval (.Call (.Attribute o m apos) [] [] pos) X.env=(do
   let ov ← eval o X.env
   standAt apos.atName
   let (f,first) ← holding [ov] (getMethod ov m pl)
   callWith pos f first (backTo pos (starEach [] X.env)) (backToKw pos (keywordEach [] X.env))):=by rfl) :
  PE X (.Call (.Attribute o m apos) [] [] pos) (Qkc C m sp dvs E ta tNil):=by
 intro pins s σ H Q I h
 refine PySem.W.methodCall_KW (pl:=pl) (thn (he pins s σ H _ I h) fun u s1 hqP=>?_) ht
 obtain ⟨x,H1,I1,rx,a,dx,fs,ex,ea,l,q⟩:=hqP
 subst ex
 obtain rfl:u=Value.ref a:=rx
 refine Jd I1 ea c hm l ?_
 exact PySem.W.callWith_K0 (first:=[.ref a]) I1.kIn hm.kp (Qhf (us:=[.ref a]) (vs:=[.ref a]) F hr hb hd hx I1 (.cons rfl .nil) q)
structure Mk (K:Fg) (C f:Addr):Prop where
 makes:PySem.W.makesIn K C=true
 init:PySem.W.findIn K (.ref C) "__init__"=some (some (.ref f))
 fn:PySem.W.isFn K (.ref f)=true
 kp:PySem.W.keepIn K (.ref C)=true
theorem Qkd {pins:List (Addr × Obj)} {σ:St} {H:Hp} {s:Shared} {Q:VK} {us:List Value} {vs:List V} (M:Mk X.K C f) (F:FnOk X.prog X.w X.K X.mg X.base CX k f fd ps sp) (hr:Room (k + 1) X.A) (hb:Binds X.K fd ps ds) (hd:Vals dvs ds)
  (hx:Jw CX X E) (I:Inv X pins σ H s) (r:Vals vs us)
  (h:∀ x dx,H x=none->H dx=none->dx ≠ x->sp (.ref x :: (vs ++ dvs)) (upd (upd H dx (.own x)) x (.ins C dx [])) (fun v H2=>v=.non/\Q (.ref x) H2) E) :
  wpAny (model X.prog X.w) X.A (call (.ref C) us) (EP X pins σ Q) X.xe s:=by
 have hq:=h (s.heap.objs.size + 1) s.heap.objs.size (I.hok.fresh (jZa _)) (I.hok.fresh (kQ _)) (yJ (jYb _))
 have I2:=Inv.made (C:=C) I
 have r2:Vals (V.ref (s.heap.objs.size + 1) :: (vs ++ dvs)) (Value.ref (s.heap.objs.size + 1) :: (us ++ ds)):=.cons rfl (r.append hd)
 have hl:(Value.ref (s.heap.objs.size + 1) :: us ++ ds).length=ps.length:=by
  have e:=r2.length
  rw [F.len _ _ _ _ hq] at e
  exact e.symm
 refine wpAny_call (Qek (f:=f) I.kIn M.makes M.init (beq_iff_eq.mp M.fn) (codeAny_mono (F.run _ X.stack _ _ ⟨Value.ref (s.heap.objs.size + 1) :: us,[]⟩ (Value.ref (s.heap.objs.size + 1) :: (us ++ ds)) _ _ E (hr.make C us [])
  (I2.env0.make C us []) (hb _ (Value.ref (s.heap.objs.size + 1) :: us) I2.kIn hl) r2 hq) fun r s' hq'=>?_))
 cases r with
 | error e=>exact hx pins σ _ _ e s' I2 hq'
 | ok fl =>
  cases fl with
  | ret u =>
   obtain ⟨v,H',I3,rv,ev,q3⟩:=I2.after hq'
   subst ev
   exact ⟨rv,⟨V.ref (s.heap.objs.size + 1),H',I3,rfl,q3⟩⟩
  | next=>exact False.elim hq'
  | brk=>exact False.elim hq'
  | cont=>exact False.elim hq'
theorem Qhh (M:Mk X.K C f) (F:FnOk X.prog X.w X.K X.mg X.base CX k f fd ps sp) (hr:Room (k + 1) X.A) (hg:Gl X x) (hm:X.mg x=some (.ref C)) (hb:Binds X.K fd ps ds) (hd:Vals dvs ds) (hx:Jw CX X E)
  (ha:PA X (e :: es) t) (hdb:autoParam ((x == ("__debug__":Str))=false) L2.aDec._auto_1) (he:autoParam (starEach (e :: es) X.env=(false,eval e X.env) :: starEach es X.env) L2.aRfl._auto_1) (hpl:autoParam ((backTo pos (starEach es X.env)).any (·.1)=false) L2.aRfl._auto_1) :
  PE X (.Call (.Name x p) (e :: es) [] pos) (tMake C sp dvs E t):=by
 intro pins s σ H Q I h
 refine wpAny_Call_Name_kw (Zi I hg hm ?_ hdb)
 refine PySem.W.callWith_K (h₀:=X.base) I.ok.mod.kin M.kp (thn (ha pos pins s σ H _ I h) fun us s1 ⟨vs,H1,I1,r,q⟩=>⟨I1.kIn,?_⟩) he hpl
 exact Qkd M F hr hb hd hx I1 r q
end
structure FnScope (N P:List Str) (sc:Scope):Prop where
 kind:sc.kind=.function
 co:sc.isCoroutine=false
 gen:sc.isGenerator=false
 nd:N.Nodup
 pre:N.take P.length=P
 par:∀ x ∈ P,sc.names.lookup x=some .local\/sc.names.lookup x=some .cell
 nofree:∀ y ∈ sc.names,y.2 ≠ .free
theorem Qca {kindOf:Str->Option NameKind} {x:Str}:∀ {binds:List (Str × Value)} {m:Str->Option Value},(∀ v,(x,v) ∉ binds)->bindL kindOf binds m x=m x
 | [],_,_=>rfl
 | (n,v) :: r,m,h=>by
  unfold bindL
  rw [Qca fun w hw=>h w (jY _ hw)]
  split
  ·have:x ≠ n:=by rintro rfl;exact h v jX
   simp [this]
  ·rfl
theorem Qcb {kindOf:Str->Option NameKind} {x:Str}:∀ {binds:List (Str × Value)} {m:Str->Option Value},(∀ v,(x,v) ∉ binds)->bindC kindOf binds m x=m x
 | [],_,_=>rfl
 | (n,v) :: r,m,h=>by
  unfold bindC
  rw [Qcb fun w hw=>h w (jY _ hw)]
  split
  ·rfl
  ·have:x ≠ n:=by rintro rfl;exact h v jX
   simp [this]
theorem Qcc {kindOf:Str->Option NameKind} {x:Str} {v:Value}:∀ {P:List Str} {vs:List Value} {i:Nat} {m:Str->Option Value},P.Nodup->P[i]?=some x->vs[i]?=some v->kindOf x=some .local ->
  bindL kindOf (P.zip vs) m x=some v
 | [],_,_,_,_,h,_,_=>by simp at h
 | _ :: _,[],_,_,_,_,h,_=>by simp at h
 | p :: P,w :: vs,0,m,nd,h1,h2,hk=>by
  simp at h1 h2;subst h1;subst h2
  show bindL kindOf ((p,w) :: P.zip vs) m p=_
  unfold bindL
  rw [Qca fun v hv=>(kQe.mp nd).1 (List.of_mem_zip hv).1,if_pos hk]
  simp
 | p :: P,w :: vs,i + 1,m,nd,h1,h2,hk=>by
  show bindL kindOf ((p,w) :: P.zip vs) m x=_
  unfold bindL
  exact Qcc (i:=i) (kQe.mp nd).2 (by simpa using h1) (by simpa using h2) hk
theorem Qcd {kindOf:Str->Option NameKind} {x:Str} {v:Value}:∀ {P:List Str} {vs:List Value} {i:Nat} {m:Str->Option Value},P.Nodup->P[i]?=some x->vs[i]?=some v->kindOf x ≠ some .local ->
  bindC kindOf (P.zip vs) m x=some v
 | [],_,_,_,_,h,_,_=>by simp at h
 | _ :: _,[],_,_,_,_,h,_=>by simp at h
 | p :: P,w :: vs,0,m,nd,h1,h2,hk=>by
  simp at h1 h2;subst h1;subst h2
  show bindC kindOf ((p,w) :: P.zip vs) m p=_
  unfold bindC
  rw [Qcb fun v hv=>(kQe.mp nd).1 (List.of_mem_zip hv).1,if_neg hk]
  simp
 | p :: P,w :: vs,i + 1,m,nd,h1,h2,hk=>by
  show bindC kindOf ((p,w) :: P.zip vs) m x=_
  unfold bindC
  exact Qcd (i:=i) (kQe.mp nd).2 (by simpa using h1) (by simpa using h2) hk
def start (N:List Str) (vs:List V):St:=vs.map some ++ List.replicate (N.length - vs.length) none
def cxOf (CX:CXT) (P:Program) (w:World) (K:Fg) (mg:Str->Option Value) (base:Heap) (N:List Str) (qual:Str) (scope:Scope) (f:Addr) (cd:Value) (A:Around) (outer:List Env) (s:Shared) (H:Hp) (E:XK):Cx where
 prog:=P
 w:=w
 K:=K
 mg:=mg
 base:=base
 A:=A.deeper (envOfC qual scope s.heap.objs.size f cd)
 N:=N
 s₀:=s
 H₀:=H
 env:=envOfC qual scope s.heap.objs.size f cd
 outer:=outer
 stack:=envOfC qual scope s.heap.objs.size f cd :: outer
 ex:=[]
 calm:=true
 fn:=fun _=>true
 pn:=[]
 xe:=fun e s'=>wpAny (model P w) (A.deeper (envOfC qual scope s.heap.objs.size f cd)) (leaving (envOfC qual scope s.heap.objs.size f cd) e) (fun _ s''=>CX outer H s E e s'') (fun e' s''=>CX outer H s E e' s'') s'
theorem Qel {sc:Scope} {n:Nat} {x:Str} (h:sc.names.lookup x=some .cell):∃ c,(cellsFrom n sc.names []).lookup x=some c:=by
 have q:=PySem.W.cellsFrom_some sc.names n [] (.inl h)
 exact jXc.mp q
theorem Qhi {CX:CXT} {P:Program} {w:World} {K:Fg} {mg:Str->Option Value} {base:Heap} {N ps:List Str} {qual:Str} {scope:Scope} {f:Addr} {cd:Value} {A:Around} {outer:List Env} {s s1:Shared} {H:Hp} {E:XK} {us:List Value} {vs:List V}
  (S:FnScope N ps scope) (hd:A.handled=none) (e0:Env0 P w K mg base A outer s H) (hl:vs.length=ps.length) (r:Vals vs us)
  (x:InCallC s s.heap.objs.size (bindL (envOfC qual scope s.heap.objs.size f cd).kindOf (ps.zip us) fun _=>none) (cellsFrom (s.heap.objs.size + 1) scope.names []) (bindC (envOfC qual scope s.heap.objs.size f cd).kindOf (ps.zip us) fun _=>none) s1) :
  Inv (cxOf CX P w K mg base N qual scope f cd A outer s H E) [] (start N vs) H s1:=by
 have hpl:ps.length<=N.length:=by have:=congrArg List.length S.pre;rw [yW] at this;lia
 obtain ⟨h1,tk,rfl,hk⟩:=x.done
 have noA:∀ b:Addr,b ∉ (cxOf CX P w K mg base N qual scope f cd A outer s H E).ex:=fun b z=>absurd (show b ∈ ([]:List Addr) from z) (by simp)
 refine ⟨⟨e0.mod,S.kind,rfl,rfl,kQ _,fun y z c h1 h2=>?_,fun y hy=>?_,fun y c _ h=>?_,fun _=>hd,Around.frames_deeper e0.frames,.inr ⟨rfl,rfl⟩,fun b z=>absurd z (noA b),e0.bs,e0.bsz,fun b _ _=>noA b,fun b z=>absurd z (noA b),e0.funs,e0.frf⟩,
  rfl,e0.bare,Un.kept hk,⟨_,x.toInCall.ns,fun i y v h1 h2 h3=>?_⟩,fun y c h=>⟨_,x.cell y c h⟩,e0.hok.fresh (kQ _),fun y c h=>?_,fun p hp=>absurd (show p ∈ ([]:List (Addr × Obj)) from hp) (by simp),e0.hok.kept hk,?_⟩
 ·exact name_of_addr x.apart (PySem.mem_of_lookup h1) (PySem.mem_of_lookup h2)
 ·have hy:scope.names.lookup y=some .cell\/scope.names.lookup y=some .free:=hy
  rcases hy with hy | hy
  ·exact Qel hy
  ·exact absurd rfl (S.nofree _ (PySem.mem_of_lookup hy))
 ·exact kQc (x.above y c (PySem.mem_of_lookup h))
 ·have hi:i < vs.length:=by
   unfold start at h2
   by_cases hi:i < vs.length
   ·exact hi
   ·rw [jQd (by simpa using hi)] at h2
    rw [List.getElem?_replicate] at h2
    split at h2 <;> cases h2
  have ha:vs[i]?=some v:=by
   unfold start at h2
   rw [jYc (by simpa using hi),xJ] at h2
   cases e:vs[i]? with
   | none=>rw [e] at h2;cases h2
   | some a=>rw [e] at h2;cases h2;rfl
  obtain ⟨u,hu,rv⟩:=r.get ha
  have hp:ps[i]?=some y:=by
   rw [← S.pre,jYd (by lia)];exact h1
  have ndP:ps.Nodup:=by rw [← S.pre];exact S.nd.sublist (List.take_sublist _ _)
  refine ⟨u,rv,?_⟩
  rcases S.par y (yX hp) with k | k
  ·exact .inl ⟨k,Qcc ndP hp hu k⟩
  ·obtain ⟨c,e⟩:=Qel (n:=s.heap.objs.size + 1) k
   refine .inr ⟨.inl k,c,e,?_⟩
   have q:=x.cell y c e
   rw [Qcd ndP hp hu (by show scope.names.lookup y ≠ _;rw [k];decide)] at q
   exact q
 ·exact e0.hok.fresh (kQc (x.above y c (PySem.mem_of_lookup h)))
 ·unfold start
  show _=N.length
  rw [jW,jK,List.length_replicate]
  lia
theorem Qni {CX:CXT} {P:Program} {w:World} {K:Fg} {mg:Str->Option Value} {base:Heap} {k:Nat} {f:Addr} {name qual:Str} {params:Arguments} {body:List Stmt} {scope:Scope} {dV kV doc pm cdv ct oc:Value} {an od:Option Addr}
  {osl:Array (Option Value)} {N ps:List Str} {sp:Sp} (lk:K.lookup f=some ⟨oc,od,.func (PySem.W.fnOf name qual params body scope dV kV doc pm an cdv ct),osl⟩) (hcd:PySem.W.codeIn K cdv qual=true) (S:FnScope N ps scope)
  (len:∀ vs H Q E,sp vs H Q E->vs.length=ps.length)
  (hbody:∀ (A:Around) (outer:List Env) (s:Shared) (H:Hp) (vs:List V) (Q:VK) (E:XK),Room k (A.deeper (envOfC qual scope s.heap.objs.size f cdv))->sp vs H Q E ->
   ∃ t,PSs (cxOf CX P w K mg base N qual scope f cdv A outer s H E) body t/\t { nx:=fun _ H'=>Q .non H',rt:=Q } (start N vs) H) :
  FnOk P w K mg base CX (k + 1) f (PySem.W.fnOf name qual params body scope dV kV doc pm an cdv ct) ps sp:=by
 refine ⟨len,fun A outer s H args us vs Q E hr e0 hb r hsp=>?_⟩
 have hl:=len _ _ _ _ hsp
 have KX:K.In s.heap:=e0.mod.kin.keeps fun b o e=>(e0.bs b o e).1
 have lim:s.heap.NoLimit:=e0.mod.nolimit.keeps fun b o e=>(e0.bs b o e).1
 have hkind:∀ y ∈ ps.zip us,scope.names.lookup y.1=some .local\/(scope.names.lookup y.1=some .cell/\((cellsFrom (s.heap.objs.size + 1) scope.names []).lookup y.1).isSome=true):=fun ⟨n,v⟩ hy=>by
  rcases S.par n (List.of_mem_zip hy).1 with q | q
  ·exact .inl q
  ·exact .inr ⟨q,PySem.W.cellsFrom_some _ _ _ (.inl q)⟩
 refine codeAny_call_function hr.depth (KX _ _ lk) rfl S.co S.gen rfl (PySem.W.codeRec_of KX hcd) (hb _ _ _ _ ?_)
 refine wpAny_newFunctionEnv_cells S.kind hkind fun env he s1 x=>?_
 subst he
 refine ⟨lim.keeps x.toInCall.keep,codeAny_func ?_⟩
 obtain ⟨t,ht,hq⟩:=hbody A outer s H vs Q E (hr.deeper _) hsp
 have I:Inv (cxOf CX P w K mg base N qual scope f cdv A outer s H E) [] (start N vs) H s1:=Qhi S hr.hd e0 hl r x
 refine wpAny_mono (ht [] s1 (start N vs) H _ I hq) (fun fl s' hs=>?_) fun e s' hs=>hs
 have fin:∀ {σ':St} {H':Hp} {v:V} {u:Value},Inv (cxOf CX P w K mg base N qual scope f cdv A outer s H E) [] σ' H' s'->RelV v u->Q v H'->CE outer P w H s Q u s' :=
  fun {σ' H' v u} J rv q=>⟨v,H',J.os,J.bare,J.base,J.hok,rv,q⟩
 cases fl with
 | ret u =>
  obtain ⟨v,σ',H',J,rv,q⟩:=hs
  exact fin J rv q
 | next =>
  obtain ⟨σ',H',J,q⟩:=hs
  exact fin (v:=V.non) (u:=Value.none) J rfl q
 | brk =>
  obtain ⟨_,_,_,q⟩:=hs
  exact False.elim q
 | cont =>
  obtain ⟨_,_,_,q⟩:=hs
  exact False.elim q
section
variable {X:Cx} {x:Str} {p pos:Pos} {e:Expr} {es:List Expr} {t:TA} {id T:String} {r:List V->Hp->VK->Prop}
def tCB (r:List V->Hp->VK->Prop) (t:TA):TE:=fun σ H Q=>t σ H fun vs H1=>r vs H1 Q
theorem Qm (hc:Jm X (.builtin id) r) (hg:Gl X x) (hm:X.mg x=none) (hv:bootBuiltins x=some (.builtin id)) (ha:PA X (e :: es) t) (hn:autoParam (x ≠ "__name__") L2.aDec._auto_1) (hdb:autoParam ((x == ("__debug__":Str))=false) L2.aDec._auto_1)
  (he:autoParam (starEach (e :: es) X.env=(false,eval e X.env) :: starEach es X.env) L2.aRfl._auto_1) (hpl:autoParam ((backTo pos (starEach es X.env)).any (·.1)=false) L2.aRfl._auto_1):PE X (.Call (.Name x p) (e :: es) [] pos) (tCB r t):=by
 intro pins s σ H Q I h
 refine wpAny_Call_Name_kw (Vk I hg hm hv ?_ hn hdb)
 exact PyProof.Rows.callWith_builtin1 (thn (ha pos pins s σ H _ I h) fun us s1 ⟨vs,H1,I1,r1,q1⟩=>hc pins s1 σ H1 vs us Q I1 r1 q1) he hpl
theorem Yc (hc:Jm X (.type T) r) (hg:Gl X x) (hm:X.mg x=none) (hv:bootBuiltins x=some (.type T)) (ha:PA X (e :: es) t) (hn:autoParam (x ≠ "__name__") L2.aDec._auto_1) (hdb:autoParam ((x == ("__debug__":Str))=false) L2.aDec._auto_1)
  (he:autoParam (starEach (e :: es) X.env=(false,eval e X.env) :: starEach es X.env) L2.aRfl._auto_1) (hpl:autoParam ((backTo pos (starEach es X.env)).any (·.1)=false) L2.aRfl._auto_1):PE X (.Call (.Name x p) (e :: es) [] pos) (tCB r t):=by
 intro pins s σ H Q I h
 refine wpAny_Call_Name_kw (Vk I hg hm hv ?_ hn hdb)
 exact PyProof.Rows.callWith_type1 (thn (ha pos pins s σ H _ I h) fun us s1 ⟨vs,H1,I1,r1,q1⟩=>hc pins s1 σ H1 vs us Q I1 r1 q1) he hpl
end
end L2
namespace HT
open PySem PyProof.Rows
section
variable {prog:Program} {w:World} {A:Around} {E:Value->Shared->Prop} {s:Shared}
theorem cat_tup {t b:Addr} {vs ws:List Value} {Q:Value->Shared->Prop} (ht:IsTup s.heap t vs.toArray) (hb:IsTup s.heap b ws.toArray) (hv:vs ≠ [])
  (h1:ws=[]->Q (.ref t) s) (h2:ws ≠ []->Q (.ref s.heap.objs.size) { s with heap:=s.heap.push { cls:=.type "tuple",data:=.seq (vs ++ ws).toArray } })
  (hsz:vs.length + ws.length<=sizeLine):wpAny (model prog w) A (binaryOp .Add (.ref t) (.ref b)) Q E s:=by
 obtain ⟨⟨cls,dd,data,sl⟩,ho,hc,n,hd⟩:=id ht
 obtain ⟨⟨cls2,dd2,data2,sl2⟩,ho2,hc2,n2,hd2⟩:=id hb
 simp only at hc hd hc2 hd2
 subst hc hd hc2 hd2
 have e:vs.toArray ++ ws.toArray=(vs ++ ws).toArray:=by simp
 by_cases hw:ws=[]
 ·exact concat_meets ⟨_,ho,rfl⟩ ⟨_,ho2,rfl⟩ noFill_tuple_add seq_tuple_add PySem.F.slot_tuple_add PySem.F.entry_tuple_add (PySem.F.args_tuple_add_2 _ _)
   (tuple_addW1 t b vs.toArray ws.toArray n n2 dd dd2 sl sl2 (by simpa using hv) (by simp [hw])) ⟨ho,ho2,h1 hw⟩
 ·refine concat_meets ⟨_,ho,rfl⟩ ⟨_,ho2,rfl⟩ noFill_tuple_add seq_tuple_add PySem.F.slot_tuple_add PySem.F.entry_tuple_add (PySem.F.args_tuple_add_2 _ _)
   (tuple_addW2 t b vs.toArray ws.toArray n n2 dd dd2 sl sl2 (by simpa using hv) (by simpa using hw) (by rw [kY,kY];exact hsz)) ⟨ho,ho2,?_⟩
  rw [e]
  exact h2 hw
def sIx (n d:Nat):Option Int->Nat
 | none=>d
 | some v=>if v < 0 then (v + (n:Int)).toNat else min v.toNat n
theorem sIx_none (n d:Nat):sIx n d none=d:=rfl
theorem sIx_nat (n d k:Nat):sIx n d (some (k:Int))=min k n:=by
 show (if (k:Int) < 0 then ((k:Int) + (n:Int)).toNat else min (k:Int).toNat n)=min k n
 rw [if_neg (by lia),kQa]
theorem sIx_le (n d:Nat) (hd:d<=n) (o:Option Int):sIx n d o<=n:=by
 cases o with
 | none=>exact hd
 | some v =>
  show (if v < 0 then (v + (n:Int)).toNat else min v.toNat n)<=n
  by_cases hv:v < 0
  ·rw [if_pos hv];lia
  ·rw [if_neg hv];exact Nat.min_le_right _ _
theorem min_cast (v:Int) (n:Nat) (h:¬ v < 0):min v (n:Int)=((min v.toNat n:Nat):Int):=by
 obtain ⟨k,rfl⟩:=Int.eq_ofNat_of_zero_le (Int.not_lt.mp h)
 rw [kQa]
 rcases Nat.le_total k n with h | h
 ·rw [xK h,Int.min_eq_left (Int.ofNat_le.mpr h)]
 ·rw [Nat.min_eq_right h,Int.min_eq_right (Int.ofNat_le.mpr h)]
theorem clip_eq (v:Int) (n d:Nat):(if v < 0 then max (v + (n:Int)) 0 else min v (n:Int))=((sIx n d (some v):Nat):Int):=by
 show (if v < 0 then max (v + (n:Int)) 0 else min v (n:Int))=(((if v < 0 then (v + (n:Int)).toNat else min v.toNat n):Nat):Int)
 by_cases hv:v < 0
 ·rw [if_pos hv,if_pos hv];exact (Int.ofNat_toNat _).symm
 ·rw [if_neg hv,if_neg hv];exact min_cast v n hv
theorem Qfs (lo hi:Option Int) (n:Nat):Builtin.Slice.sliceAdjust lo hi 1 (n:Int)=(((sIx n 0 lo:Nat):Int),((sIx n n hi:Nat):Int)):=by
 have h1:¬ ((1:Int) < 0):=by lia
 unfold Builtin.Slice.sliceAdjust
 simp only [h1,if_false]
 refine Prod.ext ?_ ?_
 ·cases lo with
  | none=>rfl
  | some v=>exact clip_eq v n 0
 ·cases hi with
  | none=>rfl
  | some v=>exact clip_eq v n n
theorem Qft (i j:Nat):Builtin.Slice.slicePlaces (i:Int) (j:Int) 1=j - i:=by
 unfold Builtin.Slice.slicePlaces
 have h1:(1:Int) > 0:=by lia
 simp only [h1,if_true,Int.ediv_one]
 split <;> lia
theorem Qaf {v:Value} {o:Option Int} {Q:Option Int->Shared->Prop} (p:IsPart v o) (h:Q o s):wpAny (model prog w) A (Builtin.Slice.slicePartIndex v) Q E s:=by
 cases p with
 | none=>exact slicePart_none h
 | int i t=>exact slicePart_int h
theorem Vc {sl:Addr} {vl vu:Value} {lo hi:Option Int} {n:Nat} {Q:Int × Int × Nat->Shared->Prop} (hs:s.heap.IsSliceOf sl vl vu .none) (pl:IsPart vl lo) (pu:IsPart vu hi)
  (h:Q (((sIx n 0 lo:Nat):Int),1,sIx n n hi - sIx n 0 lo) s):wpAny (model prog w) A (Builtin.Slice.sliceApplied (.ref sl) (pure (n:Int))) Q E s:=by
 obtain ⟨os,hos,hcs,hds⟩:=id hs
 unfold Builtin.Slice.sliceApplied Builtin.Slice.sliceFields
 refine jZ (jZ (wpAny_field hos hds (x:=vl) rfl (jZ (wpAny_field hos hds (x:=vu) rfl (jZ (wpAny_field hos hds (x:=.none) rfl (kJ ?_)))))))
 refine jZ (slicePart_none ?_)
 show wpAny _ _ (if ((1:Int) == 0)=true then _ else _) _ _ s
 rw [if_neg (by decide)]
 refine jZ (Qaf pl (jZ (Qaf pu (jZ (kJ ?_)))))
 show wpAny _ _ (match Builtin.Slice.sliceAdjust lo hi 1 (n:Int) with | (lo,hi)=>pure (lo,(1:Int),Builtin.Slice.slicePlaces lo hi 1)) _ _ s
 rw [Qfs lo hi n]
 show wpAny _ _ (pure (((sIx n 0 lo:Nat):Int),(1:Int),Builtin.Slice.slicePlaces ((sIx n 0 lo:Nat):Int) ((sIx n n hi:Nat):Int) 1)) _ _ s
 rw [Qft]
 exact kJ h
theorem Qke (xs:Array Value) (i k:Nat):((List.range k).filterMap fun (m:Nat)=>xs[((i:Int) + (m:Int) * 1).toNat]?).toArray=((xs.toList.drop i).take k).toArray:=by
 have e:(fun (m:Nat)=>xs[((i:Int) + (m:Int) * 1).toNat]?)=fun m=>xs[i + m]?:=by
  funext m
  have:((i:Int) + (m:Int) * 1).toNat=i + m:=by lia
  rw [this]
 rw [e]
 have:=pick_run xs i k
 rw [List.filterMap_map] at this
 have e2:((fun x=>xs[x]?) ∘ fun x=>i + x)=fun m=>xs[i + m]?:=rfl
 rw [e2] at this
 rw [this]
theorem getItem_tuple_cut {t sl:Addr} {items:Array Value} {vl vu:Value} {lo hi:Option Int} {Q:Value->Shared->Prop} (ht:IsTup s.heap t items) (hs:s.heap.IsSliceOf sl vl vu .none) (pl:IsPart vl lo) (pu:IsPart vu hi)
  (hw:¬ (sIx items.size 0 lo=0/\sIx items.size items.size hi=items.size))
  (h:Q (.ref s.heap.objs.size) { s with heap:=s.heap.push { cls:=.type "tuple",data:=.seq ((items.toList.drop (sIx items.size 0 lo)).take (sIx items.size items.size hi - sIx items.size 0 lo)).toArray } })
  (hsz:items.size<=sizeLine):wpAny (model prog w) A (getItem (.ref t) (.ref sl)) Q E s:=by
 have htake:sizeOk (.seq ((items.toList.drop (sIx items.size 0 lo)).take (sIx items.size items.size hi - sIx items.size 0 lo)).toArray):=by
  show ((items.toList.drop (sIx items.size 0 lo)).take (sIx items.size items.size hi - sIx items.size 0 lo)).toArray.size<=sizeLine
  rw [kY,yW,zK,jQf]
  lia
 have hj:sIx items.size items.size hi<=items.size:=sIx_le _ _ (kQ _) hi
 obtain ⟨os,hos,hcs,hds⟩:=id hs
 have hTs:s.TypeIs (.ref sl) "slice":=⟨os,hos,hcs⟩
 unfold getItem
 try with_reducible refine wpAny_holding ?_
 first | refine jZ (kJ ?_) | skip
 refine jZ (wpAny_sequenceKey ht.typeIs (by decide) ?_)
 refine jZ (wpAny_callSpecial?_slot (name:=Str.ofString "__getitem__") ht.typeIs PyProof.Rows.slot_tuple_getitem
  (wpAny_call_entry PyProof.Rows.slot_tuple_getitem ht.typeIs entry_tuple_getitem ?_ (args_tuple_getitem _ _)))
 show wpAny _ _ (Builtin.Tuple.tupleItemsOf (.ref t) >>= _) _ _ s
 refine jZ (tupleItemsOf_ ht ?_)
 refine jZ (wpAny_typeOf hTs ?_)
 rw [if_pos (by decide)]
 refine jZ (Vc hs pl pu ?_)
 have hno:¬ ((((sIx items.size 0 lo:Nat):Int) == 0 && (1:Int) == 1 && (sIx items.size items.size hi - sIx items.size 0 lo) == items.size)=true):=by
  intro q
  rw [xQ,xQ] at q
  have q1:((sIx items.size 0 lo:Nat):Int)=0:=eq_of_beq q.1.1
  have q2:sIx items.size items.size hi - sIx items.size 0 lo=items.size:=eq_of_beq q.2
  exact hw ⟨by lia,by lia⟩
 show wpAny _ _ (if (((sIx items.size 0 lo:Nat):Int) == 0 && (1:Int) == 1 && (sIx items.size items.size hi - sIx items.size 0 lo) == items.size)=true then _ else _) _ _ s
 rw [if_neg hno,Qke]
 first
  | exact jZ (m:=Builtin.Tuple.tupleExact _) (wpAny_newObj_type (kJ ⟨_,rfl,kJ h⟩) htake)
  | exact jZ (m:=Builtin.Tuple.tupleExact _) (wpAny_newObj_type (jZ (kJ (kJ ⟨_,rfl,kJ h⟩))) htake)
  | exact jZ (jZ (m:=Builtin.Tuple.tupleExact _) (wpAny_newObj_type (kJ (kJ ⟨_,rfl,kJ h⟩)) htake))
  | exact jZ (jZ (m:=Builtin.Tuple.tupleExact _) (wpAny_newObj_type (kJ ⟨_,rfl,kJ h⟩) htake))
end
end HT
namespace L2
open PySem PySem.Spec PyProof.Rows
abbrev TO:=St->Hp->(Option Int->Hp->Prop)->Prop
def PO (X:Cx) (e:Option Expr) (t:TO):Prop :=
 ∀ (pins:List (Addr × Obj)) (s:Shared) (σ:St) (H:Hp) (Q:Option Int->Hp->Prop),Inv X pins σ H s->t σ H Q ->
  wpAny (model X.prog X.w) X.A (evalPart e X.env) (fun u s'=>∃ o H',Inv X pins σ H' s'/\IsPart u o/\Q o H') X.xe s
def Qnj:TO:=fun _ H Q=>Q none H
def tPart (t:TE):TO:=fun σ H Q=>t σ H fun x H1=>∃ i,x=.int i/\Q (some i) H1
section
variable {X:Cx} {e:Expr} {te:TE} {lo hi:Option Expr} {tl th:TO} {pos p2:Pos}
theorem Ym:PO X none Qnj:=by
 intro pins s σ H Q I h
 rw [evalPart_none]
 exact kJ ⟨none,H,I,.none,h⟩
theorem Yf (h:PE X e te):PO X (some e) (tPart te):=by
 intro pins s σ H Q I hw
 rw [evalPart_some]
 refine thn (h pins s σ H _ I hw) fun u s1 hqP=>?_
 obtain ⟨x,H1,I1,r1,q1⟩:=hqP
 obtain ⟨i,rfl,q⟩:=q1
 obtain ⟨t,rfl⟩:=r1
 exact ⟨some i,H1,I1,.int i t,q⟩
def SlR (X:Cx) (r:V->Option Int->Option Int->Hp->VK->Prop):Prop :=
 ∀ (pins:List (Addr × Obj)) (s:Shared) (σ:St) (H:Hp) (x:V) (v vl vu:Value) (lo hi:Option Int) (sl:Addr) (Q:VK),Inv X pins σ H s->RelV x v->s.heap.IsSliceOf sl vl vu .none->IsPart vl lo->IsPart vu hi->r x lo hi H Q ->
  ∃ T id,typeLookup (.type T) "__getitem__"=pure (some (.builtin id))/\s.TypeIs v T/\wpAny (model X.prog X.w) X.A (getItem v (.ref sl)) (EP X pins σ Q) X.xe s
def tSl (r:V->Option Int->Option Int->Hp->VK->Prop) (te:TE) (tl th:TO):TE:=fun σ H Q=>te σ H fun x H1=>tl σ H1 fun l H2=>th σ H2 fun u H3=>r x l u H3 Q
theorem Xu {r:V->Option Int->Option Int->Hp->VK->Prop} (hr:SlR X r) (he:PE X e te) (hl:PO X lo tl) (hu:PO X hi th):PE X (.Subscript e (.Slice lo hi none p2) pos) (tSl r te tl th):=by
 intro pins s σ H Q I h
 refine Subscript_ (thn (he pins s σ H _ I h) fun v s1 hqP=>?_)
 obtain ⟨x,H1,I1,r1,q1⟩:=hqP
 refine wpAny_Slice (thn (hl pins s1 σ H1 _ I1 q1) fun vl s2 ⟨l,H2,I2,pl,q2⟩=>thn (hu pins s2 σ H2 _ I2 q2) fun vu s3 hqP=>?_)
 obtain ⟨u,H3,I3,pu,q3⟩:=hqP
 rw [evalPart_none]
 refine kJ ?_
 have I4:Inv X pins σ H3 { s3 with heap:=s3.heap.push { cls:=.type "slice",data:=.fields #[vl,vu,.none] } }:=I3.kept (t':=s3.toks) fun b ob q=>jV _ q
 obtain ⟨T,id,hT,ht,hg⟩:=hr pins { s3 with heap:=s3.heap.push { cls:=.type "slice",data:=.fields #[vl,vu,.none] } } σ H3 x v vl vu l u s3.heap.objs.size Q I4 r1 (Heap.IsSliceOf.new ..) pl pu q3
 show wpAny (model X.prog X.w) X.A (subscriptTail e (.Slice lo hi none p2) v (.ref s3.heap.objs.size)) (EP X pins σ Q) X.xe { s3 with heap:=s3.heap.push { cls:=.type "slice",data:=.fields #[vl,vu,.none] } }
 exact tail_any (ops:=[.ref s3.heap.objs.size,v]) ht hT hg (by with_unfolding_all rfl)
def cutV (xs:List V) (lo hi:Option Int):List V:=(xs.drop (HT.sIx xs.length 0 lo)).take (HT.sIx xs.length xs.length hi - HT.sIx xs.length 0 lo)
theorem Vr (xs:List V) (lo hi:Option Int):(cutV xs lo hi).length<=xs.length:=by
 unfold cutV
 rw [yW,zK]
 lia
def rSlT (K:Fg):V->Option Int->Option Int->Hp->VK->Prop:=fun x lo hi H Q=>∃ a xs,x=.ref a/\SqT K H a xs /\
 ¬ (HT.sIx xs.length 0 lo=0/\HT.sIx xs.length xs.length hi=xs.length)/\∀ p,H p=none->Q (.ref p) (upd H p (.tup (cutV xs lo hi)))
theorem sl_tup:SlR X (rSlT X.K):=by
 intro pins s σ H x v vl vu lo hi sl Q I rx hs pl pu h
 obtain ⟨a,xs,rfl,hx,hw,q⟩:=h
 cases rx
 obtain ⟨its,r,ht,hz⟩:=I.tuple hx
 have hlen:its.toArray.size=xs.length:=by rw [kY];exact r.length.symm
 refine ⟨"tuple",_,PyProof.Rows.slot_tuple_getitem.lookup,ht.typeIs,?_⟩
 refine HT.getItem_tuple_cut ht hs pl pu (by rw [hlen];exact hw) ?_ (by rw [hlen];exact hz)
 rw [hlen]
 refine ⟨.ref s.heap.objs.size,_,I.laid (t':=s.toks) (o:=.tup (cutV xs lo hi)) (fun b ob q=>jV _ q) (kQ _) ?_,rfl,q _ (I.hok.fresh (kQ _))⟩
 exact ⟨xW (Vr xs lo hi) hz,_,(r.drop (HT.sIx xs.length 0 lo)).take (HT.sIx xs.length xs.length hi - HT.sIx xs.length 0 lo),IsTup.new _ _⟩
def rCatT (K:Fg):R2:=fun x y H Q=>∃ a b xs ys,x=.ref a/\y=.ref b/\SqT K H a xs/\SqT K H b ys/\xs ≠ []/\xs.length + ys.length<=sizeLine /\
 (ys=[]->Q (.ref a) H)/\(ys ≠ []->∀ p,H p=none->Q (.ref p) (upd H p (.tup (xs ++ ys))))
theorem Vals.nil_iff {xs:List V} {us:List Value} (r:Vals xs us):us=[] ↔ xs=[]:=by
 cases r with
 | nil=>simp
 | cons _ _=>simp
theorem Qnk:OpR X (binaryOp .Add) (rCatT X.K):=by
 intro pins s σ H x y v u Q I rx ry h
 obtain ⟨a,b,xs,ys,rfl,rfl,ha,hb,hx,hz,q1,q2⟩:=h
 cases rx
 cases ry
 obtain ⟨its,r1,p1,_⟩:=I.tuple ha
 obtain ⟨its2,r2,p2,_⟩:=I.tuple hb
 refine HT.cat_tup p1 p2 (fun z=>hx (r1.nil_iff.mp z)) (fun z=>⟨.ref a,H,I,rfl,q1 (r2.nil_iff.mp z)⟩) (fun z=>?_) (by rw [← r1.length,← r2.length];exact hz)
 refine ⟨.ref s.heap.objs.size,_,I.laid (t':=s.toks) (o:=.tup (xs ++ ys)) (fun b ob q=>jV _ q) (kQ _) ?_,rfl,q2 (fun w=>z (r2.nil_iff.mpr w)) _ (I.hok.fresh (kQ _))⟩
 exact ⟨by rw [jW];exact hz,_,r1.append r2,IsTup.new _ _⟩
end
def ixN (n:Nat) (i:Int):Option Nat:=if 0<=i then (if i < n then some i.toNat else none) else if -(n:Int)<=i then some (i + n).toNat else none
def atI {α:Type} (xs:List α) (i:Int):Option α:=(ixN xs.length i).bind fun j=>xs[j]?
theorem Qhj {n:Nat} {i:Int} {j:Nat} (h:ixN n i=some j):seqIndex? i n=some j/\j < n/\-(n:Int)<=i/\i < n:=by
 unfold ixN at h
 by_cases h0:0<=i
 ·rw [if_pos h0] at h
  by_cases h1:i < n
  ·rw [if_pos h1] at h
   have e:i.toNat=j:=Option.some.inj h
   exact ⟨by rw [seqIndex_of h0 h1,e],by lia,by lia,h1⟩
  ·rw [if_neg h1] at h;cases h
 ·rw [if_neg h0] at h
  by_cases h1:-(n:Int)<=i
  ·rw [if_pos h1] at h
   have e:(i + n).toNat=j:=Option.some.inj h
   exact ⟨by rw [seqIndex_neg (by lia) h1,e],by lia,h1,by lia⟩
  ·rw [if_neg h1] at h;cases h
theorem Qar {α:Type} {xs:List α} {i:Int} {v:α} (h:atI xs i=some v):∃ j,seqIndex? i xs.length=some j/\xs[j]?=some v/\j < xs.length/\-(xs.length:Int)<=i/\i < xs.length:=by
 unfold atI at h
 cases e:ixN xs.length i with
 | none=>rw [e] at h;cases h
 | some j =>
  rw [e] at h
  obtain ⟨h1,h2,h3,h4⟩:=Qhj e
  exact ⟨j,h1,h,h2,h3,h4⟩
theorem Qdk {α:Type} {xs:List α} {j:Nat} {v:α} (h:xs[j]?=some v):atI xs (j:Int)=some v:=by
 have hj:j < xs.length:=(kZ.mp h).1
 have e:ixN xs.length (j:Int)=some j:=by
  unfold ixN
  rw [if_pos (by lia),if_pos (by lia)];simp
 unfold atI;rw [e];exact h
theorem Yw {α:Type} (xs:List α) (v:α):atI (xs ++ [v]) (-1)=some v:=by
 have hl:(xs ++ [v]).length=xs.length + 1:=by simp
 have e:ixN (xs ++ [v]).length (-1)=some xs.length:=by
  unfold ixN
  rw [hl,if_neg (by decide),if_pos (by lia)]
  congr 1
  lia
 unfold atI
 rw [e]
 show (xs ++ [v])[xs.length]?=some v
 simp
def Qnl (b:Expr):Prop:=∀ o i,subscripted b false o i=operate [o,i] (getItem o i)
def IxR (X:Cx) (r:R2):Prop :=
 ∀ (value slice:Expr) (pins:List (Addr × Obj)) (s:Shared) (σ:St) (H:Hp) (x y:V) (v u:Value) (Q:VK),Inv X pins σ H s->RelV x v->RelV y u->r x y H Q ->
  subscripted slice false v u=operate [v,u] (getItem v u)->wpAny (model X.prog X.w) X.A (subscriptTail value slice v u) (EP X pins σ Q) X.xe s
def MtR (X:Cx) (id:String) (r:V->List V->Hp->VK->Prop):Prop :=
 ∀ (pins:List (Addr × Obj)) (s:Shared) (σ:St) (H:Hp) (x:V) (xs:List V) (v:Value) (us:List Value) (Q:VK),Inv X pins σ H s->RelV x v->Vals xs us->r x xs H Q ->
  wpAny (model X.prog X.w) X.A (call (.builtin id) (v :: us)) (EP X pins σ Q) X.xe s
section
variable {X:Cx} {a b:Expr} {ta tb:TE} {pos:Pos}
theorem Qp {r:R2} (hr:IxR X r) (ha:PE X a ta) (hb:PE X b tb) (hs:Qnl b):PE X (.Subscript a b pos) (tOp r ta tb):=by
 intro pins s σ H Q I h
 exact Subscript_ (binT ha hb I h fun v u s2 x y H2 I2 rx ry q=>hr a b pins s2 σ H2 x y v u Q I2 rx ry q (hs _ _))
def rIxL (K:Fg):R2:=fun x y H Q=>∃ p xs i v,x=.ref p/\y=.int i/\SqL K H p xs/\atI xs i=some v/\Q v H
def rIxT (K:Fg):R2:=fun x y H Q=>∃ p xs i v,x=.ref p/\y=.int i/\SqT K H p xs/\atI xs i=some v/\Q v H
def rIxS:R2:=fun x y H Q=>∃ z i c,x=.str z/\y=.int i/\z.length<=sizeLine/\atI z.cps.toList i=some c/\Q (.str ⟨#[c]⟩) H
theorem Qk:IxR X (rIxL X.K):=by
 intro value slice pins s σ H x y v u Q I rx ry h hs
 obtain ⟨p,xs,i,z,rfl,rfl,hq,he,q⟩:=h
 cases rx
 obtain ⟨t,rfl⟩:=ry
 obtain ⟨its,r,pl,hz⟩:=I.list hq
 obtain ⟨j,h1,h2,h3,h4,h5⟩:=Qar he
 obtain ⟨w,ew,rw'⟩:=r.get h2
 have hl:=r.length
 have hn:=Qac
 have fin:EP X pins σ Q w s:=⟨z,H,I,rw',q⟩
 by_cases h0:0<=i
 ·have hj:i.toNat=j:=by
   rw [seqIndex_of h0 h5] at h1
   exact Option.some.inj h1
  exact item_listR pl.isList h0 (by lia) (by rw [hj];simpa using ew) fin hs
 ·have hj:(i + (its.toArray.size:Int)).toNat=j:=by
   rw [seqIndex_neg (by lia) h4] at h1
   rw [kY,← hl]
   exact Option.some.inj h1
  exact subscriptTail_builtinR (x:=w) pl.isList.typeIs slot_list_getitem.lookup
   (wpAny_getItem_list_neg (Q:=fun r s'=>r=w/\EP X pins σ Q r s') pl.isList (by lia) (by rw [kY] <;> lia) (by lia) (by rw [hj];simpa using ew) ⟨rfl,fin⟩) hs
theorem Yg:IxR X (rIxT X.K):=by
 intro value slice pins s σ H x y v u Q I rx ry h hs
 obtain ⟨p,xs,i,z,rfl,rfl,hq,he,q⟩:=h
 cases rx
 obtain ⟨t,rfl⟩:=ry
 obtain ⟨its,r,pl,hz⟩:=I.tuple hq
 obtain ⟨j,h1,h2,h3,h4,h5⟩:=Qar he
 obtain ⟨w,ew,rw'⟩:=r.get h2
 have hl:=r.length
 have hn:=Qac
 have fin:EP X pins σ Q w s:=⟨z,H,I,rw',q⟩
 exact subscriptTail_builtinR (x:=w) pl.typeIs slot_tuple_getitem.lookup
  (getItem_tuple (j:=j) (Q:=fun r s'=>r=w/\EP X pins σ Q r s') pl (by lia) (by lia) (by rw [kY,← hl];exact h1) (by simpa using ew) ⟨rfl,fin⟩) hs
theorem Qmc:IxR X rIxS:=by
 intro value slice pins s σ H x y v u Q I rx ry h hs
 obtain ⟨z,i,c,rfl,rfl,hz,he,q⟩:=h
 obtain ⟨t,rfl⟩:=rx
 obtain ⟨t',rfl⟩:=ry
 obtain ⟨j,h1,h2,h3,h4,h5⟩:=Qar he
 have hl:z.cps.toList.length=z.length:=by simp [Str.length]
 rw [hl] at h1 h4 h5
 have hn:=Qac
 exact tail_any (typeIs_str s z t) slot_str_getitem.lookup (getItem_str (c:=c) (by
  have e1:decide (i < -(2 ^ 63:Int))=false:=zY (by lia)
  have e2:decide (i ≥ 2 ^ 63)=false:=zY (by lia)
  rw [e1,e2,Bool.or_false]) (by rw [h1];simpa using h2) ⟨.str ⟨#[c]⟩,H,I.tok _,⟨_,rfl⟩,q⟩) hs
theorem Qfu (its:List Value) (n j:Nat) (u:Value):Obj.mapSeq (·.setIfInBounds j u) { cls:=.type "list",data:=.seq its.toArray n }={ cls:=.type "list",data:=.seq (its.set j u).toArray n }:=by
 simp [Obj.mapSeq]
theorem Inv.lst {pins:List (Addr × Obj)} {σ:St} {H:Hp} {s:Shared} {p:Addr} {xs:List V} (I:Inv X pins σ H s) (h:H p=some (.lst xs)) :
  ∃ (its:List Value) (n:Nat),Vals xs its/\s.heap.get? p=some { cls:=.type "list",data:=.seq its.toArray n }/\xs.length<=sizeLine:=by
 obtain ⟨z,its,n,r,e⟩:=I.hok p _ h
 exact ⟨its,n,r,e,z⟩
theorem Inv.lstUpd {pins:List (Addr × Obj)} {σ:St} {H:Hp} {s:Shared} {p:Addr} {xs ys:List V} {its its':List Value} {n n':Nat} {f:Obj->Obj} (I:Inv X pins σ H s) (h:H p=some (.lst xs))
  (ho:s.heap.get? p=some { cls:=.type "list",data:=.seq its.toArray n }) (hf:f { cls:=.type "list",data:=.seq its.toArray n }={ cls:=.type "list",data:=.seq its'.toArray n' }) (r:Vals ys its') (hz:ys.length<=sizeLine) (t:Nat) :
  Inv X pins σ (upd H p (.lst ys)) { s with heap:=s.heap.update p f,toks:=t }:=by
 have e:(s.heap.update p f).get? p=some { cls:=.type "list",data:=.seq its'.toArray n' }:=by
  rw [jYf f ho (by rw [hf] <;> rfl),hf]
 refine I.write (x:=p) (e:=p) (by rw [h];trivial) (.inl rfl) (fun b u hb q=>(jXe _ _ (Ne.symm hb)).trans q) ⟨_,e⟩ ?_
 exact ⟨hz,its',n',r,e⟩
def rSetL:V->V->V->Hp->(Hp->Prop)->Prop:=fun o i v H Q=>∃ p xs k j,o=.ref p/\i=.int k/\H p=some (.lst xs)/\ixN xs.length k=some j/\Q (upd H p (.lst (xs.set j v)))
theorem set_list:PSet X rSetL:=by
 intro pins s σ H o i v ov iv u Q I ro ri rv h
 obtain ⟨p,xs,k,j,rfl,rfl,hp,hj,q⟩:=h
 cases ro
 obtain ⟨t,rfl⟩:=ri
 obtain ⟨its,n,r,ho,hz⟩:=I.lst hp
 obtain ⟨h1,h2,h3,h4⟩:=Qhj hj
 have hl:=r.length
 have hn:=Qac
 have I':Inv X pins σ (upd H p (.lst (xs.set j v))) { s with heap:=s.heap.update p (Obj.mapSeq (·.setIfInBounds j u)) } :=
  I.lstUpd hp ho (Qfu its n j u) (r.set rv j) (by rw [List.length_set];exact hz) s.toks
 by_cases h0:0<=k
 ·have hk:k.toNat=j:=by
   rw [seqIndex_of h0 h4] at h1
   exact Option.some.inj h1
  exact PySem.W.ki_setAt ho h0 (by lia) (by rw [kY,← hl];exact h4) (by rw [hk];exact ⟨_,I',q⟩)
 ·have hk:(k + (its.toArray.size:Int)).toNat=j:=by
   rw [seqIndex_neg (by lia) h3] at h1
   rw [kY,← hl]
   exact Option.some.inj h1
  exact PySem.W.ki_setBack ho (by lia) (by rw [kY,← hl];exact h3) (by lia) (by rw [hk];exact ⟨_,I',q⟩)
theorem Vs (i:Int) (n d:Nat):max 0 (min (if i < 0 then i + (n:Int) else i) (n:Int))=((HT.sIx n d (some i):Nat):Int):=by
 rw [← HT.clip_eq]
 by_cases h:i < 0
 ·rw [if_pos h,if_pos h,Int.min_eq_left (by have:=Int.add_le_add_right (Int.le_of_lt h) (n:Int);rwa [Int.zero_add] at this),Int.max_comm]
 ·rw [if_neg h,if_neg h,HT.min_cast i n h,Int.max_eq_right (Int.natCast_nonneg _)]
theorem Qce (lo hi:Option Int) (n:Nat):(sliceBounds lo hi none n).1=((HT.sIx n 0 lo:Nat):Int)/\(sliceBounds lo hi none n).2.1=((HT.sIx n n hi:Nat):Int)/\(sliceBounds lo hi none n).2.2=1:=by
 refine ⟨?_,?_,rfl⟩
 ·cases lo with
  | none=>rfl
  | some i=>exact Vs i n 0
 ·cases hi with
  | none=>rfl
  | some i=>exact Vs i n n
theorem Qas (its:List Value) (lo hi:Option Int):slicePick its.toArray lo hi none=((its.drop (HT.sIx its.length 0 lo)).take (HT.sIx its.length its.length hi - HT.sIx its.length 0 lo)).toArray:=by
 obtain ⟨h1,h2,h3⟩:=Qce lo hi its.toArray.size
 unfold slicePick
 rw [h1,h2,h3]
 simp only [sliceRange_one,pick_run,kY] <;> rfl
def rSlL (K:Fg):V->Option Int->Option Int->Hp->VK->Prop:=fun x lo hi H Q=>∃ a xs,x=.ref a/\SqL K H a xs/\∀ p,H p=none->Q (.ref p) (upd H p (.lst (cutV xs lo hi)))
theorem Yn:SlR X (rSlL X.K):=by
 intro pins s σ H x v vl vu lo hi sl Q I rx hs pl pu h
 obtain ⟨a,xs,rfl,hx,q⟩:=h
 cases rx
 obtain ⟨its,r,ht,hz⟩:=I.list hx
 have hlen:=r.length
 refine ⟨"list",_,slot_list_getitem.lookup,ht.isList.typeIs,?_⟩
 refine wpAny_getItem_list_slice ht.isList hs pl pu .none (by simp) ?_ (by rw [kY] <;> lia)
 rw [Qas,← hlen]
 refine ⟨.ref s.heap.objs.size,_,I.laid (t':=s.toks) (o:=.lst (cutV xs lo hi)) (fun b ob q=>jV _ q) (kQ _) ?_,rfl,q _ (I.hok.fresh (kQ _))⟩
 exact ⟨xW (Vr xs lo hi) hz,_,0,(r.drop (HT.sIx xs.length 0 lo)).take (HT.sIx xs.length xs.length hi - HT.sIx xs.length 0 lo),kW _ rfl⟩
def Qcf:V->Bool
 | .non=>true
 | .bl _=>true
 | .int _=>true
 | .str _=>true
 | _=>false
def eqV:V->V->Bool
 | .non,.non=>true
 | .bl a,.bl b=>a == b
 | .bl a,.int b=>(if a then 1 else 0) == b
 | .int a,.bl b=>a == (if b then 1 else 0)
 | .int a,.int b=>a == b
 | .str a,.str b=>a == b
 | _,_=>false
theorem eqAt_V {A:Around} {s:Shared} {y x:V} {u v:Value} (ry:RelV y u) (rx:RelV x v) (fy:Qcf y=true) (fx:Qcf x=true):SeqAt.EqAt A s u v (eqV y x):=by
 cases y with
 | non =>
  cases ry
  cases x with
  | non=>cases rx;exact SeqAt.EqAt.same _
  | bl b=>cases rx;exact SeqAt.EqAt.none_bool b
  | int b=>obtain ⟨t,rfl⟩:=rx;exact SeqAt.EqAt.none_int b t
  | str b=>obtain ⟨t,rfl⟩:=rx;exact SeqAt.EqAt.none_str b t
  | _=>exact absurd (show false=true from fx) kK
 | bl a =>
  cases ry
  cases x with
  | non=>cases rx;exact SeqAt.EqAt.bool_none a
  | bl b=>cases rx;exact SeqAt.EqAt.bool_bool a b
  | int b=>obtain ⟨t,rfl⟩:=rx;exact SeqAt.EqAt.bool_int a b t
  | str b=>obtain ⟨t,rfl⟩:=rx;exact SeqAt.EqAt.bool_str a b t
  | _=>exact absurd (show false=true from fx) kK
 | int a =>
  obtain ⟨t',rfl⟩:=ry
  cases x with
  | non=>cases rx;exact SeqAt.EqAt.int_none a t'
  | bl b=>cases rx;exact SeqAt.EqAt.int_bool a t' b
  | int b=>obtain ⟨t,rfl⟩:=rx;exact SeqAt.EqAt.int_int a t' b t
  | str b=>obtain ⟨t,rfl⟩:=rx;exact SeqAt.EqAt.int_str a t' b t
  | _=>exact absurd (show false=true from fx) kK
 | str a =>
  obtain ⟨t',rfl⟩:=ry
  cases x with
  | non=>cases rx;exact SeqAt.EqAt.str_none a t'
  | bl b=>cases rx;exact SeqAt.EqAt.str_bool a t' b
  | int b=>obtain ⟨t,rfl⟩:=rx;exact SeqAt.EqAt.str_int a t' b t
  | str b=>obtain ⟨t,rfl⟩:=rx;exact SeqAt.EqAt.str_str a t' b t
  | _=>exact absurd (show false=true from fx) kK
 | _=>exact absurd (show false=true from fy) kK
theorem Qn:Jm X (.builtin "len") (fun xs H Q=>∃ p ys,xs=[.ref p]/\(SqL X.K H p ys\/SqT X.K H p ys)/\Q (.int ys.length) H):=by
 intro pins s σ H xs us Q I r h
 obtain ⟨p,ys,rfl,hq,q⟩:=h
 obtain ⟨u,rfl,rx⟩:=vals1 r
 cases rx
 have hn:=Qac
 rcases hq with hq | hq
 ·obtain ⟨its,r',pl,hz⟩:=I.list hq
  have hlen:=r'.length
  exact Calls.call_len_list pl.isList (by simp only [kY] <;> lia) ⟨.int ys.length,H,I.tok _,⟨s.toks + 1,by rw [kY,hlen]⟩,q⟩
 ·obtain ⟨its,r',pl,hz⟩:=I.tuple hq
  have hlen:=r'.length
  exact len_tuple pl (by simp only [kY] <;> lia) ⟨.int ys.length,H,I.tok _,⟨s.toks + 1,by rw [kY,hlen]⟩,q⟩
theorem Qcg:Jm X (.builtin "len") (fun xs H Q=>∃ z,xs=[.str z]/\z.length<=sizeLine/\Q (.int z.length) H):=by
 intro pins s σ H xs us Q I r h
 obtain ⟨z,rfl,hz,q⟩:=h
 obtain ⟨u,rfl,t,rfl⟩:=vals1 r
 have hn:=Qac
 exact len_str (by lia) ⟨.int z.length,H,I.tok _,⟨_,rfl⟩,q⟩
theorem Kw:Jm X (.type "list") (fun xs H Q=>∃ p ys,xs=[.ref p]/\(SqL X.K H p ys\/SqT X.K H p ys)/\∀ l,H l=none->Q (.ref l) (upd H l (.lst ys))):=by
 intro pins s σ H xs us Q I r h
 obtain ⟨p,ys,rfl,hq,q⟩:=h
 obtain ⟨u,rfl,rx⟩:=vals1 r
 cases rx
 have fin:∀ (its:List Value),Vals ys its->ys.length<=sizeLine->∀ (h':Heap) (c':Nat),(∀ b o',s.heap.get? b=some o'->h'.get? b=some o') ->
   h'.get? s.heap.objs.size=some { cls:=.type "list",dict:=none,data:=.seq its.toArray c',slots:=#[] }->EP X pins σ Q (.ref s.heap.objs.size) { s with heap:=h' }:=fun its r' hz h' c' kp e =>
  ⟨.ref s.heap.objs.size,_,I.laid (t':=s.toks) kp (kQ _) (show ObjOk X.prog X.w _ h' _ (.lst ys) from ⟨hz,its,c',r',e⟩),rfl,q _ (I.hok.fresh (kQ _))⟩
 rcases hq with hq | hq
 ·obtain ⟨its,r',pl,hz⟩:=I.list hq
  have hlen:=r'.length
  obtain ⟨o,ho,hc,n,hd⟩:=pl.isList
  exact call_list_seq p (.inl rfl) ho hc hd (fun h' c' kp e=>fin its r' hz h' c' kp e) (by simp only [kY] <;> lia)
 ·obtain ⟨its,r',pl,hz⟩:=I.tuple hq
  have hlen:=r'.length
  obtain ⟨o,ho,hc,n,hd⟩:=pl
  exact call_list_seq p (.inr rfl) ho hc hd (fun h' c' kp e=>fin its r' hz h' c' kp e) (by simp only [kY] <;> lia)
theorem Zr:Jm X (.type "tuple") (fun xs H Q=>∃ p ys,xs=[.ref p]/\((SqL X.K H p ys/\∀ l,H l=none->Q (.ref l) (upd H l (.tup ys)))\/(SqT X.K H p ys/\Q (.ref p) H))):=by
 intro pins s σ H xs us Q I r h
 obtain ⟨p,ys,rfl,h⟩:=h
 obtain ⟨u,rfl,rx⟩:=vals1 r
 cases rx
 rcases h with ⟨hq,q⟩ | ⟨hq,q⟩
 ·obtain ⟨its,r',pl,hz⟩:=I.list hq
  have hlen:=r'.length
  refine call_tuple_list pl.isList (fun h' kp=>?_) (by simp only [kY] <;> lia)
  have I1:Inv X pins σ H { s with heap:=h' }:=I.kept (t':=s.toks) kp
  have I2:Inv X pins σ (upd H h'.objs.size (.tup ys)) { s with heap:=h'.push { cls:=.type "tuple",data:=.seq its.toArray } } :=
   I1.laid (t':=s.toks) (fun b o e=>jV _ e) (kQ _) (show ObjOk X.prog X.w _ _ _ (.tup ys) from ⟨hz,its,r',IsTup.new _ _⟩)
  exact ⟨.ref h'.objs.size,_,I2,rfl,q _ (I1.hok.fresh (kQ _))⟩
 ·obtain ⟨its,r',pl,hz⟩:=I.tuple hq
  exact call_tuple_same pl ⟨.ref p,H,I,rfl,q⟩
def tyV (K:Fg) (T:String) (x:V) (H:Hp):Prop:=match x with
 | .str _=>T="str"
 | .int _=>T="int"
 | .ref p=>(T="list"/\∃ xs,SqL K H p xs)\/(T="tuple"/\∃ o,K.lookup p=some o/\o.cls=.type "tuple"/\o.dict=none) \/
   (T="dict"/\((∃ kvs,H p=some (.dK kvs))\/∃ kvs,H p=some (.dT kvs)))\/(T="set"/\∃ S n,H p=some (.set S n))
 | _=>False
theorem Qmd {pins:List (Addr × Obj)} {σ:St} {H:Hp} {s:Shared} {T:String} {x:V} {v:Value} (I:Inv X pins σ H s) (r:RelV x v) (ty:tyV X.K T x H) :
  s.TypeIs v T/\∀ a,v=.ref a->∃ ob,s.heap.get? a=some ob/\ob.dict=none:=by
 cases x with
 | str z =>
  obtain ⟨t,rfl⟩:=r
  cases (show T="str" from ty)
  exact ⟨typeIs_str s z t,fun _ e=>nomatch e⟩
 | int i =>
  obtain ⟨t,rfl⟩:=r
  cases (show T="int" from ty)
  exact ⟨typeIs_int s i t,fun _ e=>nomatch e⟩
 | ref p =>
  cases r
  rcases ty with ⟨rfl,xs,hq⟩ | ⟨rfl,o,hk,hc,hd⟩ | ⟨rfl,hk⟩ | ⟨rfl,S,n,hk⟩
  ·obtain ⟨its,_,pl,_⟩:=I.list hq
   refine ⟨pl.isList.typeIs,fun a e=>?_⟩
   cases e
   obtain ⟨o,n,e,c,hd,_⟩:=pl
   exact ⟨o,e,hd⟩
  ·refine ⟨⟨o,I.kIn p o hk,hc⟩,fun a e=>?_⟩
   cases e
   exact ⟨o,I.kIn _ o hk,hd⟩
  ·have z:∃ o,s.heap.get? p=some o/\o.ExactDict:=by
    rcases hk with ⟨kvs,hk⟩ | ⟨kvs,hk⟩
    ·obtain ⟨_,_,_,_,o,_,_,e,ex,_⟩:=I.hok p _ hk
     exact ⟨o,e,ex⟩
    ·obtain ⟨_,_,_,_,o,_,_,e,ex,_⟩:=I.hok p _ hk
     exact ⟨o,e,ex⟩
   obtain ⟨o,e,ex⟩:=z
   refine ⟨⟨o,e,ex.1⟩,fun a e2=>?_⟩
   cases e2
   exact ⟨o,e,ex.2.1⟩
  ·obtain ⟨o,_,_,_,e,ex,_⟩:=I.hok p _ hk
   refine ⟨⟨o,e,ex.1⟩,fun a e2=>?_⟩
   cases e2
   exact ⟨o,e,ex.2.1⟩
 | _=>exact False.elim ty
def tBM0 (K:Fg) (T:String) (r:V->List V->Hp->VK->Prop) (to:TE):TE:=fun σ H Q=>to σ H fun x H1=>tyV K T x H1/\r x [] H1 Q
def tBM (K:Fg) (T:String) (r:V->List V->Hp->VK->Prop) (to:TE) (t:TA):TE:=fun σ H Q=>to σ H fun x H1=>tyV K T x H1/\t σ H1 fun xs H2=>r x xs H2 Q
variable {o e:Expr} {es:List Expr} {to:TE} {t:TA} {name:Str} {apos cpos:Pos} {T id:String} {r:V->List V->Hp->VK->Prop}
theorem Qhk (pa:PlainAttrs T) (slot:Slot T name id) (hty:typeOf (.builtin id)=pure (.type "method_descriptor")) (hm:MtR X id r) (ho:PE X o to)
  (hbase:autoParam (attributeBase o name X.env (eval o X.env)=eval o X.env) L2.aRfl._auto_1) (hline:autoParam ((apos.endLine == cpos.line)=true) L2.aRfl._auto_1):PE X (.Call (.Attribute o name apos) [] [] cpos) (tBM0 X.K T r to):=by
 intro pins s σ H Q I h
 refine wpAny_Call_method0_late hbase hline (thn (ho pins s σ H _ I h) fun v s1 hqP=>?_)
 obtain ⟨x,H1,I1,r1,ty,q1⟩:=hqP
 obtain ⟨h1,h2⟩:=Qmd I1 r1 ty
 exact ⟨T,id,pa,slot,hty,h1,h2,Calls.callWith_builtin rfl (PySem.evalArgs_none (hm pins s1 σ H1 x [] v [] Q I1 r1 .nil q1))⟩
theorem Zs (pa:PlainAttrs T) (slot:Slot T name id) (hty:typeOf (.builtin id)=pure (.type "method_descriptor")) (hm:MtR X id r) (ho:PE X o to) (ha:PA X (e :: es) t)
  (hbase:autoParam (attributeBase o name X.env (eval o X.env)=eval o X.env) L2.aRfl._auto_1)
  (hfew:((backTo cpos (starEach (e :: es) X.env)).all (fun x=>!x.1) && (backToKw cpos (keywordEach [] X.env)).all (fun x=>x.1.isSome)
   && decide ((e :: es).length + ([]:List Keyword).length + (if ([]:List Keyword).isEmpty then 0 else 1) < 30))=true:=by rfl)
  (hline:autoParam ((apos.endLine == cpos.line)=true) L2.aRfl._auto_1) (hs:autoParam (starEach (e :: es) X.env=(false,eval e X.env) :: starEach es X.env) L2.aRfl._auto_1) (hplain:autoParam ((backTo cpos (starEach es X.env)).any (·.1)=false) L2.aRfl._auto_1) :
  PE X (.Call (.Attribute o name apos) (e :: es) [] cpos) (tBM X.K T r to t):=by
 intro pins s σ H Q I h
 refine wpAny_Call_method_late hbase hfew hline rfl (thn (ho pins s σ H _ I h) fun v s1 hqP=>?_)
 obtain ⟨x,H1,I1,r1,ty,q1⟩:=hqP
 obtain ⟨h1,h2⟩:=Qmd I1 r1 ty
 refine ⟨T,id,pa,slot,hty,h1,h2,?_⟩
 have hA:=ha cpos pins s1 σ H1 _ I1 q1
 rw [hs] at hA ⊢
 refine Calls.callWith_builtin (by show (false || (backTo cpos (starEach es X.env)).any (·.1))=false;rw [hplain] <;> rfl) (Calls.evalArgs_plain ?_)
 exact thn hA fun us s2 ⟨vs,H2,I2,r2,q2⟩=>hm pins s2 σ H2 x vs v us Q I2 r1 r2 q2
end
def MtM (X:Cx) (id:String) (r:V->List V->Hp->VK->Prop):Prop :=
 ∀ (pins:List (Addr × Obj)) (s:Shared) (σ:St) (H:Hp) (x:V) (xs:List V) (v:Value) (us:List Value) (Q:VK),Inv X pins σ H s->RelV x v->Vals xs us->r x xs H Q ->
  wpAny (model X.prog X.w) X.A (call (.builtin id) (v :: us)) (EP X pins σ Q) X.xe s
theorem Vals.one {x:V} {us:List Value} (h:Vals [x] us):∃ u,us=[u]/\RelV x u:=by
 cases h with
 | cons r t=>cases t;exact ⟨_,rfl,r⟩
theorem Vals.two {x y:V} {us:List Value} (h:Vals [x,y] us):∃ u v,us=[u,v]/\RelV x u/\RelV y v:=by
 cases h with
 | cons r t =>
  cases t with
  | cons q t=>cases t;exact ⟨_,_,rfl,r,q⟩
theorem Vals.zero:∀ {us:List Value},Vals [] us->us=[]
 | _,.nil=>rfl
theorem Vals.dropLast {xs:List V} {us:List Value} (h:Vals xs us):Vals xs.dropLast us.dropLast:=by
 induction h with
 | nil=>exact .nil
 | cons r t ih =>
  cases t with
  | nil=>exact .nil
  | cons q t'=>exact .cons r ih
theorem Qfv {α:Type} (l:List α):l.eraseIdx (l.length - 1)=l.dropLast:=by
 induction l with
 | nil=>rfl
 | cons a r ih =>
  cases r with
  | nil=>rfl
  | cons b r =>
   have e:(a :: b :: r).length - 1=((b :: r).length - 1) + 1:=by
    have h1:(a :: b :: r).length=r.length + 2:=rfl
    have h2:(b :: r).length=r.length + 1:=rfl
    lia
   rw [e,List.eraseIdx_cons_succ,ih]
   all_goals rfl
section
variable {X:Cx} {pins:List (Addr × Obj)} {σ:St} {H:Hp} {s:Shared} {l:Addr} {xs ys:List V}
theorem Inv.lset {its its':List Value} {n:Nat} {f:Array Value->Array Value} {t':Nat} (I:Inv X pins σ H s) (hH:H l=some (.lst xs))
  (e:s.heap.get? l=some { cls:=.type "list",data:=.seq its.toArray n }) (hf:f its.toArray=its'.toArray) (hv:Vals ys its') (hz:ys.length<=sizeLine) :
  Inv X pins σ (upd H l (.lst ys)) { s with heap:=s.heap.update l (Obj.mapSeq f),toks:=t' }:=by
 have q:=PySem.IsL.update e f
 rw [hf] at q
 refine I.write (x:=l) (e:=l) (by rw [hH];exact trivial) (.inl rfl) (fun b' u hb hu=>(jXe s.heap (Obj.mapSeq f) (Ne.symm hb)).trans hu) ⟨_,q⟩ ?_
 exact ⟨hz,its',_,hv,q⟩
theorem Inv.lnew {its:List Value} {t':Nat} (I:Inv X pins σ H s) (hv:Vals ys its) (hz:ys.length<=sizeLine) :
  Inv X pins σ (upd H s.heap.objs.size (.lst ys)) { s with heap:=s.heap.push { cls:=.type "list",data:=.seq its.toArray },toks:=t' } :=
 I.laid (fun _ _ q=>jV _ q) (kQ _) ⟨hz,its,0,hv,kW _ rfl⟩
theorem Inv.fresh (I:Inv X pins σ H s):H s.heap.objs.size=none:=I.hok.fresh (kQ _)
theorem Inv.lstM (I:Inv X pins σ H s) (hH:H l=some (.lst xs)):xs.length<=sizeLine/\∃ (its:List Value) (n:Nat),Vals xs its/\xs.length=its.length/\s.heap.get? l=some { cls:=.type "list",data:=.seq its.toArray n }:=by
 obtain ⟨z,its,n,r,e⟩:=I.hok l _ hH
 exact ⟨z,its,n,r,r.length,e⟩
end
section
variable {X:Cx}
def Qnm:V->List V->Hp->VK->Prop:=fun x vs H Q=>∃ l xs y,x=.ref l/\vs=[y]/\H l=some (.lst xs)/\xs.length < sizeLine/\Q .non (upd H l (.lst (xs ++ [y])))
theorem Xc:MtM X "list.append" Qnm:=by
 intro pins s σ H x vs v us Q I rx rv h
 obtain ⟨l,xs,y,rfl,rfl,hH,hz,q⟩:=h
 cases rx
 obtain ⟨u,rfl,ru⟩:=rv.one
 obtain ⟨z,its,n,r,hl,e⟩:=I.lstM hH
 refine call_meets F.slot_list_append ⟨_,e,rfl⟩ F.entry_list_append (F.args_list_append_2 _ _) (PySem.list_append l its.toArray n u (by rw [kY];lia)) ⟨e,?_⟩
 refine ⟨.non,_,I.lset (its':=its ++ [u]) hH e (by simp) (r.append (.cons ru .nil)) ?_,rfl,q⟩
 rw [jW,List.length_singleton]
 lia
def rPop:V->List V->Hp->VK->Prop:=fun x vs H Q=>∃ l xs y,x=.ref l/\vs=[]/\H l=some (.lst xs)/\xs[xs.length - 1]?=some y/\Q y (upd H l (.lst xs.dropLast))
theorem Qme:MtM X "list.pop" rPop:=by
 intro pins s σ H x vs v us Q I rx rv h
 obtain ⟨l,xs,y,rfl,rfl,hH,hy,q⟩:=h
 cases rx
 have hus:=rv.zero
 subst hus
 obtain ⟨z,its,n,r,hl,e⟩:=I.lstM hH
 obtain ⟨u,hu,ru⟩:=r.get hy
 have hy':its.toArray[its.toArray.size - 1]?=some u:=by
  show its.toArray[its.length - 1]?=some u
  rw [← Array.getElem?_toList,← hl]
  exact hu
 refine call_meets F.slot_list_pop ⟨_,e,rfl⟩ F.entry_list_pop (F.args_list_pop_1 _) (MeetsSeq.list_pop_last l its.toArray n u hy' (by rw [kY];lia)) ⟨e,?_⟩
 refine ⟨y,_,I.lset (its':=its.dropLast) hH e ?_ r.dropLast ?_,ru,q⟩
 ·show its.toArray.eraseIdxIfInBounds (its.toArray.size - 1)=its.dropLast.toArray
  rw [kY,List.eraseIdxIfInBounds_toArray,Qfv]
 ·rw [List.length_dropLast]
  lia
def rClear:V->List V->Hp->VK->Prop:=fun x vs H Q=>∃ l xs,x=.ref l/\vs=[]/\H l=some (.lst xs)/\Q .non (upd H l (.lst []))
theorem Qkf:MtM X "list.clear" rClear:=by
 intro pins s σ H x vs v us Q I rx rv h
 obtain ⟨l,xs,rfl,rfl,hH,q⟩:=h
 cases rx
 have hus:=rv.zero
 subst hus
 obtain ⟨z,its,n,r,hl,e⟩:=I.lstM hH
 refine call_meets F.slot_list_clear ⟨_,e,rfl⟩ F.entry_list_clear (F.args_list_clear_1 _) (AutoSeq1.list_clear_list_0 l its.toArray n (by rw [kY];lia)) ⟨e,?_⟩
 exact ⟨.non,_,I.lset (its':=[]) (ys:=[]) hH e rfl .nil (wX _),rfl,q⟩
def rCat:R2:=fun x y H Q=>∃ l b xs zs,x=.ref l/\y=.ref b/\H l=some (.lst xs)/\H b=some (.lst zs)/\xs.length + zs.length<=sizeLine/\∀ p,H p=none->Q (.ref p) (upd H p (.lst (xs ++ zs)))
theorem Jp:OpR X (binaryOp .Add) rCat:=by
 intro pins s σ H x y v u Q I rx ry h
 obtain ⟨l,b,xs,zs,rfl,rfl,hH,hB,hz,q⟩:=h
 cases rx
 cases ry
 obtain ⟨z,its,n,r,hl,e⟩:=I.lstM hH
 obtain ⟨z2,its2,n2,r2,hl2,e2⟩:=I.lstM hB
 refine PySem.P.add_list e e2 ?_ (by rw [kY,kY];lia)
 have ea:its.toArray ++ its2.toArray=(its ++ its2).toArray:=by simp
 rw [ea]
 exact ⟨.ref _,_,I.lnew (t':=s.toks) (r.append r2) (by rw [jW];lia),rfl,q _ I.fresh⟩
end
end L2
namespace Att
open PySem PySem.W PySem.Calls PyProof.Rows
theorem Vt {P:Params} {h:Heap}:∀ (ns:List Int) (vs:List Value),WellAll P h vs (ns.map WData.int)->IntsAre vs ns:=by
 intro ns
 induction ns with
 | nil =>
  intro vs w
  rw [List.map_nil] at w
  cases w
  exact .nil
 | cons n ns ih =>
  intro vs w
  rw [xZ] at w
  cases w with
  | cons a b =>
   cases a
   exact .cons _ _ (ih _ b)
theorem Qhl {l:OpenLaw} {n:Nat} (hn:l.most=some n) {P:Params} {h:Heap} {args:List WData} {vals:List Value}
  (hpre:l.row.toRowW.claim.pre args=true) (hwl:WellAll P h vals args) :
  ∃ a vs ns,vals=[Value.ref a]/\args=[WData.list (ns.map WData.int)]/\h.get? a=some { cls:=.type "list",data:=.seq vs.toArray }/\IntsAre vs ns/\ns.length<=n:=by
 have hsh:WShape.hasAll [] args [.list .int]=true:=(pre_splitW hpre).1
 have hc:l.pre.holds [] { args:=args }=true:=(pre_splitW hpre).2
 obtain ⟨d,r,rfl,h1,h2⟩:=hasAllW_cons hsh
 obtain rfl:=hasAllW_nil h2
 obtain ⟨xs,rfl,h3⟩:=hasW_list h1
 obtain ⟨ns,rfl⟩:=items_int h3
 have hlen:ns.length<=n:=by
  unfold OpenLaw.pre at hc
  have h4:(WTm.not (.lt (.lit (.int (n:Int))) (.len (.arg 0)))).holds [] { args:=[.list (ns.map .int)] }=true:=by
   have h4:=(holds_andW hc).1
   rw [hn] at h4
   exact h4
  have h5:=condW_of h4 (w_not (w_lt w_lit (w_len_list (w_arg rfl))))
  rw [jK] at h5
  refine Nat.le_of_not_lt fun q=>?_
  have q':(n:Int) < ((ns.length:Nat):Int):=by lia
  first
   | (rw [yV q'] at h5;exact absurd h5 (by decide))
   | (simp at h5;lia)
 cases hwl with
 | cons w1 w2 =>
  cases w2
  cases w1 with
  | list ho hall=>exact ⟨_,_,ns,rfl,rfl,ho,Vt ns _ hall,hlen⟩
theorem Qhm (l:OpenLaw) (args:List WData):l.row.toRowW.claim.post args (.bool true) args=true :=
 postW_of (r:=l.row.toRowW) (X:=(true == true))
  (show WShape.has [] (.bool true) .bool=true by first | rfl | decide | simp [WShape.has,WShape.arms,WShape.armsAll])
  (show (WTm.eq .res (.lit (.bool true))).value [] { args:=args,res:=some (.bool true),after:=args }=some (.bool (true == true)) from w_eq_bool (w_res rfl) w_lit) rfl
theorem attach_call {l:OpenLaw} {n:Nat} {q:Program} {loose:List Str} {XP:(Str->Option Value)->Heap->Prop} {YP:World->Heap->Prop} {d:DefRec}
  (hn:l.most=some n) (hdf:d.params.defaults=[])
  (call:∀ (w:World) (s₀ s₁:Shared) (mg mb:Str->Option Value) (fa:Addr) (o:Obj) (pm cd doc:Value) (a:Addr) (vs:List Value) (ns:List Int),
   Ground q loose [] XP w s₀ mg mb s₁.heap->YP w s₁.heap ->
   s₁.heap.get? fa=some o->o.data=.func (docDef d.name d.params d.body d.scope pm cd doc)->s₁.heap.CodeRec cd d.name->mg d.name=some (.ref fa) ->
   s₁.heap.get? a=some { cls:=.type "list",data:=.seq vs.toArray }->IntsAre vs ns->ns.length<=n->s₁.gens=#[] ->
   codeAny (model l.prog w) callerA (.call (.ref fa) ⟨[.ref a],[]⟩) (fun r s'=>r=.ok (.ret (.bool true))/\OldK s₁.heap s'.heap/\s'.os=s₁.os/\AllBare s'.gens) s₁) :
  WalkO q loose XP YP l.row.toRowW d [] (fun f vs=>PySem.call f vs):=by
 intro w s₀ s₁ mg mb G Y fa o pm cd doc dV kV ho hd hcd hD hmg hg args vals as hpre hlay hrd hwl hlo
 obtain rfl:dV=.none:=Dflts.none hD hdf
 obtain rfl:kV=.none:=Dflts.noKw hD
 obtain ⟨a,vs,ns,rfl,rfl,hobj,hints,hlen⟩:=Qhl hn hpre hwl
 refine enter_call (codeAny_mono (call w s₀ s₁ mg mb fa o pm cd doc a vs ns G Y ho (fd_plain hd) hcd hmg hobj hints hlen hg) fun r s' hq=>?_)
 obtain ⟨rfl,h2,h3,h4⟩:=hq
 exact ⟨.inl ⟨.bool true,.bool true,[],rfl,fun _=>rfl,.bool true,Qhm l _,fun _=>⟨List.Pairwise.nil,fun _ hm=>(nomatch hm)⟩⟩,h2,h3,h4⟩
end Att
namespace L2
open PySem PySem.Spec PyProof.Rows
theorem Qch:∀ {vs:List Value} {ns:List Int},IntsAre vs ns->Vals (ns.map V.int) vs
 | _,_,.nil=>.nil
 | _,_,.cons n t h=>.cons ⟨t,rfl⟩ (Qch h)
def Only (H:Hp):Prop:=∀ b,H b=none\/∃ o xs,H b=some (.frz o (.lst xs))
theorem Qkg {P:Program} {w:World} {K:Fg} {mg mb:Str->Option Value} {CX:CXT} {k:Nat} {fa a:Addr} {fd:FuncData} {x:Str} {sp:Sp} {s₁:Shared} {vs:List Value} {ns:List Int}
  (KX:K.In s₁.heap) (hns:s₁.heap.Ns mainGlobals mg) (hb:s₁.heap.Ns builtinsNs mb) (hbb:∀ x:Str,x ≠ "__name__"->mb x=bootBuiltins x) (hlim:s₁.heap.NoLimit) (hg:s₁.gens=#[])
  (ha:s₁.heap.get? a=some { cls:=.type "list",data:=.seq vs.toArray }) (hi:IntsAre vs ns) (hl:ns.length<=sizeLine) (hr:Room k callerA)
  (F:∀ base:Heap,K.In base->base.Ns mainGlobals mg->FnOk P w K mg base CX k fa fd [x] sp) (hbind:∀ (s:Shared) (u:Value),BindsTo s fd ⟨[u],[]⟩ [(x,u)])
  (hsp:∀ H:Hp,Only H->SqL K H a (ns.map V.int)->sp [.ref a] H (fun v _=>v=.bl true) fun _ _ _=>False)
  (hCX:∀ H e s',CX [] H s₁ (fun _ _ _=>False) e s'->False) :
  codeAny (model P w) callerA (.call (.ref fa) ⟨[.ref a],[]⟩) (fun r s'=>r=.ok (.ret (.bool true))/\OldK s₁.heap s'.heap/\s'.os=s₁.os/\AllBare s'.gens) s₁:=by
 have rv:=Qch hi
 have lenV:=hi.length
 -- from an abstract heap in which nothing but the script may be tracked
 have core:∀ H:Hp,Only H->SqL K H a (ns.map V.int)->HOk P w H s₁.heap->(∀ b,H b ≠ none->b=a)->(H a ≠ none->K.lookup a=none) ->
   codeAny (model P w) callerA (.call (.ref fa) ⟨[.ref a],[]⟩) (fun r s'=>r=.ok (.ret (.bool true))/\OldK s₁.heap s'.heap/\s'.os=s₁.os/\AllBare s'.gens) s₁:=by
  intro H hO hS hok hA hK
  have base_of:∀ {b:Addr} {o:Obj},s₁.heap.get? b=some o->H b=none->(hidT s₁.heap H).get? b=some o:=fun e n=>Qjw e n
  have noA:∀ {b:Addr} {o:Obj} {es:Array DictEntry} {ep:Nat},s₁.heap.get? b=some o->o.data=.dict es ep->H b=none:=fun {b o es ep} e d=>by
   cases q:H b with
   | none=>rfl
   | some u =>
    have e':b=a:=hA b (by rw [q];simp)
    subst e'
    rw [ha] at e;cases e
    have d':Data.seq vs.toArray _=Data.dict es ep:=d
    cases d'
  have nsK:∀ {b:Addr} {m:Str->Option Value},s₁.heap.Ns b m->(hidT s₁.heap H).Ns b m:=fun {b m} ⟨o,es,ep,e,d,r⟩=>⟨o,es,ep,base_of e (noA e d),d,r⟩
  have hKb:K.In (hidT s₁.heap H):=fun b o e=>base_of (KX b o e) (by
   cases q:H b with
   | none=>rfl
   | some u =>
    have e':b=a:=hA b (by rw [q];simp)
    subst e'
    rw [hK (by rw [q];simp)] at e;cases e)
  have hM:Mod K mg (hidT s₁.heap H):=⟨hKb,nsK hns,⟨mb,nsK hb,hbb⟩,let ⟨mc,h1,h2⟩:=hlim;⟨mc,nsK h1,h2⟩⟩
  have e0:Env0 P w K mg (hidT s₁.heap H) callerA [] s₁ H:=⟨rfl,hM,fun b o e=>Qnc e,Nat.le_of_eq (Qgu _ _),trivial,fun b hb=>absurd (show b ∈ ([]:List Addr) from hb) (by simp),hok,.of_eq hg⟩
  refine codeAny_mono ((F _ hKb (nsK hns)).run callerA [] s₁ H ⟨[.ref a],[]⟩ [.ref a] [.ref a] _ _ hr e0 (hbind s₁ (.ref a)) (.cons rfl .nil) (hsp H hO hS)) fun r s' h=>?_
  cases r with
  | error e=>exact (hCX H e s' h).elim
  | ok fl =>
   cases fl with
   | next=>exact False.elim h
   | brk=>exact False.elim h
   | cont=>exact False.elim h
   | ret u =>
    obtain ⟨v,H',os,bare,un,hok',r',q⟩:=h
    have q':v=.bl true:=q
    subst q'
    obtain rfl:u=Value.bool true:=r'
    refine ⟨rfl,OldK.of_keep fun b o e=>?_,os,bare⟩
    cases q:H b with
    | none=>exact un.keep b o e q (by intro z;exact absurd (show b ∈ ([]:List Addr) from z) (by simp)) (by simp)
    | some u =>
     rcases hO b with z | ⟨ob,xs,z⟩
     ·rw [q] at z;cases z
     ·have z2:=un.frzs b ob _ z
      obtain ⟨e1,_⟩:=hok b _ z
      obtain ⟨e2,_⟩:=hok' b _ z2
      rw [e] at e1;cases e1
      exact e2
 cases hk:K.lookup a with
 | some o =>
  -- the script is one of the module's own objects
  have e:=KX a o hk
  rw [ha] at e
  cases e
  refine core (fun _=>none) (fun _=>.inl rfl) (.inr ⟨_,vs.toArray,_,hk,rfl,rfl,rfl,by rw [kY,lenV];exact hl,by simpa using rv⟩) (fun b u z=>by have z':(none:Option HO)=some u:=z;cases z') (fun b z=>absurd rfl z) fun z=>absurd rfl z
 | none =>
  refine core (fun b=>if b=a then some (.frz { cls:=.type "list",data:=.seq vs.toArray } (.lst (ns.map V.int))) else none) (fun b=>?_) (.inl (.inr ⟨{ cls:=.type "list",data:=.seq vs.toArray },if_pos rfl⟩)) (fun b u z=>?_) (fun b z=>?_) fun _=>hk
  ·by_cases hb:b=a
   ·exact .inr ⟨_,_,if_pos hb⟩
   ·exact .inl (if_neg hb)
  ·by_cases hb:b=a
   ·have z':=(if_pos hb).symm.trans z
    cases z'
    subst hb
    exact ⟨ha,by rw [jK];exact hl,vs,_,rv,ha⟩
   ·have z':=(if_neg hb).symm.trans z
    cases z'
  ·by_cases hb:b=a
   ·exact hb
   ·exact absurd (if_neg hb) z
abbrev KOf {K:Fg} {h:Heap} (_:K.In h):Fg:=K
theorem Qhn {l:PySem.W.OpenLaw} {n k:Nat} {q:Program} {loose:List Str} {XP:(Str->Option Value)->Heap->Prop} {YP:World->Heap->Prop} {d:DefRec} {K:Params->Fg} {CX:World->CXT} {sp:World->Sp} {x:Str}
  (hn:l.most=some n) (hn2:n<=sizeLine) (hdf:d.params.defaults=[]) (hr:Room k callerA)
  (hY:∀ (w:World) (h:Heap),YP w h->(K w.params).In h)
  (F:∀ (w:World) (mg:Str->Option Value) (fa:Addr) (h:Heap),(K w.params).In h->h.Ns mainGlobals mg->mg d.name=some (.ref fa) ->
   ∃ fd:FuncData,(∀ (s:Shared) (u:Value),BindsTo s fd ⟨[u],[]⟩ [(x,u)]) /\
    ∀ base:Heap,(K w.params).In base->base.Ns mainGlobals mg->FnOk l.prog w (K w.params) mg base (CX w) k fa fd [x] (sp w))
  (hsp:∀ (w:World) (H:Hp) (a:Addr) (ns:List Int),ns.length<=n->Only H->SqL (K w.params) H a (ns.map V.int)->sp w [.ref a] H (fun v _=>v=.bl true) fun _ _ _=>False)
  (hCX:∀ (w:World) (H:Hp) (s:Shared) (e:Value) (s':Shared),CX w [] H s (fun _ _ _=>False) e s'->False) :
  PySem.W.WalkO q loose XP YP l.row.toRowW d [] (fun f vs=>PySem.call f vs):=by
 refine Att.attach_call hn hdf fun w s₀ s₁ mg mb fa o pm cd doc a vs ns G Y ho hd hcd hmg hobj hints hlen hg=>?_
 have KX:=hY w _ Y
 obtain ⟨fd,hb,hF⟩:=F w mg fa _ KX G.T.g hmg
 exact Qkg KX G.T.g G.T.b G.T.builtins G.T.nolimit hg hobj hints (xW hlen hn2) hr hF hb (fun H hO hS=>hsp w H a ns hlen hO hS) fun H e s'=>hCX w H s₁ e s'
end L2
namespace L2
open PySem PySem.Spec PyProof.Rows
def inClass (s:Stmt) (j:Nat):Stmt:=match s with
 | .ClassDef _ _ _ body _ _ _ _ _ _ _=>body.getD j (.Pass ⟨0,0,0,0⟩)
 | _=>.Pass ⟨0,0,0,0⟩
def Xd (s:Stmt):Arguments:=match s with
 | .FunctionDef _ a _ _ _ _ _ _ _ _=>a
 | _=>{ posonlyargs:=[],args:=[],vararg:=none,kwonlyargs:=[],kw_defaults:=[],kwarg:=none,defaults:=[] }
def Qz (s:Stmt):List Stmt:=match s with
 | .FunctionDef _ _ b _ _ _ _ _ _ _=>b
 | _=>[]
def Qh (s:Stmt):Scope:=match s with
 | .FunctionDef _ _ _ _ _ _ sc _ _ _=>sc
 | _=>{ kind:=.function,names:=[],isGenerator:=false,isCoroutine:=false }
abbrev CX0:CXT:=fun _ _ _ _ _ _=>False
abbrev E0:XK:=fun _ _ _=>False
theorem Qkh {X:Cx}:Jw CX0 X E0:=fun _ _ _ _ _ _ _ h=>h.elim
structure Fun (K:Fg) (x qual:Str) (st:Stmt) (f:Addr) (fd:FuncData):Prop where
 ex:∃ (oc:Value) (od:Option Addr) (kV doc pm:Value) (an:Option Addr) (cdv ct:Value) (osl:Array (Option Value)),
  fd=PySem.W.fnOf x qual (Xd st) (Qz st) (Qh st) .none kV doc pm an cdv ct/\K.lookup f=some ⟨oc,od,.func fd,osl⟩/\PySem.W.codeIn K cdv qual=true
 kp:PySem.W.keepIn K (.ref f)=true
section
variable {P:Program} {w:World} {K:Fg} {mg:Str->Option Value} {base:Heap}
theorem Fun.ok {x qual:Str} {st:Stmt} {f:Addr} {fd:FuncData} {N ps:List Str} {k:Nat} {sp:Sp} (F:Fun K x qual st f fd) (S:FnScope N ps (Qh st)) (len:∀ vs H Q E,sp vs H Q E->vs.length=ps.length)
  (hbody:∀ (cdv:Value) (A:Around) (outer:List Env) (s:Shared) (H:Hp) (vs:List V) (Q:VK) (E:XK),Room k (A.deeper (envOfC qual (Qh st) s.heap.objs.size f cdv))->sp vs H Q E ->
   ∃ t,PSs (cxOf CX0 P w K mg base N qual (Qh st) f cdv A outer s H E).nox (Qz st) t/\t { nx:=fun _ H'=>Q .non H',rt:=Q } (start N vs) H):FnOk P w K mg base CX0 (k + 1) f fd ps sp:=by
 obtain ⟨oc,od,kV,doc,pm,an,cdv,ct,osl,rfl,lk,hcd⟩:=F.ex
 refine Qni lk hcd S len fun A outer s H vs Q E hr hsp=>?_
 obtain ⟨t,h,q⟩:=hbody cdv A outer s H vs Q E hr hsp
 exact ⟨t,h.nox,q⟩
theorem Fun.binds {x qual:Str} {st:Stmt} {f:Addr} {fd:FuncData} {ps:List Str} (F:Fun K x qual st f fd)
  (h:∀ (kV doc pm:Value) (an:Option Addr) (cdv ct:Value) (us:List Value),us.length=ps.length->bindArgs (PySem.W.fnOf x qual (Xd st) (Qz st) (Qh st) .none kV doc pm an cdv ct) ⟨us,[]⟩=pure (ps.zip us)):Binds K fd ps []:=by
 obtain ⟨oc,od,kV,doc,pm,an,cdv,ct,osl,rfl,lk,hcd⟩:=F.ex
 exact .all (h kV doc pm an cdv ct)
theorem Kx {x qual:Str} {st:Stmt} {f:Addr} {oc:Value} {od an:Option Addr} {osl:Array (Option Value)} {kV doc pm cdv ct:Value} (l:K.lookup f=some ⟨oc,od,.func (PySem.W.fnOf x qual (Xd st) (Qz st) (Qh st) .none kV doc pm an cdv ct),osl⟩)
  (c:PySem.W.codeIn K cdv qual=true) (k:PySem.W.keepIn K (.ref f)=true):Fun K x qual st f (PySem.W.fnOf x qual (Xd st) (Qz st) (Qh st) .none kV doc pm an cdv ct):=⟨⟨oc,od,kV,doc,pm,an,cdv,ct,osl,rfl,l,c⟩,k⟩
end
section
variable {X:Cx}
theorem pv (i:Nat) {x:Str} {pos:Pos} (hN:autoParam (X.N[i]?=some x) L2.aRfl._auto_1) (hv:Vis X.env.scope x:=by first | exact Or.inl rfl | exact Or.inr (Or.inl rfl) | exact Or.inr (Or.inr rfl)) (hd:autoParam ((x == ("__debug__":Str))=false) L2.aDec._auto_1)
  (hcd:autoParam ((x == ("__classdict__":Str))=false) L2.aDec._auto_1):PE X (.Name x pos) (tVar i):=Qeg hN hv hd hcd
end
theorem iteF {A B:Prop} (h:B):if false=true then A else B:=by
 rw [if_neg kK]
 exact h
theorem iteT {A B:Prop} (h:A):if true=true then A else B:=by
 rw [if_pos rfl]
 exact h
theorem ite2 {c A B:Prop} [Decidable c] (h1:c->A) (h2:¬ c->B):if c then A else B:=by
 by_cases h:c
 ·rw [if_pos h]
  exact h1 h
 ·rw [if_neg h]
  exact h2 h
def Same (H H':Hp):Prop:=∀ b o,H b=some o->H' b=some o
theorem Same.refl (H:Hp):Same H H:=fun _ _ h=>h
theorem Same.trans {H H1 H2:Hp} (a:Same H H1) (b:Same H1 H2):Same H H2:=fun c o h=>b c o (a c o h)
theorem Same.seq {K:Fg} {H H':Hp} {a:Addr} {xs:List V} (e:Same H H') (h:SqL K H a xs):SqL K H' a xs:=by
 rcases h with (h | ⟨o,h⟩) | h
 ·exact .inl (.inl (e _ _ h))
 ·exact .inl (.inr ⟨o,e _ _ h⟩)
 ·exact .inr h
theorem Ky {prog:Program} {w:World} {A:Around} {R:Result->Shared->Prop} {s:Shared} {elt target iter:Expr} {ifs:List Expr} {scope:Scope} {pos:Pos} {it acc:Value} {env:Env} (I:Nat->Shared->Prop)
  (turn:∀ n s,I n s->wpAny (model prog w) A (pyNext it) (fun r s1=>match r with
   | none=>R (.ok .next) s1
   | some v=>wpAny (model prog w) A (letOwnedTupleGo target it v) (fun _ s1'=>wpAny (model prog w) A (assign target env v) (fun _ s2 =>
     wpAny (model prog w) A (forIn ifs true fun c r=>if r=true then do let ok ← isTrue c env (eval c env);pure (ForInStep.yield ok) else pure (ForInStep.yield r)) (fun ok s3 =>
      if ok=true then wpAny (model prog w) A (eval elt env) (fun x s4 =>
       wpAny (model prog w) A (call (.builtin "list.append") [acc,x]) (fun _ s5=>∃ m,m < n/\I m s5) (fun _ _=>False) s4) (fun _ _=>False) s3
      else ∃ m,m < n/\I m s3) (fun _ _=>False) s2) (fun _ _=>False) s1') (fun _ _=>False) s1) (fun _ _=>False) s)
  (n:Nat) (h:I n s) :
  codeAny (model prog w) A (.compLoop (.ListComp elt [⟨target,iter,ifs,0⟩] scope pos) 0 it acc env) R s:=by
 refine codeAny_loop rfl I (fun n s hI=>?_) n h
 show wpAny _ A ((compTurn (.ListComp elt [⟨target,iter,ifs,0⟩] scope pos) 0 it acc env).onRaise (fun x=>do noteFrame x env;theTreesLotGoes x)) _ _ s
 refine wpAny_noted ?_
 rw [compTurn_list]
 refine jZ (wpAny_standAt (jZ (wpAny_mono (turn n s hI) (fun r s1 h1=>?_) fun _ _ h'=>h'.elim)))
 cases r with
 | none=>exact kJ h1
 | some v =>
  refine jZ (wpAny_mono h1 (fun _ s1' h1'=>?_) fun _ _ h'=>h'.elim)
  refine jZ (wpAny_mono h1' (fun _ s2 h2=>jZ (wpAny_mono h2 (fun ok s3 h3=>?_) fun _ _ h'=>h'.elim)) fun _ _ h'=>h'.elim)
  cases ok with
  | false=>exact kJ ⟨rfl,h3⟩
  | true =>
   exact jZ (jZ (wpAny_mono h3 (fun x s4 h4=>jZ (wpAny_mono h4 (fun _ s5 h5=>kJ (kJ ⟨rfl,h5⟩)) fun _ _ h'=>h'.elim)) fun _ _ h'=>h'.elim))
def freeOk (sc:Scope):List (Str × NameKind)->Bool
 | []=>true
 | (n,k) :: r=>(k != .free || sc.names.lookup n == some .cell || sc.names.lookup n == some .free) && freeOk sc r
def Xl (env:Env):List (Str × NameKind)->List (Str × Addr)->List (Str × Addr)
 | [],cs=>cs
 | (n,k) :: r,cs=>Xl env r (if k=.free then (n,(env.cells.lookup n).getD 0) :: cs else cs)
theorem Zb {env:Env}:∀ (l:List (Str × NameKind)) (cs:List (Str × Addr)),(∀ n,(n,NameKind.free) ∈ l->∃ c,env.cells.lookup n=some c)->(∀ x c,cs.lookup x=some c->env.cells.lookup x=some c) ->
  ∀ x c,(Xl env l cs).lookup x=some c->env.cells.lookup x=some c
 | [],cs,_,h=>h
 | (n,k) :: r,cs,hl,h=>by
  refine Zb r _ (fun m hm=>hl m (jY _ hm)) fun x c e=>?_
  by_cases hk:k=.free
  ·rw [if_pos hk] at e
   subst hk
   obtain ⟨c',hc⟩:=hl n jX
   rw [zW] at e
   cases hx:x == n with
   | true =>
    rw [hx] at e
    have:x=n:=by simpa using hx
    subst this
    rw [hc] at e
    simp at e
    rw [hc,e]
   | false=>rw [hx] at e;exact h x c e
  ·rw [if_neg hk] at e
   exact h x c e
theorem Zc {env:Env}:∀ (l:List (Str × NameKind)) (cs:List (Str × Addr)) (x:Str),((cs.lookup x).isSome=true\/(x,NameKind.free) ∈ l)->((Xl env l cs).lookup x).isSome=true
 | [],cs,x,h=>by
  rcases h with h | h
  ·exact h
  ·exact nomatch h
 | (n,k) :: r,cs,x,h=>by
  refine Zc r _ x ?_
  rcases h with h | h
  ·left
   split
   ·rw [zW]
    split
    ·rfl
    ·exact h
   ·exact h
  ·rcases jJ.mp h with e | e
   ·cases e
    left
    rw [if_pos rfl,zW]
    simp
   ·exact .inr e
theorem Ys {scope:Scope} {env:Env} (h:∀ n,(n,NameKind.free) ∈ scope.names->∃ c,env.cells.lookup n=some c):closureFor scope env=pure (Xl env scope.names []):=by
 unfold closureFor
 suffices ∀ (l:List (Str × NameKind)) (cs:List (Str × Addr)),(∀ n,(n,NameKind.free) ∈ l->∃ c,env.cells.lookup n=some c)->(forIn l cs fun x r =>
   if (x.2 == NameKind.free)=true then do let a ← cellOf env x.1;pure (ForInStep.yield ((x.1,a) :: r)) else pure (ForInStep.yield r):Sem _)=pure (Xl env l cs) by
  have:=this scope.names [] h
  simp only at this ⊢
  rw [this]
  rfl
 intro l
 induction l with
 | nil=>intro cs _;rfl
 | cons p r ih =>
  intro cs hl
  obtain ⟨n,k⟩:=p
  rw [List.forIn_cons]
  by_cases hk:k=.free
  ·subst hk
   obtain ⟨c,hc⟩:=hl n jX
   have e:cellOf env n=pure c:=by unfold cellOf;rw [hc]
   have hb:(NameKind.free == NameKind.free)=true:=rfl
   simp only [hb,if_true,e,Xl,hc,Option.getD_some]
   exact ih _ fun m hm=>hl m (jY _ hm)
  ·have hb:(k == NameKind.free)=false:=by simpa using hk
   simp only [hb,Bool.false_eq_true,if_false,Xl,if_neg hk]
   exact ih _ fun m hm=>hl m (jY _ hm)
theorem Xr {sc:Scope}:∀ {l:List (Str × NameKind)},freeOk sc l=true->∀ n,(n,NameKind.free) ∈ l->sc.names.lookup n=some .cell\/sc.names.lookup n=some .free
 | [],_,n,h=>nomatch h
 | (m,k) :: r,h,n,hm=>by
  simp only [freeOk,xQ] at h
  rcases jJ.mp hm with e | e
  ·cases e
   have h1:=h.1
   have hb:(NameKind.free != NameKind.free)=false:=rfl
   rw [hb] at h1
   simp only [Bool.false_or,kQf,beq_iff_eq] at h1
   exact h1
  ·exact Xr h.2 n e
theorem Xk {env:Env}:∀ {names:List (Str × NameKind)} {x:Str} {k:NameKind},(names.map fun (n,k)=>if (k == NameKind.free && env.scope.kind == .function && env.kindOf n == some .cell) then (n,NameKind.cell) else (n,k)).lookup x=some k ->
  ∃ k0,names.lookup x=some k0/\(k=k0\/(k=.cell/\k0=.free))
 | [],_,_,h=>by simp at h
 | (n,k0) :: r,x,k,h=>by
  rw [xZ] at h
  by_cases hc:(k0 == NameKind.free && env.scope.kind == .function && env.kindOf n == some .cell)=true
  ·simp only [hc,if_true,zW] at h
   rw [zW]
   cases hx:x == n with
   | true =>
    rw [hx] at h
    refine ⟨k0,rfl,.inr ⟨(Option.some.inj h).symm,?_⟩⟩
    simp only [xQ,beq_iff_eq] at hc
    exact hc.1.1
   | false=>rw [hx] at h;exact Xk h
  ·simp only [hc,Bool.false_eq_true,if_false,zW] at h
   rw [zW]
   cases hx:x == n with
   | true=>rw [hx] at h;exact ⟨k0,rfl,.inl (Option.some.inj h).symm⟩
   | false=>rw [hx] at h;exact Xk h
theorem lookup_mem {α:Type}:∀ {l:List (Str × α)} {x:Str} {k:α},l.lookup x=some k->(x,k) ∈ l
 | [],_,_,h=>by simp at h
 | (n,k0) :: r,x,k,h=>by
  rw [zW] at h
  cases hx:x == n with
  | true =>
   rw [hx] at h
   have e1:x=n:=by simpa using hx
   have e2:k0=k:=Option.some.inj h
   subst e1 e2
   exact jX
  | false=>rw [hx] at h;exact jY _ (lookup_mem h)
theorem HOk.but {P:Program} {w:World} {H:Hp} {h h':Heap} {a:Addr} (x:HOk P w H h) (hn:H a=none) (hs:Heap.SameBut a h h'):HOk P w H h':=fun b ob e=>by
 refine (x b ob e).stay (fun c w' hc q=>(hs.2 c ?_).trans q) (fun _ q=>q) fun _ _ q=>q
 rintro rfl
 rcases hc with rfl | hc
 ·rw [hn] at e;cases e
 ·rw [hn] at hc;cases hc
def Ja (cp:List (Option Nat)) (σ:St):St:=cp.map fun (o:Option Nat)=>match o with
 | none=>none
 | some j=>match σ[(j:Nat)]? with
  | some v=>v
  | none=>none
def Jb (X:Cx) (scope:Scope):List Str->List (Option Nat)->Bool
 | [],[]=>true
 | x :: N,o :: cp=>(match o with | none=>true | some j=>X.N[j]? == some x && scope.names.lookup x == some .free) && Jb X scope N cp
 | _,_=>false
theorem Vu {X:Cx} {scope:Scope}:∀ {N:List Str} {cp:List (Option Nat)},Jb X scope N cp=true->cp.length=N.length
 | [],[],_=>rfl
 | _ :: N,_ :: cp,h=>by
  simp only [Jb,xQ] at h
  simp [Vu h.2]
 | [],_ :: _,h=>by simp [Jb] at h
 | _ :: _,[],h=>by simp [Jb] at h
theorem Vv {X:Cx} {scope:Scope}:∀ {N:List Str} {cp:List (Option Nat)} {i:Nat} {x:Str} {v:V} {σ:St},Jb X scope N cp=true->N[i]?=some x->(Ja cp σ)[i]?=some (some v) ->
  ∃ j:Nat,X.N[j]?=some x/\σ[j]?=some (some v)/\scope.names.lookup x=some .free
 | [],[],i,x,v,σ,_,h,_=>by simp at h
 | y :: N,o :: cp,0,x,v,σ,h,e,e2=>by
  simp only [Jb,xQ] at h
  have e':y=x:=by simpa using e
  subst e'
  cases o with
  | none=>simp [Ja] at e2
  | some j =>
   have h1:=h.1
   simp only [xQ,beq_iff_eq] at h1
   refine ⟨j,h1.1,?_,h1.2⟩
   simp only [Ja,xZ,List.getElem?_cons_zero,Option.some.injEq] at e2
   cases q:σ[j]? with
   | none=>rw [q] at e2;cases e2
   | some z=>rw [q] at e2;exact congrArg some e2
 | y :: N,o :: cp,i + 1,x,v,σ,h,e,e2=>by
  simp only [Jb,xQ] at h
  exact Vv (i:=i) h.2 (by simpa using e) (by simpa [Ja] using e2)
 | [],_ :: _,_,_,_,_,h,_,_=>by simp [Jb] at h
 | _ :: _,[],_,_,_,_,h,_,_=>by simp [Jb] at h
def Xs (X:Cx) (N:List Str) (scope:Scope) (fp:List Addr) (H:Hp) (s:Shared):Cx :=
 { X with N:=N,s₀:=s,H₀:=H,env:=compEnvC scope (Xl X.env scope.names []) s.heap.objs.size X.env,outer:=X.stack,stack:=X.stack,ex:=fp,fn:=fun _=>false,pn:=[],xe:=fun _ _=>False }
section
variable {X:Cx}
theorem Qag {l:List (Str × NameKind)} (h:(l.all fun p=>p.2 != .cell)=true):∀ y ∈ l,y.2 ≠ .cell:=fun y hy=>by
 have:=wJ.mp h y hy
 simpa using this
theorem Qfw {pins:List (Addr × Obj)} {σ:St} {H:Hp} {s:Shared} {N:List Str} {scope:Scope} {fp:List Addr} (I:Inv X pins σ H s) (hf:∀ b ∈ fp,FpOk X pins H b) (hlt:∀ b ∈ fp,b < s.heap.objs.size) (hk:scope.kind=.function)
  (hcell:(scope.names.all fun p=>p.2 != .cell)=true) (hfree:freeOk X.env.scope scope.names=true):(Xs X N scope fp H s).Ok:=by
 have has:∀ n,(n,NameKind.free) ∈ scope.names->∃ c,X.env.cells.lookup n=some c:=fun n hn=>I.ok.has n (Xr hfree n hn)
 have sub:∀ x c,(Xl X.env scope.names []).lookup x=some c->X.env.cells.lookup x=some c:=Zb _ _ has fun x c e=>by simp at e
 have fs:∀ b ∈ fp,b ∉ frs X.stack:=fun b hb z=>by
  obtain ⟨_,f1,f2,_⟩:=hf b hb
  rcases jJ.mp (I.stkSub b z) with e | e
  ·exact f1 e
  ·exact f2 e
 refine ⟨I.ok.mod,hk,I.ok.glob,I.ok.blt,kQ _,fun x y c h1 h2=>I.ok.inj x y c (sub x c h1) (sub y c h2),fun x hx=>?_,(fun x c h=>nomatch h),I.ok.hd,I.ok.frames,.inl rfl,fun b hb=>⟨yJ (hlt b hb),fun x c e=>(hf b hb).2.2.2.2.1 x c (sub x c e)⟩,
  I.bs,xW I.ok.bsz I.sz,fun b o e hb=>?_,fs,I.stack,I.stkFree⟩
 ·have hx':(scope.names.map fun (n,k)=>if (k == NameKind.free && X.env.scope.kind == .function && X.env.kindOf n == some .cell) then (n,NameKind.cell) else (n,k)).lookup x=some .cell \/
    (scope.names.map fun (n,k)=>if (k == NameKind.free && X.env.scope.kind == .function && X.env.kindOf n == some .cell) then (n,NameKind.cell) else (n,k)).lookup x=some .free:=hx
  have fr:(x,NameKind.free) ∈ scope.names:=by
   rcases hx' with e | e
   ·obtain ⟨k0,e0,z | z⟩:=Xk e
    ·subst z
     exact absurd rfl (Qag hcell _ (lookup_mem e0))
    ·obtain ⟨_,z⟩:=z
     subst z
     exact lookup_mem e0
   ·obtain ⟨k0,e0,z | z⟩:=Xk e
    ·subst z
     exact lookup_mem e0
    ·exact nomatch z.1
  exact jXc.mp (Zc _ _ x (.inr fr))
 ·obtain ⟨_,_,_,f3,_⟩:=hf b hb
  rcases f3 with z | z
  ·exact I.ok.noex b o e z
  ·exact absurd (zX (kX (I.ok.bs b o e).1) z) (jQc _)
theorem Qho {pins:List (Addr × Obj)} {σ:St} {H:Hp} {s:Shared} {N:List Str} {scope:Scope} {fp:List Addr} {cp:List (Option Nat)} {h':Heap} {m:Str->Option Value} {t':Nat} (I:Inv X pins σ H s) (hf:∀ b ∈ fp,FpOk X pins H b) (hlt:∀ b ∈ fp,b < s.heap.objs.size) (hk:scope.kind=.function)
  (hcell:(scope.names.all fun p=>p.2 != .cell)=true) (hfree:freeOk X.env.scope scope.names=true) (hcap:Jb X scope N cp=true)
  (hns:h'.Ns s.heap.objs.size m) (hx:∀ b o,s.heap.get? b=some o->h'.get? b=some o):Inv (Xs X N scope fp H s) [] (Ja cp σ) H { s with heap:=h',toks:=t' }:=by
 have has:∀ n,(n,NameKind.free) ∈ scope.names->∃ c,X.env.cells.lookup n=some c:=fun n hn=>I.ok.has n (Xr hfree n hn)
 have sub:∀ x c,(Xl X.env scope.names []).lookup x=some c->X.env.cells.lookup x=some c:=Zb _ _ has fun x c e=>by simp at e
 refine ⟨Qfw I hf hlt hk hcell hfree,rfl,I.bare,⟨fun b o e n _ _=>hx b o e,fun b o e n _ _=>⟨o.slots,hx b o e⟩,fun b o e n _=>n,fun b o e _=>⟨o,hx b o e⟩,fun b xs e=>e,fun b o xs e=>e,fun b ps e=>⟨#[],by rw [jKe];exact e⟩⟩,⟨m,hns,fun i x v e1 e2 e3=>?_⟩,fun x c e=>?_,I.hok.fresh (kQ _),fun x c e=>I.freeC x c (sub x c e),(fun p hp=>nomatch hp),I.hok.kept hx,?_⟩
 ·obtain ⟨j,h1,h2,h3⟩:=Vv hcap e1 e2
  obtain ⟨m',_,hl⟩:=I.loc
  have hkx:=Xr hfree x (lookup_mem h3)
  obtain ⟨u,r,l⟩:=hl j x v h1 h2 (.inr hkx)
  rcases l with ⟨l,_⟩ | ⟨_,c,hc,hcell'⟩
  ·rcases hkx with z | z
   ·exact nomatch (Option.some.inj (l.symm.trans z))
   ·exact nomatch (Option.some.inj (l.symm.trans z))
  ·obtain ⟨c',hc'⟩:=jXc.mp (Zc (env:=X.env) scope.names [] x (.inr (lookup_mem h3)))
   have ec:=sub x c' hc'
   rw [hc] at ec
   cases ec
   refine ⟨u,r,.inr ⟨?_,c,hc',?_⟩⟩
   ·rcases e3 with z | z | z
    ·obtain ⟨k0,e0,y | y⟩:=Xk (show (scope.names.map fun (n,k)=>if (k == NameKind.free && X.env.scope.kind == .function && X.env.kindOf n == some .cell) then (n,NameKind.cell) else (n,k)).lookup x=some .local from z)
     ·rw [h3] at e0;cases e0;cases y
     ·exact nomatch y.1
    ·exact .inl z
    ·exact .inr z
   ·obtain ⟨o,ho,hd⟩:=hcell'
    exact ⟨o,hx c o ho,hd⟩
 ·obtain ⟨v,o,ho,hd⟩:=I.cell x c (sub x c e)
  exact ⟨v,o,hx c o ho,hd⟩
 ·show (Ja cp σ).length=N.length
  unfold Ja
  rw [jK]
  exact Vu hcap
theorem Qdl {pins:List (Addr × Obj)} {σ σ':St} {H H':Hp} {s s':Shared} {N:List Str} {scope:Scope} {fp:List Addr} {pins':List (Addr × Obj)} (I:Inv X pins σ H s) (hf:∀ b ∈ fp,FpOk X pins H b)
  (J:Inv (Xs X N scope fp H s) pins' σ' H' s'):Inv X pins σ H' s' :=
 I.call' (ch:=fp) J.os J.base J.hok J.bare fun b hb=>⟨(hf b hb).2.2.2.1,(hf b hb).2.1,(hf b hb).2.2.2.2.1,(hf b hb).2.2.2.2.2⟩
def PF (X:Cx) (ifs:List Expr) (t:TT):Prop :=
 ∀ (pins:List (Addr × Obj)) (s:Shared) (σ:St) (H:Hp) (Q:Bool->Hp->Prop),Inv X pins σ H s->t σ H Q ->
  wpAny (model X.prog X.w) X.A (forIn ifs true fun c r=>if r=true then do let ok ← isTrue c X.env (eval c X.env);pure (ForInStep.yield ok) else pure (ForInStep.yield r)) (TP X pins σ Q) X.xe s
def tYes:TT:=fun _ H Q=>Q true H
theorem Zd:PF X [] tYes:=fun _ _ _ H _ I h=>wpAny_tests_nil ⟨H,I,h⟩
theorem Qmf {c:Expr} {t:TT} (hc:PT X c t):PF X [c] t:=fun pins s σ H Q I h=>wpAny_tests_one (hc pins s σ H Q I h)
def LcW (J:It) (D:Addr) (τ0:St) (H:Hp) (g:TG) (tt:TT) (te:TE) (Q:Addr->Hp->Prop):Prop:=∃ W:Nat->Nat->St->List V->Hp->Prop,(∃ m,W 0 m τ0 [] (upd H D (.lst [])))/\∀ i m τ ys H,W i m τ ys H ->
 H D=some (.lst ys)/\((J.stop i H/\Q D H)\/(J.go i H/\ys.length < sizeLine/\∃ (N1:St->V->Hp->Prop) (N2:St->Hp->Prop),(∀ τ v H,N1 τ v H->∃ m',m' < m/\W (i + 1) m' τ (ys ++ [v]) (upd H D (.lst (ys ++ [v]))))/\(∀ τ H,N2 τ H->∃ m',m' < m/\W (i + 1) m' τ ys H) /\
  ∀ x H',J.yld i H x H'->g x τ H' fun σ2 H2=>tt σ2 H2 fun ok H3=>if ok=true then te σ2 H3 fun v H4=>H4 D=some (.lst ys)/\N1 σ2 v H4 else N2 σ2 H3))
def tLC (cp:List (Option Nat)) (wi:TI) (g:TG) (tt:TT) (te:TE) (σ:St) (H:Hp) (Q:Addr->Hp->Prop):Prop:=wi σ H fun J H1=>∀ D,H1 D=none->LcW J D (Ja cp σ) H1 g tt te Q
theorem Qki {elt iter target:Expr} {ifs:List Expr} {scope:Scope} {pos:Pos} {N:List Str} {cp:List (Option Nat)} {g:TG} {tt:TT} {te:TE} {pins:List (Addr × Obj)} {σ:St} {H:Hp} {s:Shared} {E:Value->Shared->Prop} {Q:Addr->Hp->Prop}
  {it:Addr} {fp:List Addr} {tn:Nat->Heap->Prop} {J:It} {RR:Value->Addr->Result->Shared->Prop} (hc:X.calm=true) (hk:scope.kind=.function) (hcell:(scope.names.all fun p=>p.2 != .cell)=true) (hfree:freeOk X.env.scope scope.names=true) (hcap:Jb X scope N cp=true)
  (hg:∀ fp H s,PG (Xs X N scope fp H s) target g) (ht:∀ fp H s,PF (Xs X N scope fp H s) ifs tt) (he:∀ fp H s,PE (Xs X N scope fp H s) elt te)
  (I:Inv X pins σ H s) (T:Turn X.prog X.w X.K target J fp it tn) (st:tn 0 s.heap) (hf:∀ b ∈ fp,FpOk X pins H b)
  (h:∀ D,H D=none->LcW J D (Ja cp σ) H g tt te Q)
  (hRR:∀ D C s' H' m,Inv X pins σ H' s'->FpOk X pins H' C->s'.heap.Ns C m->Q D H'->RR (.ref D) C (.ok .next) s') :
  wpAny (model X.prog X.w) X.A (newList []) (fun acc s3=>wpAny (model X.prog X.w) X.A (newFunctionEnv scope X.env.globals (Xl X.env scope.names []) [] X.env.qual none .none (some X.env)) (fun cenv s4 =>
   codeAny (model X.prog X.w) X.A (.compStart (.ListComp elt [⟨target,iter,ifs,0⟩] scope pos) 0 (.ref it) acc { cenv with scope:=relabel scope X.env }) (RR acc cenv.locals) s4) E s3) E s:=by
 have hlt:∀ b ∈ fp,b < s.heap.objs.size:=fun b hb=>by
  obtain ⟨o,e,_⟩:=T.obj _ _ st b hb
  exact kX e
 refine wpAny_newObj_type (wpAny_newFunctionEnv (Qag hcell) (by intro y hy;simp at hy) (fun h1 hns1 hsb1=>?_) hk)
 dsimp only at hns1 hsb1 ⊢
 have hD:H s.heap.objs.size=none:=I.hok.fresh (kQ _)
 have I3:Inv X pins σ (upd H s.heap.objs.size (.lst [])) { s with heap:=s.heap.push { cls:=.type "list",dict:=none,data:=.seq ([]:List Value).toArray } } :=
  I.laid (t':=s.toks) (fun b u e=>jV _ e) (kQ _) ⟨wX _,[],0,.nil,kW _ rfl⟩
 have hf3:∀ b ∈ fp,FpOk X pins (upd H s.heap.objs.size (.lst [])) b:=fun b hb=>⟨by rw [Ql (yJ (hlt b hb))];exact (hf b hb).1,(hf b hb).2⟩
 have hlt3:∀ b ∈ fp,b < (s.heap.push { cls:=.type "list",dict:=none,data:=.seq ([]:List Value).toArray }).objs.size:=fun b hb=>by rw [wY];exact wW (hlt b hb)
 generalize hH2:s.heap.push { cls:=.type "list",dict:=none,data:=.seq ([]:List Value).toArray }=H2 at hns1 hsb1 I3 hlt3 ⊢
 generalize hs3:({ s with heap:=H2 }:Shared)=s3 at I3
 have hs3h:s3.heap=H2:=by rw [← hs3]
 have ext1:∀ b o,s3.heap.get? b=some o->h1.get? b=some o:=fun b o e=>by
  rw [hs3h] at e
  exact hsb1.extBut b o (yJ (kX e)) (jV _ e)
 have J0:Inv (Xs X N scope fp (upd H s.heap.objs.size (.lst [])) s3) [] (Ja cp σ) (upd H s.heap.objs.size (.lst [])) { s3 with heap:=h1,toks:=s.toks + ([]:List (Str × Value)).length } :=
  Qho I3 hf3 (by rw [hs3h];exact hlt3) hk hcell hfree hcap (by rw [hs3h];exact hns1) ext1
 have st1:tn 0 h1:=T.keep _ _ _ st fun b hb o e=>ext1 b o (by rw [hs3h,← hH2];exact jV _ e)
 obtain ⟨W,⟨m0,w0⟩,turn⟩:=h s.heap.objs.size hD
 have stat:∀ {H':Hp},(∀ b ∈ fp,H' b=none)->∀ b ∈ fp,FpOk (Xs X N scope fp (upd H s.heap.objs.size (.lst [])) s3) [] H' b:=fun {H'} hn b hb =>
  ⟨hn b hb,(J0.ok.exf b hb).1,J0.ok.exfs b hb,.inl hb,(J0.ok.exf b hb).2,fun p hp=>nomatch hp⟩
 have loop:codeAny (model X.prog X.w) X.A (.compLoop (.ListComp elt [⟨target,iter,ifs,0⟩] scope pos) 0 (.ref it) (.ref s.heap.objs.size) (compEnvC scope (Xl X.env scope.names []) H2.objs.size X.env))
   (RR (.ref s.heap.objs.size) H2.objs.size) { s3 with heap:=h1,toks:=s.toks + ([]:List (Str × Value)).length }:=by
  have eEnv:compEnvC scope (Xl X.env scope.names []) H2.objs.size X.env=(Xs X N scope fp (upd H s.heap.objs.size (.lst [])) s3).env:=by
   rw [← hs3h];rfl
  rw [eEnv]
  refine Ky (fun n s'=>∃ i τ ys H',Inv (Xs X N scope fp (upd H s.heap.objs.size (.lst [])) s3) [] τ H' s'/\tn i s'.heap/\(∀ b ∈ fp,H' b=none)/\W i n τ ys H') ?_ m0 ⟨0,Ja cp σ,[],_,J0,st1,fun b hb=>(hf3 b hb).1,w0⟩
  rintro n s4 ⟨i,τ,ys,H4,I4,st4,fr4,w4⟩
  obtain ⟨hD4,hh⟩:=turn i n τ ys H4 w4
  rcases hh with ⟨stop,qn⟩ | ⟨go,hlen,N1,N2,hN1,hN2,step⟩
  ·refine thn (T.done (Xs X N scope fp (upd H s.heap.objs.size (.lst [])) s3) rfl rfl rfl hc i [] s4 τ H4 _ I4 (stat fr4) st4 stop) fun r s5 hqP=>?_
   obtain ⟨hr,I5⟩:=hqP
   subst hr
   obtain ⟨m,hm,_⟩:=I5.loc
   have e5:H2.objs.size=(Xs X N scope fp (upd H s.heap.objs.size (.lst [])) s3).env.locals:=by rw [← eEnv];rfl
   refine hRR _ _ s5 H4 m (Qdl I3 hf3 I5) ?_ (by rw [e5];exact hm) qn
   exact I3.fpOk (by rw [hs3h];exact kQ _) (by rw [e5];exact I5.free)
  ·refine thn (T.item (Xs X N scope fp (upd H s.heap.objs.size (.lst [])) s3) rfl rfl rfl hc i [] s4 τ H4 _ I4 (stat fr4) st4 go) fun r s5 hqP=>?_
   obtain ⟨u,hr,h5⟩:=hqP
   subst hr
   refine thn h5 fun _ s6 hqP=>?_
   obtain ⟨x,H6,I6,r6,y6,st6,fr6⟩:=hqP
   have I6':=I6.pinned (stat fr6) (T.obj _ _ st6)
   refine thn (hg fp _ _ _ s6 τ H6 x u _ I6' r6 (step x H6 y6)) fun _ s7 hqP=>?_
   obtain ⟨σ7,H7,I7,q7⟩:=hqP
   refine thn (ht fp _ _ _ s7 σ7 H7 _ I7 q7) fun ok s8 hqP=>?_
   obtain ⟨H8,I8,q8⟩:=hqP
   have back:∀ {σ':St} {H':Hp} {s':Shared},Inv (Xs X N scope fp (upd H s.heap.objs.size (.lst [])) s3) ([] ++ Qab fp s6.heap) σ' H' s'->Inv (Xs X N scope fp (upd H s.heap.objs.size (.lst [])) s3) [] σ' H' s'/\tn (i + 1) s'.heap/\∀ b ∈ fp,H' b=none:=fun {σ' H' s'} I'=>by
    refine ⟨I'.unpinned,T.keep _ _ _ st6 fun b hb o e=>(I'.pin (b,o) (yY _ (yY _ (Yx hb e)))).1,fun b hb=>?_⟩
    obtain ⟨o,e,d⟩:=T.obj _ _ st6 b hb
    exact (I'.pin (b,o) (yY _ (yY _ (Yx hb e)))).2.1
   cases ok with
   | false =>
    rw [if_neg kK] at q8 ⊢
    obtain ⟨m',hm,w8⟩:=hN2 _ _ q8
    obtain ⟨b1,b2,b3⟩:=back I8
    exact ⟨m',hm,i + 1,σ7,ys,H8,b1,b2,b3,w8⟩
   | true =>
    rw [if_pos rfl] at q8 ⊢
    refine thn (he fp _ _ _ s8 σ7 H8 _ I8 q8) fun y s9 hqP=>?_
    obtain ⟨v,H9,I9,r9,hD9,n9⟩:=hqP
    obtain ⟨m',hm,w9⟩:=hN1 _ _ _ n9
    refine thn (Xc _ s9 σ7 H9 (.ref s.heap.objs.size) [v] (.ref s.heap.objs.size) [y] (fun _ H'=>H'=upd H9 s.heap.objs.size (.lst (ys ++ [v]))) I9 rfl (.cons r9 .nil) ⟨_,ys,v,rfl,rfl,hD9,hlen,rfl⟩) fun _ s10 hqP=>?_
    obtain ⟨_,H10,I10,_,e10⟩:=hqP
    subst e10
    obtain ⟨b1,b2,b3⟩:=back I10
    exact ⟨m',hm,i + 1,σ7,_,_,b1,b2,b3,w9⟩
 have e3:({ s with heap:=h1,toks:=s.toks + ([]:List (Str × Value)).length }:Shared)={ s3 with heap:=h1,toks:=s.toks + ([]:List (Str × Value)).length }:=by rw [← hs3]
 rw [e3]
 exact codeAny_compStart_list loop (T.self _ 0 _ _ _ st1 loop)
theorem Qfx {elt iter target:Expr} {ifs:List Expr} {scope:Scope} {pos:Pos} (N:List Str) (cp:List (Option Nat)) {wi:TI} {g:TG} {tt:TT} {te:TE} (hc:X.calm=true) (hi:PI X target iter wi)
  (hg:∀ fp H s,PG (Xs X N scope fp H s) target g) (ht:∀ fp H s,PF (Xs X N scope fp H s) ifs tt) (he:∀ fp H s,PE (Xs X N scope fp H s) elt te)
  (hk:autoParam (scope.kind=.function) L2.aRfl._auto_1) (hcell:autoParam ((scope.names.all fun p=>p.2 != .cell)=true) L2.aRfl._auto_1) (hfree:autoParam (freeOk X.env.scope scope.names=true) L2.aRfl._auto_1) (hcap:autoParam (Jb X scope N cp=true) L2.aRfl._auto_1)
  (hnames:autoParam ((scope.names.all fun p=>p.2 != .local || scope.names.lookup p.1 == some .local)=true) L2.aRfl._auto_1) (hs:autoParam (∀ x,foldedSetIterable iter X.env x=pure x) L2.aIrf._auto_1) :
  PE X (.ListComp elt [⟨target,iter,ifs,0⟩] scope pos) (fun σ H Q=>tLC cp wi g tt te σ H fun D H'=>Q (.ref D) H'):=by
 intro pins s σ H Q I h
 rw [eval_ListComp]
 have has:∀ n,(n,NameKind.free) ∈ scope.names->∃ c,X.env.cells.lookup n=some c:=fun n hn=>I.ok.has n (Xr hfree n hn)
 refine wpAny_comprehension_free (use:=none) rfl hs (Ys has) hk (fun x hx hl=>?_) (thn (hi pins s σ H _ I h) fun xv s1 h1=>thn h1 fun itv s2 h2=>?_)
 ·have:=wJ.mp hnames x hx
  simp only [kQf,bne_iff_ne,beq_iff_eq] at this
  exact this.resolve_left fun z=>z hl
 ·obtain ⟨it,fp,tn,J,H2,e,I2,T,st2,f2,hW⟩:=h2
  subst e
  refine Qki (N:=N) (cp:=cp) hc hk hcell hfree hcap hg ht he I2 T st2 f2 hW fun D C s' H' m I' fC hm q=>⟨m,hm,fun h' hsb=>?_⟩
  exact ⟨.ref D,H',I'.turned (t':=s'.toks) (fun b o hb e=>hsb.extBut b o hb e) fC.1 fC.2.1 fC.2.2.2.1 fC.2.2.2.2.1 fC.2.2.2.2.2,rfl,q⟩
end
structure Drw (P:Program) (w:World) (it l:Addr) (st:Nat->Heap->Prop) (src:List Value->Heap->Prop):Prop where
 obj:∀ i h,st i h->∃ o,h.get? it=some o/\∀ v,o.data ≠ .cell v
 keep:∀ i h h',st i h->(∀ o,h.get? it=some o->h'.get? it=some o)->st i h'
 srck:∀ xs h h',src xs h->(∀ o,h.get? l=some o->h'.get? l=some o)->src xs h'
 item:∀ (A:Around) (E:Value->Shared->Prop) (s:Shared) (i:Nat) (xs:List Value) (x:Value) (Q:Value->Shared->Prop),st i s.heap->src xs s.heap->xs[i]?=some x ->
  (∀ h',st (i + 1) h'->Heap.SameBut it s.heap h'->Q x { s with heap:=h' })->wpAny (model P w) A (Builtin.SmallTypes.nextOf (.ref it)) Q E s
 done:∀ (A:Around) (E:Value->Shared->Prop) (s:Shared) (i:Nat) (xs:List Value) (Q:Value->Shared->Prop),A.handled=none->st i s.heap->src xs s.heap->xs[i]?=none ->
  (∀ h' e,Heap.ExtBut it s.heap h'->(∃ o,h'.get? e=some o/\o.cls=.type "StopIteration")->E (.ref e) { s with heap:=h' })->wpAny (model P w) A (Builtin.SmallTypes.nextOf (.ref it)) Q E s
theorem Qkj {P:Program} {w:World} (it l:Addr):Drw P w it l (fun i h=>h.IsListIter it l i) (fun xs h=>h.IsList l xs.toArray) where
 obj:=fun i h st=>by
  obtain ⟨o,e,c,d⟩:=st
  exact ⟨o,e,fun v z=>by rw [d] at z;cases z⟩
 keep:=fun i h h' st k=>st.at k
 srck:=fun xs h h' sr k=>sr.at k
 item:=fun A E s i xs x Q st sr hx hQ=>wpAny_nextOf_list_item st sr (by simpa using hx) hQ
 done:=fun A E s i xs Q hh st sr hx hE=>wpAny_nextOf_list_end hh st sr (by simpa using hx) hE
section
variable {P:Program} {w:World} {A:Around} {E:Value->Shared->Prop} {s:Shared}
theorem Vw {it t:Addr} {i:Nat} {xs:Array Value} {x:Value} {Q:Value->Shared->Prop} (hI:s.heap.IsTupleIter it t i) (hT:s.heap.IsTuple t xs) (hx:xs[i]?=some x)
  (hQ:∀ h',h'.IsTupleIter it t (i + 1)->Heap.SameBut it s.heap h'->Q x { s with heap:=h' }):wpAny (model P w) A (Builtin.SmallTypes.nextOf (.ref it)) Q E s:=by
 obtain ⟨oI,gI,cI,dI⟩:=id hI
 obtain ⟨oT,gT,_,nT,dT⟩:=hT
 unfold Builtin.SmallTypes.nextOf
 refine jZ (wpAny_callSpecial?_slot (name:=Str.ofString "__next__") hI.typeIs F.slot_tuple_iterator_next (wpAny_call_entry F.slot_tuple_iterator_next hI.typeIs F.entry_tuple_iterator_next ?_ (F.args_tuple_iterator_next_1 _)))
 show wpAny _ _ (field (.ref it) 0 >>= _) _ _ s
 refine jZ (wpAny_field gI dI (x:=.ref t) rfl ?_)
 show wpAny _ _ (if (Value.ref t == Value.none)=true then _ else _) _ _ s
 rw [if_neg (show ¬ ((Value.ref t == Value.none)=true) from kK)]
 show wpAny _ _ (field (.ref it) 1 >>= _) _ _ s
 refine jZ (wpAny_field gI dI (x:=.int i 0) rfl ?_)
 show wpAny _ _ (seqItems? (.ref t) >>= _) _ _ s
 refine jZ (wpAny_seqItems gT dT ?_)
 simp only [kQa,hx]
 refine jZ (wpAny_setField gI dI (by simp) (kJ ⟨x,rfl,kJ (hQ _ ?_ (Heap.SameBut.update ..))⟩))
 refine ⟨_,jYf _ gI (Obj.isFreed_of_fields (Obj.data_mapFields dI _)),(Obj.cls_mapFields ..).trans cI,?_⟩
 rw [Obj.data_mapFields dI];simp [rawInt]
theorem Wx {it t:Addr} {i:Nat} {xs:Array Value} {Q:Value->Shared->Prop} (hh:A.handled=none) (hI:s.heap.IsTupleIter it t i) (hT:s.heap.IsTuple t xs) (hx:xs[i]?=none)
  (hE:∀ h' e,Heap.ExtBut it s.heap h'->(∃ o,h'.get? e=some o/\o.cls=.type "StopIteration")->E (.ref e) { s with heap:=h' }):wpAny (model P w) A (Builtin.SmallTypes.nextOf (.ref it)) Q E s:=by
 obtain ⟨oI,gI,cI,dI⟩:=id hI
 obtain ⟨oT,gT,_,nT,dT⟩:=hT
 unfold Builtin.SmallTypes.nextOf
 refine jZ (wpAny_callSpecial?_slot (name:=Str.ofString "__next__") hI.typeIs F.slot_tuple_iterator_next (wpAny_call_entry F.slot_tuple_iterator_next hI.typeIs F.entry_tuple_iterator_next ?_ (F.args_tuple_iterator_next_1 _)))
 show wpAny _ _ (field (.ref it) 0 >>= _) _ _ s
 refine jZ (wpAny_field gI dI (x:=.ref t) rfl ?_)
 show wpAny _ _ (if (Value.ref t == Value.none)=true then _ else _) _ _ s
 rw [if_neg (show ¬ ((Value.ref t == Value.none)=true) from kK)]
 show wpAny _ _ (field (.ref it) 1 >>= _) _ _ s
 refine jZ (wpAny_field gI dI (x:=.int i 0) rfl ?_)
 show wpAny _ _ (seqItems? (.ref t) >>= _) _ _ s
 refine jZ (wpAny_seqItems gT dT ?_)
 simp only [kQa,hx]
 refine jZ (wpAny_rule (jZ (wpAny_setField gI dI (by simp) ?_)))
 show wpAny _ _ (newExc (.type "StopIteration") [] >>= _) _ _ _
 refine jZ ?_
 simp only [newExc,newTuple]
 refine jZ (wpAny_newObj_type ?_ (by size_fits))
 refine jZ (m:=firstArgMember _ _) (wpAny_of_eq (a:=Value.none) (by first | rfl | (simp only [firstArgMember];rfl)) ?_)
 refine wpAny_newObj_type ?_ (by size_fits)
 simp only [raiseNew]
 refine jZ (wpAny_handled ?_)
 first | rw [show A.in1.handled=none from hh] | rw [hh]
 exact jZ (kJ (wpAny_throw (hE _ _ (((Heap.SameBut.update ..).extBut.push _).push _) ⟨_,kW _ rfl,rfl⟩)))
end
theorem Qnn {P:Program} {w:World} (it l:Addr):Drw P w it l (fun i h=>h.IsTupleIter it l i) (fun xs h=>h.IsTuple l xs.toArray) where
 obj:=fun i h st=>by
  obtain ⟨o,e,c,d⟩:=st
  exact ⟨o,e,fun v z=>by rw [d] at z;cases z⟩
 keep:=fun i h h' st k=>st.at k
 srck:=fun xs h h' sr k=>sr.at k
 item:=fun A E s i xs x Q st sr hx hQ=>Vw st sr (by simpa using hx) hQ
 done:=fun A E s i xs Q hh st sr hx hE=>Wx hh st sr (by simpa using hx) hE
section
variable {P:Program} {w:World} {A:Around} {E:Value->Shared->Prop} {s:Shared} {z u o i1 i2 l1 l2:Addr} {st1 st2:Nat->Heap->Prop} {src1 src2:List Value->Heap->Prop} {k1 k2:Nat} {xs ys:List Value} {a b:Value}
theorem Qci {x y:Value} {Q:Option Value->Shared->Prop} (d1:Drw P w i1 l1 st1 src1) (d2:Drw P w i2 l2 st2 src2) (D:ZipApart z u o i1 i2 l1 l2) (hZ:IsZip s.heap z u o .none) (hU:IsPair s.heap u (.ref i1) (.ref i2)) (hO:IsPair s.heap o a b)
  (h1:st1 k1 s.heap) (h2:st2 k2 s.heap) (hl1:src1 xs s.heap) (hl2:src2 ys s.heap) (hx:xs[k1]?=some x) (hy:ys[k2]?=some y)
  (hQ:∀ h',IsZip h' z u o (rawInt s.heap.objs.size)->IsPair h' o x y->st1 (k1 + 1) h'->st2 (k2 + 1) h'->IsPair h' s.heap.objs.size x y->h'.objs.size=s.heap.objs.size + 1 ->
   (∀ c q,c ≠ z->c ≠ o->c ≠ i1->c ≠ i2->s.heap.get? c=some q->h'.get? c=some q)->Q (some (.ref s.heap.objs.size)) { s with heap:=h' }):wpAny (model P w) A (pyNext (.ref z)) Q E s:=by
 have hTy:s.TypeIs (.ref z) "zip":=⟨_,hZ,rfl⟩
 unfold pyNext
 refine jZ (wpAny_attempt (wpAny_callSpecial?_slot (name:=Str.ofString "__next__") hTy F.slot_zip_next (wpAny_call_entry F.slot_zip_next hTy F.entry_zip_next ?_ (F.args_zip_next_1 _))))
 show wpAny _ _ (field (.ref z) 2 >>= _) _ _ _
 refine jZ (wpAny_field hZ rfl (x:=.bool false) rfl ?_)
 show wpAny _ _ (field (.ref z) 3 >>= _) _ _ _
 refine jZ (wpAny_field hZ rfl (x:=.ref u) rfl (jZ (wpAny_seqItems hU rfl ?_)))
 show wpAny _ _ (Builtin.SmallTypes.ownedTupleIsFree (.ref z) >>= _) _ _ _
 refine jZ ?_
 unfold Builtin.SmallTypes.ownedTupleIsFree
 refine jZ (wpAny_field hZ rfl (x:=.none) rfl (kJ ?_))
 simp only [if_true]
 refine jZ (wpAny_rule (jZ (wpAny_field hZ rfl (x:=.ref o) rfl (jZ (wpAny_setField_rec hZ (by simp) fun g1 hZ1 e1=>?_)))))
 replace hZ1:IsZip g1 z u o .ellipsis:=hZ1
 refine jZ ?_
 simp only [List.zipIdx_cons,List.zipIdx_nil,List.forIn_cons,List.forIn_nil]
 refine jZ (jZ (wpAny_onRaise ?_))
 show wpAny _ _ (Builtin.SmallTypes.nextOf (.ref i1) >>= _) _ _ _
 refine jZ (d1.item _ _ { s with heap:=g1 } k1 xs x _ (d1.keep _ _ _ h1 fun q e=>e1.extBut _ _ D.i1z e) (d1.srck _ _ _ hl1 fun q e=>e1.extBut _ _ D.l1z e) hx fun g2 h1' e2=>kJ ?_)
 have hO2:IsPair g2 o a b:=e2.extBut _ _ D.TOi1 (e1.extBut _ _ D.TOz hO)
 refine jZ (wpAny_seqItems hO2 rfl (jZ (wpAny_updateSeq_pair hO2 fun g3 hO3 e3=>?_)))
 replace hO3:IsPair g3 o x b:=hO3
 refine jZ (wpAny_letGo (kJ ?_))
 refine jZ (jZ (wpAny_onRaise ?_))
 show wpAny _ _ (Builtin.SmallTypes.nextOf (.ref i2) >>= _) _ _ _
 refine jZ (d2.item _ _ { s with heap:=g3 } k2 ys y _ (d2.keep _ _ _ h2 fun q e=>e3.extBut _ _ D.TOi2.symm (e2.extBut _ _ D.i12.symm (e1.extBut _ _ D.i2z e)))
  (d2.srck _ _ _ hl2 fun q e=>e3.extBut _ _ D.l2TO (e2.extBut _ _ D.l2i1 (e1.extBut _ _ D.l2z e))) hy fun g4 h2' e4=>kJ ?_)
 have hO4:IsPair g4 o x b:=e4.extBut _ _ D.TOi2 hO3
 refine jZ (wpAny_seqItems hO4 rfl (jZ (wpAny_updateSeq_pair hO4 fun g5 hO5 e5=>?_)))
 replace hO5:IsPair g5 o x y:=hO5
 refine jZ (wpAny_letGo (kJ (kJ ?_)))
 refine jZ (wpAny_seqItems hO5 rfl (jZ (wpAny_newTuple ?_)))
 have hsz:g5.objs.size=s.heap.objs.size:=by rw [e5.1,e4.1,e3.1,e2.1,e1.1]
 have hZ5:IsZip g5 z u o .ellipsis:=e5.extBut _ _ D.TOz.symm (e4.extBut _ _ D.i2z.symm (e3.extBut _ _ D.TOz.symm (e2.extBut _ _ D.i1z.symm hZ1)))
 have hk5:∀ c q,c ≠ z->c ≠ o->c ≠ i1->c ≠ i2->s.heap.get? c=some q->g5.get? c=some q:=fun c q c1 c2 c3 c4 e =>
  e5.extBut _ _ c2 (e4.extBut _ _ c4 (e3.extBut _ _ c2 (e2.extBut _ _ c3 (e1.extBut _ _ c1 e))))
 have s15:st1 (k1 + 1) g5:=d1.keep _ _ _ h1' fun q e=>e5.extBut _ _ D.TOi1.symm (e4.extBut _ _ D.i12 (e3.extBut _ _ D.TOi1.symm e))
 have s25:st2 (k2 + 1) g5:=d2.keep _ _ _ h2' fun q e=>e5.extBut _ _ D.TOi2.symm e
 have zlt:z < g5.objs.size:=kX hZ5
 show wpAny _ _ (Builtin.SmallTypes.ownedTupleHandOut (.ref z) (.ref g5.objs.size) >>= _) _ _ _
 refine jZ ?_
 unfold Builtin.SmallTypes.ownedTupleHandOut
 have hZ6:IsZip (g5.push { cls:=.type "tuple",data:=.seq #[x,y] }) z u o .ellipsis:=jV _ hZ5
 refine jZ (wpAny_setField_rec hZ6 (by simp) fun g7 hZ7 e7=>?_)
 replace hZ7:IsZip g7 z u o (rawInt g5.objs.size):=hZ7
 refine wpAny_setField_rec hZ7 (by simp) fun g8 hZ8 e8=>?_
 replace hZ8:IsZip g8 z u o (rawInt g5.objs.size):=hZ8
 have up:∀ c q,c ≠ z->g5.get? c=some q->g8.get? c=some q:=fun c q c1 e=>e8.extBut _ _ c1 (e7.extBut _ _ c1 (jV _ e))
 have hT8:IsPair g8 g5.objs.size x y:=e8.extBut _ _ (jJa zlt) (e7.extBut _ _ (jJa zlt) (kW _ rfl))
 have hs8:g8.objs.size=g5.objs.size + 1:=by rw [e8.1,e7.1,wY]
 rw [hsz] at hZ8 hT8 hs8
 refine kJ ⟨_,rfl,kJ ?_⟩
 show Q (some (.ref g5.objs.size)) _
 rw [hsz]
 exact hQ g8 hZ8 (up _ _ D.TOz hO5) (d1.keep _ _ _ s15 fun q e=>up _ q D.i1z e) (d2.keep _ _ _ s25 fun q e=>up _ q D.i2z e) hT8 hs8 fun c q c1 c2 c3 c4 e=>up c q c1 (hk5 c q c1 c2 c3 c4 e)
theorem Qdm {Q:Option Value->Shared->Prop} (hh:A.handled=none) (d1:Drw P w i1 l1 st1 src1) (d2:Drw P w i2 l2 st2 src2) (D:ZipApart z u o i1 i2 l1 l2) (hZ:IsZip s.heap z u o .none) (hU:IsPair s.heap u (.ref i1) (.ref i2)) (hO:IsPair s.heap o a b)
  (h1:st1 k1 s.heap) (h2:st2 k2 s.heap) (hl1:src1 xs s.heap) (hl2:src2 ys s.heap) (hend:xs[k1]?=none\/ys[k2]?=none)
  (hQ:∀ h',(∀ c q,c ≠ z->c ≠ o->c ≠ i1->c ≠ i2->s.heap.get? c=some q->h'.get? c=some q)->Q none { s with heap:=h' }):wpAny (model P w) A (pyNext (.ref z)) Q E s:=by
 have hTy:s.TypeIs (.ref z) "zip":=⟨_,hZ,rfl⟩
 unfold pyNext
 have fin:∀ (h':Heap) (e:Addr),(∀ c q,c ≠ z->c ≠ o->c ≠ i1->c ≠ i2->s.heap.get? c=some q->h'.get? c=some q)->(∃ o,h'.get? e=some o/\o.cls=.type "StopIteration") ->
   wpAny (model P w) A (isInstance (.ref e) (.type "StopIteration") >>= fun b=>if b=true then pure none else throw (Value.ref e)) Q E { s with heap:=h' }:=fun h' e hk he=>by
  obtain ⟨q,hq,hc⟩:=he
  exact jZ (wpAny_isInstance (T:="StopIteration") (b:=true) ⟨q,hq,hc⟩ isSubtype_stop (kJ (hQ _ hk)))
 refine jZ (wpAny_attempt (wpAny_callSpecial?_slot (name:=Str.ofString "__next__") hTy F.slot_zip_next (wpAny_call_entry F.slot_zip_next hTy F.entry_zip_next ?_ (F.args_zip_next_1 _))))
 show wpAny _ _ (field (.ref z) 2 >>= _) _ _ _
 refine jZ (wpAny_field hZ rfl (x:=.bool false) rfl ?_)
 show wpAny _ _ (field (.ref z) 3 >>= _) _ _ _
 refine jZ (wpAny_field hZ rfl (x:=.ref u) rfl (jZ (wpAny_seqItems hU rfl ?_)))
 show wpAny _ _ (Builtin.SmallTypes.ownedTupleIsFree (.ref z) >>= _) _ _ _
 refine jZ ?_
 unfold Builtin.SmallTypes.ownedTupleIsFree
 refine jZ (wpAny_field hZ rfl (x:=.none) rfl (kJ ?_))
 simp only [if_true]
 refine jZ (wpAny_rule (jZ (wpAny_field hZ rfl (x:=.ref o) rfl (jZ (wpAny_setField_rec hZ (by simp) fun g1 hZ1 e1=>?_)))))
 replace hZ1:IsZip g1 z u o .ellipsis:=hZ1
 refine jZ ?_
 simp only [List.zipIdx_cons,List.zipIdx_nil,List.forIn_cons,List.forIn_nil]
 refine jZ (jZ (wpAny_onRaise ?_))
 show wpAny _ _ (Builtin.SmallTypes.nextOf (.ref i1) >>= _) _ _ _
 cases hx:xs[k1]? with
 | none =>
  refine jZ (d1.done _ _ { s with heap:=g1 } k1 xs _ hh (d1.keep _ _ _ h1 fun q e=>e1.extBut _ _ D.i1z e) (d1.srck _ _ _ hl1 fun q e=>e1.extBut _ _ D.l1z e) hx fun g2 e e2 he=>?_)
  obtain ⟨qe,ge,ce⟩:=he
  have hZ2:IsZip g2 z u o .ellipsis:=e2 _ _ D.i1z.symm hZ1
  have hez:e ≠ z:=fun x=>by subst x;rw [hZ2] at ge;cases ge;simp at ce
  refine wpAny_setField_rec hZ2 (by simp) fun g3 _ e3=>?_
  exact fin g3 e (fun c q c1 _ c3 _ x=>e3.extBut _ _ c1 (e2 _ _ c3 (e1.extBut _ _ c1 x))) ⟨qe,e3.extBut _ _ hez ge,ce⟩
 | some x =>
  have hy:ys[k2]?=none:=hend.resolve_left fun h=>by rw [hx] at h;cases h
  refine jZ (d1.item _ _ { s with heap:=g1 } k1 xs x _ (d1.keep _ _ _ h1 fun q e=>e1.extBut _ _ D.i1z e) (d1.srck _ _ _ hl1 fun q e=>e1.extBut _ _ D.l1z e) hx fun g2 h1' e2=>kJ ?_)
  have hO2:IsPair g2 o a b:=e2.extBut _ _ D.TOi1 (e1.extBut _ _ D.TOz hO)
  refine jZ (wpAny_seqItems hO2 rfl (jZ (wpAny_updateSeq_pair hO2 fun g3 hO3 e3=>?_)))
  refine jZ (wpAny_letGo (kJ ?_))
  refine jZ (jZ (wpAny_onRaise ?_))
  show wpAny _ _ (Builtin.SmallTypes.nextOf (.ref i2) >>= _) _ _ _
  refine jZ (d2.done _ _ { s with heap:=g3 } k2 ys _ hh (d2.keep _ _ _ h2 fun q e=>e3.extBut _ _ D.TOi2.symm (e2.extBut _ _ D.i12.symm (e1.extBut _ _ D.i2z e)))
   (d2.srck _ _ _ hl2 fun q e=>e3.extBut _ _ D.l2TO (e2.extBut _ _ D.l2i1 (e1.extBut _ _ D.l2z e))) hy fun g4 e e4 he=>?_)
  obtain ⟨qe,ge,ce⟩:=he
  have hZ4:IsZip g4 z u o .ellipsis:=e4 _ _ D.i2z.symm (e3.extBut _ _ D.TOz.symm (e2.extBut _ _ D.i1z.symm hZ1))
  have hez:e ≠ z:=fun x=>by subst x;rw [hZ4] at ge;cases ge;simp at ce
  refine wpAny_setField_rec hZ4 (by simp) fun g5 _ e5=>?_
  exact fin g5 e (fun c q c1 c2 c3 c4 x=>e5.extBut _ _ c1 (e4 _ _ c4 (e3.extBut _ _ c2 (e2.extBut _ _ c3 (e1.extBut _ _ c1 x))))) ⟨qe,e5.extBut _ _ hez ge,ce⟩
end
def Jn (n:String) (l:Addr):Obj:={ cls:=.type n,data:=.fields #[.ref l,.int 0 0] }
structure Itr0 (n:String) (l:Addr) (pr:Heap->Prop):Prop where
 go:∀ (P:Program) (w:World) (A:Around) (E:Value->Shared->Prop) (s:Shared) (Q:Value->Shared->Prop),pr s.heap->Q (.ref s.heap.objs.size) { s with heap:=s.heap.push (Jn n l) }->wpAny (model P w) A (pyIter (.ref l)) Q E s
 push:∀ h o,pr h->pr (h.push o)
theorem Qhp (l:Addr) (xs:Array Value):Itr0 "list_iterator" l (fun h=>h.IsList l xs):=⟨fun _ _ _ _ _ _ hl h=>wpAny_pyIter_list hl h,fun _ _ hl=>hl.push _⟩
theorem Qkk (l:Addr) (xs:Array Value):Itr0 "tuple_iterator" l (fun h=>h.IsTuple l xs):=⟨fun _ _ _ _ _ _ hl h=>wpAny_pyIter_tuple hl h,fun _ _ hl=>hl.push _⟩
def zH1 (h:Heap) (n1:String) (l1:Addr):Heap:=h.push (Jn n1 l1)
def zH2 (h:Heap) (n1 n2:String) (l1 l2:Addr):Heap:=(zH1 h n1 l1).push (Jn n2 l2)
def zH3 (h:Heap) (n1 n2:String) (l1 l2:Addr):Heap:=(zH2 h n1 n2 l1 l2).push { cls:=.type "tuple",data:=.seq #[.ref h.objs.size,.ref (zH1 h n1 l1).objs.size] }
def zH4 (h:Heap) (n1 n2:String) (l1 l2:Addr):Heap:=(zH3 h n1 n2 l1 l2).push { cls:=.type "tuple",data:=.seq #[.none,.none] }
def zH5 (h:Heap) (n1 n2:String) (l1 l2:Addr):Heap:=(zH4 h n1 n2 l1 l2).push { cls:=.type "zip",data:=.fields #[.none,.bool false,.bool false,.ref (zH2 h n1 n2 l1 l2).objs.size,.ref (zH3 h n1 n2 l1 l2).objs.size] }
theorem Qhq {n1 n2:String} {l1 l2:Addr} {p1 p2:Heap->Prop} (I1:Itr0 n1 l1 p1) (I2:Itr0 n2 l2 p2) :
  Meets (Builtin.«zip.__new__» ⟨[.type "zip",.ref l1,.ref l2],[]⟩) (fun _ R s=>p1 s.heap/\p2 s.heap/\R (.ok (.ret (.ref (zH4 s.heap n1 n2 l1 l2).objs.size))) { s with heap:=zH5 s.heap n1 n2 l1 l2 }) :=
 .of_wp fun prog w A R s h=>by
  obtain ⟨hp,g,d,tk,os⟩:=s
  obtain ⟨q1,q2,h⟩:=h
  have hsub:=sub_zip
  have f1:=fun (A:Around) (E:Value->Shared->Prop) (Q:Value->Shared->Prop)=>I1.go prog w A E ⟨hp,g,d,tk,os⟩ Q q1
  have f2:=fun (A:Around) (E:Value->Shared->Prop) (Q:Value->Shared->Prop)=>I2.go prog w A E ⟨hp.push (Jn n1 l1),g,d,tk,os⟩ Q (I2.push _ _ q2)
  wp_walk using f1 _ _ _,f2 _ _ _
  exact ⟨_,rfl,h⟩
def Sq (K:Fg) (m:Bool) (H:Hp) (a:Addr) (xs:List V):Prop:=if m=true then SqL K H a xs else SqT K H a xs
def itN (m:Bool):String:=if m=true then "list_iterator" else "tuple_iterator"
def itSt (m:Bool) (it l:Addr) (i:Nat) (h:Heap):Prop:=if m=true then h.IsListIter it l i else h.IsTupleIter it l i
def Qfy (m:Bool) (l:Addr) (xs:List Value) (h:Heap):Prop:=if m=true then h.IsList l xs.toArray else h.IsTuple l xs.toArray
theorem Yd {P:Program} {w:World} (m:Bool) (it l:Addr):Drw P w it l (itSt m it l) (Qfy m l):=by
 cases m
 ·exact Qnn it l
 ·exact Qkj it l
theorem Qdn (m:Bool) (l:Addr) (xs:List Value):Itr0 (itN m) l (Qfy m l xs):=by
 cases m
 ·exact Qkk l xs.toArray
 ·exact Qhp l xs.toArray
theorem Qat (m:Bool) {h:Heap} {it l:Addr} (e:h.get? it=some (Jn (itN m) l)):itSt m it l 0 h:=by
 cases m
 ·exact ⟨_,e,rfl,rfl⟩
 ·exact ⟨_,e,rfl,rfl⟩
section
variable {X:Cx} {pins:List (Addr × Obj)} {σ:St} {H:Hp} {s:Shared}
theorem Inv.sq {m:Bool} {a:Addr} {xs:List V} (I:Inv X pins σ H s) (h:Sq X.K m H a xs):∃ its:List Value,Vals xs its/\Qfy m a its s.heap/\xs.length<=sizeLine:=by
 cases m
 ·obtain ⟨its,rv,p,hz⟩:=I.tuple h
  exact ⟨its,rv,p,by first | exact hz | lia⟩
 ·obtain ⟨its,rv,p,hz⟩:=I.list h
  exact ⟨its,rv,p.isList,by first | exact hz | lia⟩
theorem Inv.sq_inj {m:Bool} {a:Addr} {xs ys:List V} (I:Inv X pins σ H s) (h:Sq X.K m H a xs) (h':Sq X.K m H a ys):xs=ys:=by
 cases m
 ·exact I.tuple_inj h h'
 ·exact I.list_inj h h'
theorem Inv.tupNew {xs:List V} {its:List Value} {h':Heap} {ch:List Addr} {T:Addr} (I:Inv X pins σ H s) (hT:s.heap.objs.size<=T) (r:Vals xs its) (hz:xs.length<=sizeLine) (e:h'.get? T=some { cls:=.type "tuple",data:=.seq its.toArray })
  (hf:∀ b ∈ ch,FpOk X pins H b) (k:∀ b o,b ∉ ch->s.heap.get? b=some o->h'.get? b=some o) (th:∀ b ∈ ch,∃ o,h'.get? b=some o):Inv X pins σ (upd H T (.tup xs)) { s with heap:=h' }:=by
 have hn:H T=none:=I.hok.fresh hT
 have tr:∀ b o,H b=some o->b ∉ ch:=fun b o e z=>by rw [(hf b z).1] at e;cases e
 refine I.step (g':=s.gens) (t':=s.toks) (d':=s.drawn) (ch:=ch) (fun b hb=>⟨(hf b hb).2.2.2.1,(hf b hb).2.1,(hf b hb).2.2.2.2.1,(hf b hb).2.2.2.2.2⟩) (fun b o _ _ hc q _=>k b o hc q) (fun b o _ _ hc q _=>⟨o.slots,k b o hc q⟩) (fun b o _ q n=>?_) (fun b o hc q=>⟨o,k b o hc q⟩)
  (fun b xs q=>?_) (fun b o u q=>?_) (fun b ps q=>⟨#[],?_⟩) (fun m hm=>?_) (fun b ob q=>?_) I.bare
 ·rw [Ql (yJ (zX (kX q) hT))];exact n
 ·rw [Ql (Qq q hn)];exact q
 ·rw [Ql (Qq q hn)];exact q
 ·rw [Ql (Qq q hn),jKe];exact q
 ·obtain ⟨o,es,ep,q,d,r⟩:=hm
  exact ⟨o,es,ep,k _ o (fun z=>(hf _ z).2.1 rfl) q,d,r⟩
 ·by_cases hb:b=T
  ·subst hb
   rw [Qd] at q;cases q
   exact ⟨hz,its,r,_,e,rfl,_,rfl⟩
  ·rw [Ql hb] at q
   refine (I.hok b ob q).stay (fun c v hc r=>k c v ?_ r) (fun c r=>by rw [Ql (Qq r hn)];exact r) fun c xs r=>by rw [Ql (Qq r hn)];exact r
   rcases hc with rfl | hc
   ·exact tr _ _ q
   ·exact tr _ _ hc
end
def Itz (K:Fg) (m1 m2:Bool) (a b:Addr):It :=
  ⟨fun i H=>∃ xs ys x y,Sq K m1 H a xs/\Sq K m2 H b ys/\xs[i]?=some x/\ys[i]?=some y,
   fun i H v H'=>∃ T x y,v=.ref T/\H T=none/\H'=upd H T (.tup [x,y])/\(∀ xs,Sq K m1 H a xs->xs[i]?=some x)/\∀ ys,Sq K m2 H b ys->ys[i]?=some y,
   fun i H=>∃ xs ys,Sq K m1 H a xs/\Sq K m2 H b ys/\(xs.length<=i\/ys.length<=i)⟩
def zTn (m1 m2:Bool) (z u o i1 i2 a b:Addr) (i:Nat) (h:Heap):Prop:=IsZip h z u o .none/\IsPair h u (.ref i1) (.ref i2)/\(∃ p q,IsPair h o p q)/\itSt m1 i1 a i h/\itSt m2 i2 b i h
theorem Qkl {P:Program} {w:World} {K:Fg} {es:List Expr} {kk:Nat} {tp:Pos} {m1 m2:Bool} {z u o i1 i2 a b:Addr} (D:ZipApart z u o i1 i2 a b) :
  Turn P w K (.Tuple es kk tp) (Itz K m1 m2 a b) [z,u,o,i1,i2] z (zTn m1 m2 z u o i1 i2 a b) where
 mem:=by simp
 obj:=fun i h st c hc=>by
  obtain ⟨h1,h2,⟨p,q,h3⟩,h4,h5⟩:=st
  simp only [jJ,xV,or_false] at hc
  rcases hc with rfl | rfl | rfl | rfl | rfl
  ·exact ⟨_,h1,fun v z=>by cases z⟩
  ·exact ⟨_,h2,fun v z=>by cases z⟩
  ·exact ⟨_,h3,fun v z=>by cases z⟩
  ·exact (Yd (P:=P) (w:=w) m1 c a).obj i h h4
  ·exact (Yd (P:=P) (w:=w) m2 c b).obj i h h5
 keep:=fun i h h' st k=>by
  obtain ⟨h1,h2,⟨p,q,h3⟩,h4,h5⟩:=st
  exact ⟨k z (by simp) _ h1,k u (by simp) _ h2,⟨p,q,k o (by simp) _ h3⟩,(Yd (P:=P) (w:=w) m1 i1 a).keep i h h' h4 (k i1 (by simp)),(Yd (P:=P) (w:=w) m2 i2 b).keep i h h' h5 (k i2 (by simp))⟩
 item:=by
  intro X hP hw hK hc i pins s σ H E I hf st hg
  subst hP hw hK
  obtain ⟨xs,ys,x,y,q1,q2,hx,hy⟩:=hg
  obtain ⟨is1,r1,p1,z1⟩:=I.sq q1
  obtain ⟨is2,r2,p2,z2⟩:=I.sq q2
  obtain ⟨v1,e1,rv1⟩:=r1.get hx
  obtain ⟨v2,e2,rv2⟩:=r2.get hy
  obtain ⟨hZ,hU,⟨p,q,hO⟩,s1,s2⟩:=st
  refine Qci (Yd m1 i1 a) (Yd m2 i2 b) D hZ hU hO s1 s2 p1 p2 e1 e2 fun h' a1 a2 a3 a4 a5 a6 a7=>⟨_,rfl,?_⟩
  have hf':∀ c ∈ [z,o,i1,i2],FpOk X pins H c:=fun c hc=>hf c (by simp only [jJ,xV,or_false] at hc ⊢;rcases hc with rfl | rfl | rfl | rfl <;> simp)
  have I1:Inv X pins σ (upd H s.heap.objs.size (.tup [x,y])) { s with heap:=h' }:=I.tupNew (ch:=[z,o,i1,i2]) (kQ _) (.cons rv1 (.cons rv2 .nil)) (by show 2<=sizeLine;decide) a5 hf'
   (fun c q hc e=>by simp only [jJ,xV,or_false,not_or] at hc;exact a7 c q hc.1 hc.2.1 hc.2.2.1 hc.2.2.2 e)
   (fun c hc=>by
    simp only [jJ,xV,or_false] at hc
    rcases hc with rfl | rfl | rfl | rfl
    ·exact ⟨_,a1⟩
    ·exact ⟨_,a2⟩
    ·obtain ⟨q,e,_⟩:=(Yd (P:=X.prog) (w:=X.w) m1 c a).obj _ _ a3;exact ⟨q,e⟩
    ·obtain ⟨q,e,_⟩:=(Yd (P:=X.prog) (w:=X.w) m2 c b).obj _ _ a4;exact ⟨q,e⟩)
  refine wpAny_letOwnedTupleGo_zip (s:={ s with heap:=h' }) a1 fun h2 g1 g2=>?_
  obtain ⟨f0,f1,f2,f3,f4,f5⟩:=hf z (by simp)
  have ltz:z < s.heap.objs.size:=kX hZ
  have I2:Inv X pins σ (upd H s.heap.objs.size (.tup [x,y])) { s with heap:=h2 }:=I1.turned (h':=h2) (t':=s.toks) (fun c q hc e=>g2.extBut c q hc e) (by rw [Ql (yJ ltz)];exact f0) f1 f3 f4 f5
  have hU':IsPair h' u (.ref i1) (.ref i2):=a7 u _ D.TIz D.TITO D.TIi1 D.TIi2 hU
  refine ⟨.ref s.heap.objs.size,_,I2,rfl,⟨_,x,y,rfl,I.hok.fresh (kQ _),rfl,fun xs' hq=>by rw [I.sq_inj hq q1];exact hx,fun ys' hq=>by rw [I.sq_inj hq q2];exact hy⟩,?_,fun c hc=>?_⟩
  ·exact ⟨g1,g2.extBut _ _ D.TIz hU',⟨_,_,g2.extBut _ _ D.TOz a2⟩,(Yd (P:=X.prog) (w:=X.w) m1 i1 a).keep _ _ _ a3 fun q e=>g2.extBut _ _ D.i1z e,(Yd (P:=X.prog) (w:=X.w) m2 i2 b).keep _ _ _ a4 fun q e=>g2.extBut _ _ D.i2z e⟩
  ·have hlt:c ≠ s.heap.objs.size:=by
    have st':zTn m1 m2 z u o i1 i2 a b i s.heap:=⟨hZ,hU,⟨p,q,hO⟩,s1,s2⟩
    simp only [jJ,xV,or_false] at hc
    rcases hc with rfl | rfl | rfl | rfl | rfl
    ·exact yJ ltz
    ·exact yJ (kX hU)
    ·exact yJ (kX hO)
    ·obtain ⟨q,e,_⟩:=(Yd (P:=X.prog) (w:=X.w) m1 c a).obj _ _ s1;exact yJ (kX e)
    ·obtain ⟨q,e,_⟩:=(Yd (P:=X.prog) (w:=X.w) m2 c b).obj _ _ s2;exact yJ (kX e)
   rw [Ql hlt]
   exact (hf c hc).1
 done:=by
  intro X hP hw hK hc i pins s σ H E I hf st hg
  subst hP hw hK
  obtain ⟨xs,ys,q1,q2,hx⟩:=hg
  obtain ⟨is1,r1,p1,z1⟩:=I.sq q1
  obtain ⟨is2,r2,p2,z2⟩:=I.sq q2
  obtain ⟨hZ,hU,⟨p,q,hO⟩,s1,s2⟩:=st
  have l1:=r1.length
  have l2:=r2.length
  refine Qdm (I.ok.hd hc) (Yd m1 i1 a) (Yd m2 i2 b) D hZ hU hO s1 s2 p1 p2 (by
   rcases hx with h | h
   ·exact .inl (jKf.mpr (by lia))
   ·exact .inr (jKf.mpr (by lia))) fun h' k=>⟨rfl,?_⟩
  have hf':∀ c ∈ [z,o,i1,i2],FpOk X pins H c:=fun c hc=>hf c (by simp only [jJ,xV,or_false] at hc ⊢;rcases hc with rfl | rfl | rfl | rfl <;> simp)
  have tr:∀ c q,H c=some q->c ∉ [z,o,i1,i2]:=fun c q e y=>by rw [(hf' c y).1] at e;cases e
  have kk:∀ c q,c ∉ [z,o,i1,i2]->s.heap.get? c=some q->h'.get? c=some q:=fun c q hc e=>by
   simp only [jJ,xV,or_false,not_or] at hc
   exact k c q hc.1 hc.2.1 hc.2.2.1 hc.2.2.2 e
  refine I.step (g':=s.gens) (t':=s.toks) (d':=s.drawn) (ch:=[z,o,i1,i2]) (fun b hb=>⟨(hf' b hb).2.2.2.1,(hf' b hb).2.1,(hf' b hb).2.2.2.2.1,(hf' b hb).2.2.2.2.2⟩) (fun b o _ _ hc q _=>kk b o hc q) (fun b o _ _ hc q _=>⟨o.slots,kk b o hc q⟩) (fun b o _ q n=>n) (fun b o hc q=>⟨o,kk b o hc q⟩)
   (fun b xs q=>q) (fun b o u q=>q) (fun b ps q=>⟨#[],by rw [jKe];exact q⟩) (fun m hm=>?_) (fun b ob q=>?_) I.bare
  ·obtain ⟨o,es,ep,q,d,r⟩:=hm
   exact ⟨o,es,ep,kk _ o (fun z=>(hf' _ z).2.1 rfl) q,d,r⟩
  ·refine (I.hok b ob q).stay (fun c v hc r=>kk c v ?_ r) (fun c r=>r) fun c xs r=>r
   rcases hc with rfl | hc
   ·exact tr _ _ q
   ·exact tr _ _ hc
 self:=fun _ _ _ _ _ st h=>wpAny_pyIter_zip st.1 h
section
variable {X:Cx}
def iZip (K:Fg) (m1 m2:Bool) (ta:TA):TI:=fun σ H R=>ta σ H fun vs H1=>∃ a b,vs=[.ref a,.ref b]/\(∃ xs,Sq K m1 H1 a xs)/\(∃ ys,Sq K m2 H1 b ys)/\R (Itz K m1 m2 a b) H1
theorem Qhr {P:Program} {w:World} {A:Around} {E:Value->Shared->Prop} {s:Shared} {m1 m2:Bool} {a b:Addr} {xs ys:List Value} {Q:Value->Shared->Prop} (h1:Qfy m1 a xs s.heap) (h2:Qfy m2 b ys s.heap)
  (h:∀ h',IsZip h' (s.heap.objs.size + 4) (s.heap.objs.size + 2) (s.heap.objs.size + 3) .none->IsPair h' (s.heap.objs.size + 2) (.ref s.heap.objs.size) (.ref (s.heap.objs.size + 1))->IsPair h' (s.heap.objs.size + 3) .none .none ->
   itSt m1 s.heap.objs.size a 0 h'->itSt m2 (s.heap.objs.size + 1) b 0 h'->(∀ c o,s.heap.get? c=some o->h'.get? c=some o)->Q (.ref (s.heap.objs.size + 4)) { s with heap:=h' }) :
  wpAny (model P w) A (call (.type "zip") [.ref a,.ref b]) Q E s:=by
 refine callType_new F.called_zip (by decide) (F.typeCall_zip_2 _ _) (F.newCall_zip_2 _ _) (fun obj=>F.args_object_init_3 obj _ _) F.entry_zip_new (Qhq (Qdn m1 a xs) (Qdn m2 b ys)) ⟨h1,h2,?_⟩
 have z1:(zH1 s.heap (itN m1) a).objs.size=s.heap.objs.size + 1:=wY ..
 have z2:(zH2 s.heap (itN m1) (itN m2) a b).objs.size=s.heap.objs.size + 2:=by unfold zH2;rw [wY,z1]
 have z3:(zH3 s.heap (itN m1) (itN m2) a b).objs.size=s.heap.objs.size + 3:=by unfold zH3;rw [wY,z2]
 have z4:(zH4 s.heap (itN m1) (itN m2) a b).objs.size=s.heap.objs.size + 4:=by unfold zH4;rw [wY,z3]
 have g5:(zH5 s.heap (itN m1) (itN m2) a b).get? (zH4 s.heap (itN m1) (itN m2) a b).objs.size=some { cls:=.type "zip",data:=.fields #[.none,.bool false,.bool false,.ref (zH2 s.heap (itN m1) (itN m2) a b).objs.size,.ref (zH3 s.heap (itN m1) (itN m2) a b).objs.size] }:=kW _ rfl
 have up4:∀ c o,(zH4 s.heap (itN m1) (itN m2) a b).get? c=some o->(zH5 s.heap (itN m1) (itN m2) a b).get? c=some o:=fun c o e=>jV _ e
 have up3:∀ c o,(zH3 s.heap (itN m1) (itN m2) a b).get? c=some o->(zH5 s.heap (itN m1) (itN m2) a b).get? c=some o:=fun c o e=>up4 c o (jV _ e)
 have up2:∀ c o,(zH2 s.heap (itN m1) (itN m2) a b).get? c=some o->(zH5 s.heap (itN m1) (itN m2) a b).get? c=some o:=fun c o e=>up3 c o (jV _ e)
 have up1:∀ c o,(zH1 s.heap (itN m1) a).get? c=some o->(zH5 s.heap (itN m1) (itN m2) a b).get? c=some o:=fun c o e=>up2 c o (jV _ e)
 have g4:(zH5 s.heap (itN m1) (itN m2) a b).get? (zH3 s.heap (itN m1) (itN m2) a b).objs.size=some { cls:=.type "tuple",data:=.seq #[.none,.none] }:=up4 _ _ (kW _ rfl)
 have g3:(zH5 s.heap (itN m1) (itN m2) a b).get? (zH2 s.heap (itN m1) (itN m2) a b).objs.size=some { cls:=.type "tuple",data:=.seq #[.ref s.heap.objs.size,.ref (zH1 s.heap (itN m1) a).objs.size] }:=up3 _ _ (kW _ rfl)
 have g2:(zH5 s.heap (itN m1) (itN m2) a b).get? (zH1 s.heap (itN m1) a).objs.size=some (Jn (itN m2) b):=up2 _ _ (kW _ rfl)
 have g1:(zH5 s.heap (itN m1) (itN m2) a b).get? s.heap.objs.size=some (Jn (itN m1) a):=up1 _ _ (kW _ rfl)
 show _/\_
 rw [z2,z3,z4] at g5
 rw [z1,z2] at g3
 rw [z3] at g4
 rw [z1] at g2
 rw [z4]
 exact ⟨⟨_,g5,rfl⟩,h _ g5 g3 g4 (Qat m1 g1) (Qat m2 g2) fun c o x=>up1 c o (jV _ x)⟩
theorem Qhs {n l1 l2:Addr} (h1:l1 < n) (h2:l2 < n):ZipApart (n + 4) (n + 2) (n + 3) n (n + 1) l1 l2:=by
 have h1':@LT.lt Nat _ l1 n:=h1
 have h2':@LT.lt Nat _ l2 n:=h2
 constructor <;> (show @Ne Nat _ _) <;> lia
theorem Qau {m:Bool} {a:Addr} {xs:List Value} {h:Heap} (e:Qfy m a xs h):a < h.objs.size:=by
 cases m
 ·obtain ⟨o,e,_⟩:=e;exact kX e
 ·obtain ⟨o,e,_⟩:=e;exact kX e
theorem pi_zip {a b:Expr} {ta:TA} {p pos tp:Pos} {es:List Expr} {kk:Nat} (m1 m2:Bool) (hg:Gl X "zip") (hm:X.mg "zip"=none) (ha:PA X [a,b] ta) (hs:autoParam (starEach [a,b] X.env=[(false,eval a X.env),(false,eval b X.env)]) L2.aRfl._auto_1) (hs2:autoParam (starEach [b] X.env=[(false,eval b X.env)]) L2.aRfl._auto_1) :
  PI X (.Tuple es kk tp) (.Call (.Name "zip" p) [a,b] [] pos) (iZip X.K m1 m2 ta):=by
 intro pins s σ H R I h
 refine Call_ (Vk I hg hm (u:=.type "zip") (by rfl) (PyProof.Rows.callWith_type1 (thn (ha pos pins s σ H _ I h) fun us s1 hqP=>?_) (by rw [hs,hs2]) (by rw [hs2];rfl)))
 obtain ⟨vs,H1,I1,r1,q1⟩:=hqP
 obtain ⟨l1,l2,e,⟨xs,q1⟩,⟨ys,q2⟩,q⟩:=q1
 subst e
 obtain ⟨u1,u2,rfl,e1,e2⟩:=r1.two
 cases e1
 cases e2
 obtain ⟨is1,r1,p1,z1⟩:=I1.sq q1
 obtain ⟨is2,r2,p2,z2⟩:=I1.sq q2
 refine Qhr p1 p2 fun h' a1 a2 a3 a4 a5 a6=>?_
 have I2:Inv X pins σ H1 { s1 with heap:=h' }:=I1.kept (t':=s1.toks) a6
 refine wpAny_pyIter_zip (s:={ s1 with heap:=h' }) a1 ⟨_,[s1.heap.objs.size + 4,s1.heap.objs.size + 2,s1.heap.objs.size + 3,s1.heap.objs.size,s1.heap.objs.size + 1],_,_,H1,rfl,I2,Qkl (Qhs (Qau p1) (Qau p2)),⟨a1,a2,⟨_,_,a3⟩,a4,a5⟩,fun c hc=>?_,q⟩
 have hle:s1.heap.objs.size<=c:=by
  simp only [jJ,xV,or_false] at hc
  rcases hc with rfl | rfl | rfl | rfl | rfl
  ·exact jJc _ _
  ·exact jJc _ _
  ·exact jJc _ _
  ·exact kQ _
  ·exact jJc _ _
 exact I1.fpOk hle (I1.hok.fresh hle)
end
section
variable {X:Cx}
theorem Qno {bs:List Bool} {its:List Value} (r:Vals (bs.map V.bl) its) {i:Nat} {v:Value} (h:its[i]?=some v):∃ b,bs[i]?=some b/\v=.bool b:=by
 have hl:=r.length
 obtain ⟨hi,_⟩:=kZ.mp h
 rw [jK] at hl
 have hb:bs[i]?=some bs[i]:=gE (by lia)
 obtain ⟨u,h1,h2⟩:=r.get (i:=i) (x:=.bl bs[i]) (by rw [xJ,hb];rfl)
 rw [h] at h1;cases h1
 exact ⟨_,hb,h2⟩
theorem Qkm (bs:List Bool):((List.range bs.length).all fun i=>(bs[i]?).getD true)=bs.all id:=by
 rw [jJd]
 simp only [wJ,jKb,id]
 constructor
 ·intro h b hb
  obtain ⟨i,hi,e⟩:=List.getElem_of_mem hb
  have:=h i hi
  rw [gE hi] at this
  simpa [e] using this
 ·intro h i hi
  rw [gE hi]
  exact h _ (List.getElem_mem hi)
theorem Qnp {h h':Heap} {o:Obj} (hk:∀ b x,b ∉ [h.objs.size]->(h.push o).get? b=some x->h'.get? b=some x):∀ b x,h.get? b=some x->h'.get? b=some x:=fun b x e =>
 hk b x (fun hm=>by rw [jQ.mp hm] at e;exact jQc _ (kX e)) (jV _ e)
theorem Jx (hc:X.calm=true):Jm X (.builtin "all") (fun xs H Q=>∃ (a:Addr) (bs:List Bool),xs=[.ref a]/\SqL X.K H a (bs.map V.bl)/\Q (.bl (bs.all id)) H):=by
 intro pins s σ H xs us Q I rv h
 obtain ⟨a,bs,rfl,hq,q⟩:=h
 obtain ⟨u,rfl,ru⟩:=rv.one
 cases ru
 obtain ⟨its,r,p,hz⟩:=I.list hq
 have hlt:a < s.heap.objs.size:=by obtain ⟨_,e,_⟩:=p.isList;exact kX e
 have hl:=r.length
 rw [jK] at hl
 refine call_all_walk (wpAny_pyIter_list p.isList ?_)
 refine ⟨s.heap.objs.size,[s.heap.objs.size,a],[s.heap.objs.size],its.toArray.size,_,_,fun i=>(bs[i]?).getD true,rfl,Walks.list (A:=X.A.in1) (I.ok.hd hc) _ a (yJ hlt) its.toArray,⟨⟨_,kW _ rfl,rfl,rfl⟩,p.isList.push _⟩,fun i v s' Q' E' hP hQ=>?_,fun h' tk hk=>?_⟩
 ·obtain ⟨b,e,rfl⟩:=Qno r (by simpa using hP)
  simp only [e,Option.getD_some] at hQ
  exact wpAny_truthy_bool hQ
 ·rw [kY,← hl,Qkm]
  exact ⟨.bl (bs.all id),H,I.kept (Qnp hk),rfl,q⟩
end
section
theorem Qem {n:Nat} {e:Nat->Bool}:(List.range n).all e=true ↔ ∀ i,i < n->e i=true:=by simp [wJ]
open PySem.SeqAt Classical in
end
def Fn (K:Fg) (mg:Str->Option Value) (x:Str) (st:Stmt):Prop:=∃ f fd,Fun K x x st f fd/\mg x=some (.ref f)
theorem Yt {K:Fg} {h:Heap} {mg:Str->Option Value} {x:Str} {st:Stmt} {f:Addr} {oc:Value} {od an:Option Addr} {osl:Array (Option Value)} {kV doc pm cdv ct:Value} (X:K.In h) (G:h.Ns mainGlobals mg)
  (a:PySem.W.nsIn K mainGlobals x=some (some (.ref f))) (l:K.lookup f=some ⟨oc,od,.func (PySem.W.fnOf x x (Xd st) (Qz st) (Qh st) .none kV doc pm an cdv ct),osl⟩) (c:PySem.W.codeIn K cdv x=true) (k:PySem.W.keepIn K (.ref f)=true):Fn K mg x st :=
 ⟨f,_,Kx l c k,PySem.W.mg_of X G a⟩
structure Cal (P:Program) (w:World) (K:Fg) (mg:Str->Option Value) (base:Heap) (k:Nat) (x:Str) (ps:List Str) (sp:Sp):Prop where
 ex:∃ f fd,FnOk P w K mg base CX0 k f fd ps sp/\mg x=some (.ref f)/\PySem.W.keepIn K (.ref f)=true/\Binds K fd ps []
theorem Xv {P:Program} {w:World} {K:Fg} {mg:Str->Option Value} {base:Heap} {k:Nat} {x:Str} {st:Stmt} {N ps:List Str} {sp:Sp} (F:Fn K mg x st) (S:FnScope N ps (Qh st))
  (hb:∀ (kV doc pm:Value) (an:Option Addr) (cdv ct:Value) (us:List Value),us.length=ps.length->bindArgs (PySem.W.fnOf x x (Xd st) (Qz st) (Qh st) .none kV doc pm an cdv ct) ⟨us,[]⟩=pure (ps.zip us)) (len:∀ vs H Q E,sp vs H Q E->vs.length=ps.length)
  (hbody:∀ (f:Addr) (cdv:Value) (A:Around) (outer:List Env) (s:Shared) (H:Hp) (vs:List V) (Q:VK) (E:XK),Room k (A.deeper (envOfC x (Qh st) s.heap.objs.size f cdv))->sp vs H Q E ->
   ∃ t,PSs (cxOf CX0 P w K mg base N x (Qh st) f cdv A outer s H E).nox (Qz st) t/\t { nx:=fun _ H'=>Q .non H',rt:=Q } (start N vs) H):Cal P w K mg base (k + 1) x ps sp:=by
 obtain ⟨f,fd,F,m⟩:=F
 exact ⟨f,fd,F.ok S len (hbody f),m,F.kp,F.binds hb⟩
section
variable {X:Cx}
theorem Xz {k:Nat} {x:Str} {ps:List Str} {sp:Sp} {e:Expr} {es:List Expr} {t:TA} {p pos:Pos} (C:Cal X.prog X.w X.K X.mg X.base k x ps sp) (hr:Room k X.A) (ha:PA X (e :: es) t) (hg:autoParam (Gl X x) L2.aRfl._auto_1)
  (hdb:autoParam ((x == ("__debug__":Str))=false) L2.aDec._auto_1) (he:autoParam (starEach (e :: es) X.env=(false,eval e X.env) :: starEach es X.env) L2.aRfl._auto_1) (hpl:autoParam ((backTo pos (starEach es X.env)).any (·.1)=false) L2.aRfl._auto_1) :
  PE X (.Call (.Name x p) (e :: es) [] pos) (Qnh sp [] E0 t):=by
 obtain ⟨f,fd,F,m,kp,b⟩:=C.ex
 exact Qhg F hr hg m kp b .nil Qkh ha hdb he hpl
theorem Qav {x:Str} {T:String} {pos:Pos} (hm:X.mg x=none) (hv:bootBuiltins x=some (.type T)) (hg:autoParam (Gl X x) L2.aRfl._auto_1) (hn:autoParam (x ≠ "__name__") L2.aDec._auto_1) (hd:autoParam ((x == ("__debug__":Str))=false) L2.aDec._auto_1):PE X (.Name x pos) (tC (.ty T)) :=
 Qnd hg hm hv (v:=.ty T) rfl hn hd
end
def gPair (K:Fg) (i j:Nat):TG:=gTup K 2 (Qnf (Js i) (Qnf (Js j) gNil))
theorem Vx {X:Cx} {K:Fg} {i j:Nat} {x y:Str} {px py pos:Pos} {k:Nat} (hK:X.K=K) (hc:X.calm=true) (hN:X.N.Nodup) (hi:X.N[i]?=some x) (hj:X.N[j]?=some y) (hx:X.env.scope.names.lookup x=some .local) (hy:X.env.scope.names.lookup y=some .local) :
  PG X (.Tuple [.Name x px,.Name y py] k pos) (gPair K i j):=by
 subst hK
 exact Qlw hc (Jv (Xb hN hi (.inl hx) (.inr hx)) (Jv (Xb hN hj (.inl hy) (.inr hy)) Qgv))
theorem Xp:bootBuiltins "len"=some (.builtin "len"):=by decide +kernel
theorem Qen:bootBuiltins "all"=some (.builtin "all"):=by decide +kernel
theorem Xe:bootBuiltins "isinstance"=some (.builtin "isinstance"):=by decide +kernel
theorem Qcj:bootBuiltins "min"=some (.builtin "min"):=by decide +kernel
theorem Qmg:bootBuiltins "int"=some (.type "int"):=by decide +kernel
theorem Qht:bootBuiltins "bool"=some (.type "bool"):=by decide +kernel
theorem Qaw:bootBuiltins "tuple"=some (.type "tuple"):=by decide +kernel
theorem Zt:bootBuiltins "list"=some (.type "list"):=by decide +kernel
theorem Qck:bootBuiltins "enumerate"=some (.type "enumerate"):=by decide +kernel
theorem Qf {H:Hp} {p:Addr} (h:H p=none) (o:HO):Same H (upd H p o):=fun b u q=>by rw [Ql (Qq q h)];exact q
theorem Same.tup {K:Fg} {H H':Hp} {a:Addr} {xs:List V} (e:Same H H') (h:SqT K H a xs):SqT K H' a xs:=by
 rcases h with (h | ⟨o,h⟩) | h
 ·exact .inl (.inl (e _ _ h))
 ·exact .inl (.inr ⟨o,e _ _ h⟩)
 ·exact .inr h
theorem Yb {K:Fg} {H:Hp} {a:Addr} {xs:List V} (h:H a=some (.tup xs)):SqT K H a xs:=.inl (.inl h)
theorem Qc {K:Fg} {H:Hp} {a:Addr} {xs:List V} (h:H a=some (.lst xs)):SqL K H a xs:=.inl (.inl h)
theorem Qnq {K:Fg} {m1 m2:Bool} {a b:Addr} {xs ys:List V} {g:TG} {tb:TS} {D:Ends} {σ:St} {H:Hp} (Pv:Nat->St->Hp->Prop) (h0:Pv 0 σ H) (hl:∀ i σ H,i<=min xs.length ys.length->Pv i σ H->Sq K m1 H a xs/\Sq K m2 H b ys)
  (hs:∀ i x y σ H T,xs[i]?=some x->ys[i]?=some y->Pv i σ H->H T=none->g (.ref T) σ (upd H T (.tup [x,y])) fun σ2 H2=>tb { D with nx:=Pv (i + 1),ct:=Pv (i + 1),bk:=D.nx } σ2 H2) (hd:∀ σ H,Pv (min xs.length ys.length) σ H->D.nx σ H) :
  ∃ W:Nat->Nat->St->Hp->Prop,(∃ m,W 0 m σ H)/\∀ i m σ H,W i m σ H ->
   ((Itz K m1 m2 a b).stop i H/\D.nx σ H)\/((Itz K m1 m2 a b).go i H/\∃ N:St->Hp->Prop,(∀ σ' H',N σ' H'->∃ m',m' < m/\W (i + 1) m' σ' H')/\∀ x H',(Itz K m1 m2 a b).yld i H x H'->g x σ H' fun σ2 H2=>tb { D with nx:=N,ct:=N,bk:=D.nx } σ2 H2):=by
 refine ⟨fun i m σ H=>m=min xs.length ys.length - i/\i<=min xs.length ys.length/\Pv i σ H,⟨_,rfl,wX _,h0⟩,?_⟩
 rintro i m σ H ⟨rfl,hi,p⟩
 obtain ⟨q1,q2⟩:=hl i σ H hi p
 by_cases hlt:i < min xs.length ys.length
 ·have i1:i < xs.length:=by lia
  have i2:i < ys.length:=by lia
  refine .inr ⟨⟨xs,ys,xs[i],ys[i],q1,q2,by simp [i1],by simp [i2]⟩,Pv (i + 1),fun σ' H' p'=>⟨min xs.length ys.length - (i + 1),by lia,rfl,hlt,p'⟩,fun x H' y=>?_⟩
  obtain ⟨T,u,v,rfl,hT,rfl,y1,y2⟩:=y
  exact hs i u v σ H T (y1 xs q1) (y2 ys q2) p hT
 ·have e:i=min xs.length ys.length:=by lia
  subst e
  exact .inl ⟨⟨xs,ys,q1,q2,by lia⟩,hd σ H p⟩
theorem Qhu {J:It} {n:Nat} {τ0:St} {g:TG} {tt:TT} {te:TE} {H:Hp} {Q:Addr->Hp->Prop} {D:Addr} (Pv:Nat->St->List V->Hp->Prop)
  (h0:Pv 0 τ0 [] (upd H D (.lst []))) (hD:∀ i τ ys H,i<=n->Pv i τ ys H->H D=some (.lst ys)/\ys.length < sizeLine) (go:∀ i τ ys H,i < n->Pv i τ ys H->J.go i H) (stop:∀ τ ys H,Pv n τ ys H->J.stop n H)
  (hs:∀ i τ ys H x H',i < n->Pv i τ ys H->J.yld i H x H'->g x τ H' fun σ2 H2=>tt σ2 H2 fun ok H3=>if ok=true then te σ2 H3 fun v H4=>H4 D=some (.lst ys)/\Pv (i + 1) σ2 (ys ++ [v]) (upd H4 D (.lst (ys ++ [v]))) else Pv (i + 1) σ2 ys H3)
  (hd:∀ τ ys H,Pv n τ ys H->Q D H) :
  LcW J D τ0 H g tt te Q:=by
 refine ⟨fun i m τ ys H=>m=n - i/\i<=n/\Pv i τ ys H,⟨n,by simp,wX _,h0⟩,?_⟩
 rintro i m τ ys H ⟨rfl,hi,p⟩
 obtain ⟨z1,z2⟩:=hD i τ ys H hi p
 refine ⟨z1,?_⟩
 by_cases hlt:i < n
 ·refine .inr ⟨go i τ ys H hlt p,z2,fun τ v H=>Pv (i + 1) τ (ys ++ [v]) (upd H D (.lst (ys ++ [v]))),fun τ H=>Pv (i + 1) τ ys H,fun τ v H q=>⟨n - (i + 1),by lia,rfl,hlt,q⟩,fun τ H q=>⟨n - (i + 1),by lia,rfl,hlt,q⟩,fun x H' y=>hs i τ ys H x H' hlt p y⟩
 ·have e:i=n:=by lia
  subst e
  exact .inl ⟨stop τ ys H p,hd τ ys H p⟩
section
variable {X:Cx}
theorem Zg {K:Fg} (hK:X.K=K):IxR X (rIxL K):=by subst hK;exact Qk
theorem Qnr {K:Fg} (hK:X.K=K):IxR X (rIxT K):=by subst hK;exact Yg
theorem Ya {K:Fg} (hK:X.K=K):Jm X (.type "list") (fun xs H Q=>∃ p ys,xs=[.ref p]/\(SqL K H p ys\/SqT K H p ys)/\∀ l,H l=none->Q (.ref l) (upd H l (.lst ys))):=by subst hK;exact Kw
theorem Wy {K:Fg} (hK:X.K=K):Jm X (.type "tuple") (fun xs H Q=>∃ p ys,xs=[.ref p]/\((SqL K H p ys/\∀ l,H l=none->Q (.ref l) (upd H l (.tup ys)))\/(SqT K H p ys/\Q (.ref p) H))):=by subst hK;exact Zr
end
end L2
namespace Nb
open PySem L2
structure Mg (mg:Str->Option Value):Prop where
 len:mg "len"=none
 min:mg "min"=none
 max:mg "max"=none
 sum:mg "sum"=none
 all:mg "all"=none
 any:mg "any"=none
 abs:mg "abs"=none
 isinstance:mg "isinstance"=none
 sorted:mg "sorted"=none
 range_:mg "range"=none
 zip_:mg "zip"=none
 tuple_:mg "tuple"=none
 list_:mg "list"=none
 int_:mg "int"=none
 bool_:mg "bool"=none
 dict_:mg "dict"=none
 enumerate_:mg "enumerate"=none
 reversed_:mg "reversed"=none
 ValueError_:mg "ValueError"=none
 set_:mg "set"=none
 str_:mg "str"=none
theorem atNs {ns:List Int} {k:Int} (h0:0<=k) (h:k < (((ns.map V.int).length:Nat):Int)):∃ v:Int,atI (ns.map V.int) k=some (.int v):=by
 have hk:k.toNat < ns.length:=by rw [jK] at h;lia
 have ek:k=((k.toNat:Nat):Int):=by lia
 have q:atI (ns.map V.int) ((k.toNat:Nat):Int)=some (.int ns[k.toNat]):=Qdk (by rw [xJ,gE hk] <;> rfl)
 rw [← ek] at q
 exact ⟨_,q⟩
theorem at0 {x y:V}:atI [x,y] 0=some x:=by rfl
theorem at1 {x y:V}:atI [x,y] 1=some y:=by rfl
theorem takeS {α:Type} {l:List α} {i:Nat} {x:α} (h:l[i]?=some x):l.take (i + 1)=l.take i ++ [x]:=by rw [List.take_succ,h];rfl
theorem Zn {α:Type} {xs:List α} {k:Nat} {x:α} (h:xs[k]?=some x):atI xs (k:Int)=some x:=Qdk h
def Qkn (K:Fg):Sp:=fun vs H Q _=>∃ (a:Addr) (ns:List Int),vs=[.ref a]/\SqL K H a (ns.map V.int)/\ns.length<=63/\∀ H',Q (.bl true) H'
end Nb
namespace L2
open PySem PySem.Spec PyProof.Rows
section
variable {κ:Type} [DecidableEq κ]
def valV (kvs:List (κ × V)) (k:κ):Option V:=(kvs.find? fun kv=>decide (kv.1=k)).map (·.2)
def putK (kvs:List (κ × V)) (k:κ) (v:V):List (κ × V) :=
 if (kvs.any fun kv=>decide (kv.1=k))=true then kvs.map (fun kv=>if kv.1=k then (kv.1,v) else kv) else kvs ++ [(k,v)]
theorem Yh {p:κ × V} {r:List (κ × V)} {k:κ} (e:p.1=k):valV (p :: r) k=some p.2:=by simp [valV,jYe,e]
theorem Yi {p:κ × V} {r:List (κ × V)} {k:κ} (e:¬ p.1=k):valV (p :: r) k=valV r k:=by simp [valV,jYe,e]
theorem Ve (k:κ):∀ kvs:List (κ × V),(kvs.any fun kv=>decide (kv.1=k))=(valV kvs k).isSome
 | []=>rfl
 | p :: r=>by
  rw [List.any_cons]
  by_cases e:p.1=k
  ·simp only [Yh e,yV e,Bool.true_or,Option.isSome_some]
  ·rw [Yi e,zY e,Bool.false_or];exact Ve k r
theorem Qeo (k j:κ) (y:V):∀ kvs:List (κ × V),valV (kvs.map fun kv=>if kv.1=k then (kv.1,y) else kv) j=(valV kvs j).map fun x=>if j=k then y else x
 | []=>rfl
 | p :: r=>by
  have ih:=Qeo k j y r
  rw [xZ]
  by_cases h:p.1=k
  ·rw [if_pos h]
   by_cases e:p.1=j
   ·rw [Yh (p:=(p.1,y)) e,Yh e,kXa,if_pos (e.symm.trans h)]
   ·rw [Yi (p:=(p.1,y)) e,Yi e,ih]
  ·rw [if_neg h]
   by_cases e:p.1=j
   ·rw [Yh (p:=p) e,Yh e,kXa,if_neg (fun z=>h (e.trans z))]
   ·rw [Yi (p:=p) e,Yi e,ih]
theorem Qcl (k j:κ) (y:V):∀ kvs:List (κ × V),valV kvs k=none->valV (kvs ++ [(k,y)]) j=if j=k then some y else valV kvs j
 | [],_=>by
  by_cases e:k=j
  ·rw [if_pos e.symm];exact Yh (p:=(k,y)) e
  ·rw [if_neg (fun z=>e z.symm)];exact Yi (p:=(k,y)) e
 | p :: r,hn=>by
  rw [List.cons_append]
  have hk:¬ p.1=k:=fun z=>by rw [Yh z] at hn;cases hn
  rw [Yi hk] at hn
  have ih:=Qcl k j y r hn
  by_cases e:p.1=j
  ·rw [Yh e,Yh e,if_neg (fun z=>hk (e.trans z))]
  ·rw [Yi e,Yi e,ih]
theorem Qko (kvs:List (κ × V)) (k j:κ) (y:V):valV (putK kvs k y) j=if j=k then some y else valV kvs j:=by
 unfold putK
 by_cases a:(kvs.any fun kv=>decide (kv.1=k))=true
 ·rw [if_pos a,Qeo]
  rw [Ve] at a
  by_cases e:j=k
  ·obtain ⟨x,hx⟩:=jXc.mp a
   rw [if_pos e,e,hx,kXa,if_pos rfl]
  ·rw [if_neg e]
   cases valV kvs j with
   | none=>rfl
   | some x=>rw [kXa,if_neg e]
 ·rw [if_neg a]
  refine Qcl k j y kvs ?_
  rw [Ve] at a
  cases q:valV kvs k with
  | none=>rfl
  | some x=>rw [q] at a;exact (a rfl).elim
theorem Jt (kvs:List (κ × V)) (k:κ) (v:V):(putK kvs k v).length<=kvs.length + 1:=by
 unfold putK
 split
 ·rw [jK];lia
 ·rw [jW,zJ,jZd];lia
theorem RelO.isSome_eq {o:Option V} {u:Option Value} (r:RelO o u):o.isSome=u.isSome:=by
 cases o with
 | none=>cases u with
  | none=>rfl
  | some _=>exact (show False from r).elim
 | some _=>cases u with
  | none=>exact (show False from r).elim
  | some _=>rfl
theorem KV.val {kvs:List (κ × V)} {vs:List (κ × Value)} (r:KV kvs vs) (k:κ):RelO (valV kvs k) (valueAt vs k):=by
 unfold KV at r
 induction r with
 | nil=>exact True.intro
 | @cons p q ps qs h t ih =>
  obtain ⟨h1,h2⟩:=h
  by_cases e:p.1=k
  ·have e':q.1=k:=h1.symm.trans e
   have b:valueAt (q :: qs) k=some q.2:=by simp [valueAt,jYe,e']
   rw [Yh e,b];exact h2
  ·have e':¬ q.1=k:=fun z=>e (h1.trans z)
   have b:valueAt (q :: qs) k=valueAt qs k:=by simp [valueAt,jYe,e']
   rw [Yi e,b];exact ih
theorem KV.any {kvs:List (κ × V)} {vs:List (κ × Value)} (r:KV kvs vs) (k:κ):(kvs.any fun kv=>decide (kv.1=k))=vs.any fun kv=>decide (kv.1=k):=by
 unfold KV at r
 induction r with
 | nil=>rfl
 | cons h t ih=>rw [List.any_cons,List.any_cons,ih,h.1]
theorem KV.repl {kvs:List (κ × V)} {vs:List (κ × Value)} (r:KV kvs vs) (k:κ) {y:V} {u:Value} (ry:RelV y u) :
  KV (kvs.map fun kv=>if kv.1=k then (kv.1,y) else kv) (vs.map fun kv=>if kv.1=k then (kv.1,u) else kv):=by
 unfold KV at r ⊢
 induction r with
 | nil=>exact .nil
 | @cons p q ps qs h t ih =>
  rw [xZ,xZ]
  refine .cons ?_ ih
  obtain ⟨h1,h2⟩:=h
  by_cases e:p.1=k
  ·rw [if_pos e,if_pos (h1.symm.trans e)];exact ⟨h1,ry⟩
  ·rw [if_neg e,if_neg (fun z=>e (h1.trans z))];exact ⟨h1,h2⟩
theorem KV.put {kvs:List (κ × V)} {vs:List (κ × Value)} (r:KV kvs vs) (k:κ) {y:V} {u:Value} (ry:RelV y u):KV (putK kvs k y) (stored vs k u):=by
 unfold putK stored
 rw [r.any k]
 by_cases e:(vs.any fun kv=>decide (kv.1=k))=true
 ·rw [if_pos e,if_pos e];exact r.repl k ry
 ·rw [if_neg e,if_neg e];exact Paired.snoc r ⟨rfl,ry⟩
theorem KV.length {kvs:List (κ × V)} {vs:List (κ × Value)} (r:KV kvs vs):kvs.length=vs.length:=Paired.length r
end
theorem Qns {P:Program} {w:World} {k:Key} {u:Value} (r:RelV (kV k) u):(Yl P w).is k u=true:=by
 cases k with
 | inl i=>obtain ⟨t,e⟩:=(show ∃ t,u=Value.int i t from r);subst e;exact Qdf P w i t
 | inr x=>obtain ⟨t,e⟩:=(show ∃ t,u=Value.str x t from r);subst e;exact Qdg P w x t
theorem Qcm {P:Program} {w:World}:∀ {ks:List Key} {us:List Value},Vals (ks.map kV) us->ItemsAre (Yl P w) ks us
 | [],_,r=>by rw [List.map_nil] at r;cases r;exact .nil
 | k :: ks,_,r=>by
  rw [xZ] at r
  cases r with
  | cons h t=>exact .cons (Qns h) (Qcm t)
abbrev KT (H:Hp):List (List Key × V)->List (List Key × Addr × Value)->Prop:=Paired fun p q=>p.1=q.1/\H q.2.1=some (.tup (p.1.map kV))/\RelV p.2 q.2.2
theorem KT.val {H:Hp} {kvs:List (List Key × V)} {xs:List (List Key × Addr × Value)} (r:KT H kvs xs) (k:List Key):RelO (valV kvs k) ((atKey xs k).map (·.2)):=by
 induction r with
 | nil=>exact True.intro
 | @cons p q ps qs h t ih =>
  obtain ⟨h1,_,h2⟩:=h
  by_cases e:p.1=k
  ·have e':q.1=k:=h1.symm.trans e
   have b:atKey (q :: qs) k=some q.2:=by simp [atKey,jYe,e']
   rw [Yh e,b];exact h2
  ·have e':¬ q.1=k:=fun z=>e (h1.trans z)
   have b:atKey (q :: qs) k=atKey qs k:=by simp [atKey,jYe,e']
   rw [Yi e,b];exact ih
theorem KT.repl {H:Hp} {kvs:List (List Key × V)} {xs:List (List Key × Addr × Value)} (r:KT H kvs xs) (k:List Key) {y:V} {u:Value} (ry:RelV y u) :
  KT H (kvs.map fun kv=>if kv.1=k then (kv.1,y) else kv) (xs.map (putAt k u)):=by
 induction r with
 | nil=>exact .nil
 | @cons p q ps qs h t ih =>
  rw [xZ,xZ]
  refine .cons ?_ ih
  obtain ⟨h1,h2,h3⟩:=h
  unfold putAt
  by_cases e:p.1=k
  ·rw [if_pos e,if_pos (h1.symm.trans e)];exact ⟨h1,h2,ry⟩
  ·rw [if_neg e,if_neg (fun z=>e (h1.trans z))];exact ⟨h1,h2,h3⟩
theorem KT.put {H:Hp} {kvs:List (List Key × V)} {xs:List (List Key × Addr × Value)} (r:KT H kvs xs) (k:List Key) {b:Addr} {y:V} {u:Value} (hb:H b=some (.tup (k.map kV))) (ry:RelV y u) :
  KT H (putK kvs k y) (storedH xs k b u):=by
 have e:(kvs.any fun kv=>decide (kv.1=k))=(atKey xs k).isSome:=by
  rw [Ve,(r.val k).isSome_eq,Option.isSome_map]
 unfold putK storedH
 rw [e]
 by_cases q:(atKey xs k).isSome=true
 ·rw [if_pos q,if_pos q];exact r.repl k ry
 ·rw [if_neg q,if_neg q];exact Paired.snoc r ⟨rfl,hb,ry⟩
theorem KT.keeps {H H':Hp} {kvs:List (List Key × V)} {xs:List (List Key × Addr × Value)} (r:KT H kvs xs) (ht:∀ b ys,H b=some (.tup ys)->H' b=some (.tup ys)):KT H' kvs xs :=
 Paired.mapP r fun _ _ z=>⟨z.1,ht _ _ z.2.1,z.2.2⟩
section
variable {P:Program} {w:World} {H:Hp} {h:Heap} {a:Addr}
theorem rd_of {u:HO} (ok:HOk P w H h) (e:Rd H a u):ObjOk P w H h a u:=e.ok ok
theorem dk_rd {kvs:List (Key × V)} (ok:HOk P w H h) (e:Rd H a (.dK kvs)):kvs.length<=sizeLine/\(a == sysModules)=false/\∃ vs,KV kvs vs/\h.DictOf (Yl P w) a vs :=
 show ObjOk P w H h a (.dK kvs) from rd_of ok e
theorem dk_of {kvs:List (Key × V)} (ok:HOk P w H h) (e:H a=some (.dK kvs)):kvs.length<=sizeLine/\(a == sysModules)=false/\∃ vs,KV kvs vs/\h.DictOf (Yl P w) a vs:=dk_rd ok (.inl e)
theorem Qhv {ks:List Key} (ok:HOk P w H h) (e:H a=some (.tup (ks.map kV))):(tupleKind (Yl P w)).is h ks a:=by
 obtain ⟨_,its,r,o,h1,h2,n,h3⟩:=(show ObjOk P w H h a (.tup (ks.map kV)) from ok a _ e)
 exact ⟨o,its.toArray,n,h1,h2,h3,by simpa using Qcm r⟩
theorem dt_rd {kvs:List (List Key × V)} (ok:HOk P w H h) (e:Rd H a (.dT kvs)):kvs.length<=sizeLine/\(a == sysModules)=false /\
  ∃ xs,KT H kvs xs/\h.DictOfH (tupleKind (Yl P w)) a xs:=by
 obtain ⟨z,y,xs,r,o,es,ep,h1,h2,h3,h4,h5⟩:=(show ObjOk P w H h a (.dT kvs) from rd_of ok e)
 refine ⟨z,y,xs,r,o,es,ep,h1,h2,h3,h4,fun x hx=>?_,h5⟩
 have all:∀ {l:List (List Key × V)} {m:List (List Key × Addr × Value)},KT H l m->∀ x ∈ m,(tupleKind (Yl P w)).is h x.1 x.2.1:=by
  intro l m q
  induction q with
  | nil=>intro x hx;exact nomatch hx
  | @cons p q ps qs hq t ih =>
   intro x hx
   rcases jJ.mp hx with e | hx
   ·subst e
    exact Qhv ok (by rw [← hq.1];exact hq.2.1)
   ·exact ih x hx
 exact all r x hx
theorem dt_of {kvs:List (List Key × V)} (ok:HOk P w H h) (e:H a=some (.dT kvs)):kvs.length<=sizeLine/\(a == sysModules)=false /\
  ∃ xs,KT H kvs xs/\h.DictOfH (tupleKind (Yl P w)) a xs:=dt_rd ok (.inl e)
end
def DGet (H:Hp) (a:Addr) (y:V) (r:Option V):Prop :=
 (∃ kvs k,Rd H a (.dK kvs)/\y=kV k/\r=valV kvs k)\/∃ kvs k b,Rd H a (.dT kvs)/\y=.ref b/\H b=some (.tup (k.map kV))/\r=valV kvs k
def DPut (H:Hp) (a:Addr) (y v:V) (H':Hp):Prop :=
 (∃ kvs k,H a=some (.dK kvs)/\y=kV k/\kvs.length < sizeLine/\H'=upd H a (.dK (putK kvs k v))) \/
 ∃ kvs k b,H a=some (.dT kvs)/\y=.ref b/\H b=some (.tup (k.map kV))/\kvs.length < sizeLine/\H'=upd H a (.dT (putK kvs k v))
theorem DGet.t {H:Hp} {a b:Addr} {kvs:List (List Key × V)} {k:List Key} (e:H a=some (.dT kvs)) (eb:H b=some (.tup (k.map kV))):DGet H a (.ref b) (valV kvs k):=.inr ⟨kvs,k,b,.inl e,rfl,eb,rfl⟩
theorem DPut.t {H:Hp} {a b:Addr} {kvs:List (List Key × V)} {k:List Key} {v:V} (e:H a=some (.dT kvs)) (eb:H b=some (.tup (k.map kV))) (hl:kvs.length < sizeLine) :
  DPut H a (.ref b) v (upd H a (.dT (putK kvs k v))):=.inr ⟨kvs,k,b,e,rfl,eb,hl,rfl⟩
section
variable {X:Cx} {pins:List (Addr × Obj)} {σ:St} {H:Hp} {s:Shared} {a:Addr} {y v:V} {u r:Value} {o:Option V} {A:Around} {E:Value->Shared->Prop}
theorem Inv.big (I:Inv X pins σ H s):sysModules < s.heap.objs.size:=by
 have h:mainGlobals < s.heap.objs.size:=(I.mod.glob.keeps I.bk).lt
 exact Nat.lt_trans (by decide) h
theorem d_in {Q:Value->Shared->Prop} (hu:A.units + 1 < cLine) (I:Inv X pins σ H s) (g:DGet H a y o) (ry:RelV y u) (h:∀ s',Inv X pins σ H s'->Q (.bool o.isSome) s') :
  wpAny (model X.prog X.w) A (compareOp .In u (.ref a)) Q E s:=by
 rcases g with ⟨kvs,k,e,ey,l⟩ | ⟨kvs,k,b,e,ey,eb,l⟩
 ·subst ey
  obtain ⟨z,hd,vs,rel,dd⟩:=dk_rd I.hok e
  refine wpAny_in_of (Qns ry) hd dd.mapOf ?_
  rw [← (rel.val k).isSome_eq,← l]
  exact h _ (I.tok _)
 ·subst ey
  cases (show u=Value.ref b from ry)
  obtain ⟨z,hd,xs,rel,dd⟩:=dt_rd I.hok e
  refine wpAny_in_heap (tupleKind_room_in1 hu) (Qhv I.hok eb) hd dd ?_
  have q:=(rel.val k).isSome_eq
  rw [Option.isSome_map] at q
  rw [← q,← l]
  exact h _ (I.tok _)
theorem Qhw {h':Heap} {t':Nat} {ob:HO} (I:Inv X pins σ H s) (mu:Mut (H a)) (hs:Heap.SameBut a s.heap h') (he:∃ q,h'.get? a=some q) (new:ObjOk X.prog X.w (upd H a ob) h' a ob) :
  Inv X pins σ (upd H a ob) { s with heap:=h',toks:=t' } :=
 I.write (x:=a) (e:=a) mu (.inl rfl) (fun b q hb z=>(hs.2 b hb).trans z) he new
theorem dk_new {P:Program} {w:World} {H':Hp} {h':Heap} {kvs:List (Key × V)} {vs:List (Key × Value)} (z:kvs.length<=sizeLine) (hd:(a == sysModules)=false) (rel:KV kvs vs) (dd:h'.DictOf (Yl P w) a vs) :
  ObjOk P w H' h' a (.dK kvs):=⟨z,hd,vs,rel,dd⟩
theorem Qhx {H':Hp} {Q:Unit->Shared->Prop} (hu:A.units + 1 < cLine) (I:Inv X pins σ H s) (g:DPut H a y v H') (ry:RelV y u) (rv:RelV v r) (h:∀ s',Inv X pins σ H' s'->Q () s') :
  wpAny (model X.prog X.w) A (setItem (.ref a) u r) Q E s:=by
 rcases g with ⟨kvs,k,e,ey,l,eH⟩ | ⟨kvs,k,b,e,ey,eb,l,eH⟩
 ·subst ey eH
  obtain ⟨z,hd,vs,rel,dd⟩:=dk_of I.hok e
  have hz:vs.length<=sizeLine:=by rw [← rel.length];exact z
  have hl:(putK kvs k v).length<=sizeLine:=by have:=Jt kvs k v;lia
  refine wpAny_setItem_pairs (hsz:=hz) (Qns ry) dd fun h' dd' hs=>h _ ?_
  have he:∃ q,h'.get? a=some q:=let ⟨q,_,_,hq,_⟩:=dd';⟨q,hq⟩
  exact Qhw I (by rw [e];exact True.intro) hs he (dk_new hl hd (rel.put k rv) dd')
 ·subst ey eH
  cases (show u=Value.ref b from ry)
  obtain ⟨z,hd,xs,rel,dd⟩:=dt_of I.hok e
  have hz:xs.length<=sizeLine:=by rw [← Paired.length rel];exact z
  have hl:(putK kvs k v).length<=sizeLine:=by have:=Jt kvs k v;lia
  refine wpAny_setItem_heap (hsz:=hz) (tupleKind_room_in1 hu) (Qhv I.hok eb) dd fun h' dd' hs=>h _ ?_
  obtain ⟨q,es,ep,hq,h2,h3,h4,_,h5⟩:=dd'
  refine Qhw I (by rw [e];exact True.intro) hs ⟨q,hq⟩ ⟨hl,hd,_,(rel.put k eb rv).keeps fun c ys ec=>?_,q,es,ep,hq,h2,h3,h4,h5⟩
  rw [Ql (Qam ec e (fun z=>nomatch z))]
  exact ec
end
def tDIn (ty td:TE):TE:=fun σ H Q=>ty σ H fun y H1=>td σ H1 fun x H2=>∃ a o,x=.ref a/\DGet H2 a y o/\Q (.bl o.isSome) H2
def sDPut (td ty tv:TE):TS:=fun D σ H=>tv σ H fun v H1=>td σ H1 fun x H2=>ty σ H2 fun y H3=>∃ a H4,x=.ref a/\DPut H3 a y v H4/\D.nx σ H4
section
variable {X:Cx} {o i value:Expr} {pos pos':Pos} {td ty tv:TE}
theorem Qmh (hu:X.A.units + 1 < cLine) (hi:PE X i ty) (ho:PE X o td):PC X .In i o (tDIn ty td):=by
 intro pins s σ H Q I h
 refine thn (hi pins s σ H _ I h) fun iv s1 ⟨y,H1,I1,ry,q1⟩=>thn (ho pins s1 σ H1 _ I1 q1) fun u s2 hqP=>?_
 obtain ⟨x,H2,I2,rx,a,ov,ex,g,q2⟩:=hqP
 subst ex
 obtain rfl:u=Value.ref a:=rx
 exact d_in hu I2 g ry fun s3 I3=>⟨.bl ov.isSome,H2,I3,rfl,q2⟩
theorem Qnt (hu:X.A.units + 1 < cLine) (ho:PE X o td) (hi:PE X i ty) (hv:PE X value tv) (hs:swapsWith value (some (.Subscript o i pos')) pos.line X.env=pure false) :
  PS X (.Assign [.Subscript o i pos'] value pos) (sDPut td ty tv):=by
 intro pins s σ H D I h
 refine wpAny_Assign_Subscript (thn (hv pins s σ H _ I h) fun r s1 ⟨v,H1,I1,rv,q1⟩=>thn (ho pins s1 σ H1 _ I1 q1) fun u s2 ⟨x,H2,I2,rx,q2⟩=>thn (hi pins s2 σ H2 _ I2 q2) fun iv s3 hqP=>?_) hs
 obtain ⟨y,H3,I3,ry,a,H4,ex,g,q3⟩:=hqP
 subst ex
 obtain rfl:u=Value.ref a:=rx
 exact Qhx hu I3 g ry rv fun s4 I4=>⟨σ,H4,I4,q3⟩
end
theorem Qkp {P:Program} {w:World} {H:Hp} (h:Heap) (hb:sysModules < h.objs.size):ObjOk P w H (h.push { cls:=.type "dict",data:=.dict #[] }) h.objs.size (.dT []) :=
 ⟨wX _,beq_eq_false_iff_ne.mpr (Ne.symm (yJ hb)),[],.nil,_,#[],0,kW _ rfl,⟨rfl,rfl,rfl⟩,rfl,rfl,List.nodup_nil⟩
def tDNewT:TE:=fun _ H Q=>∀ p,H p=none->Q (.ref p) (upd H p (.dT []))
section
variable {X:Cx} {pos:Pos}
theorem Qkq:PE X (.Dict [] [] pos) tDNewT:=fun pins s σ H Q I h =>
 wpAny_Dict_empty ⟨.ref s.heap.objs.size,_,I.laid (a:=s.heap.objs.size) (o:=.dT []) (t':=s.toks) (fun _ _ q=>jV _ q) (kQ _) (Qkp s.heap I.big),rfl,h _ (I.hok.fresh (kQ _))⟩
end
end L2
namespace Att
open PySem PySem.W PySem.Calls PyProof.Rows
end Att
namespace L2
open PySem PySem.Spec PyProof.Rows
section
variable {P:Program} {w:World} {A:Around} {E:Value->Shared->Prop} {s:Shared} {e it l:Addr} {st:Nat->Heap->Prop} {src:List Value->Heap->Prop} {i:Nat} {xs:List Value} {old:Value}
theorem Qax {x:Value} {Q:Option Value->Shared->Prop} (dr:Drw P w it l st src) (hE:IsEnum s.heap e it i old) (hI:st i s.heap) (hl:src xs s.heap) (hx:xs[i]?=some x) (hne:e ≠ it)
  (hQ:∀ h',IsEnumOut h' e it ((i:Int) + 1) x s.heap.objs.size->st (i + 1) h'->h'.get? s.heap.objs.size=some { cls:=.type "tuple",data:=.seq #[.int i s.toks,x] } ->
   (∀ b o,b ≠ e->b ≠ it->s.heap.get? b=some o->h'.get? b=some o)->Q (some (.ref s.heap.objs.size)) { s with heap:=h',toks:=s.toks + 1 }):wpAny (model P w) A (pyNext (.ref e)) Q E s:=by
 have hTy:s.TypeIs (.ref e) "enumerate":=⟨_,hE,rfl⟩
 unfold pyNext
 refine jZ (wpAny_attempt (wpAny_callSpecial?_slot (name:=Str.ofString "__next__") hTy F.slot_enumerate_next (wpAny_call_entry F.slot_enumerate_next hTy F.entry_enumerate_next ?_ (F.args_enumerate_next_1 _))))
 obtain ⟨hp,g,d,tk,os⟩:=s
 show wpAny _ _ (field (.ref e) 2 >>= _) _ _ _
 refine jZ (wpAny_field hE rfl (x:=.ref it) rfl ?_)
 refine jZ (dr.item _ _ ⟨hp,g,d,tk,os⟩ i xs x _ hI hl hx fun g1 hI1 e1=>?_)
 replace e1:Heap.SameBut it hp g1:=e1
 have hE1:IsEnum g1 e it i old:=(e1.2 e hne).trans hE
 show wpAny _ _ (field (.ref e) 3 >>= _) _ _ ⟨g1,g,d,tk,os⟩
 refine jZ (wpAny_field hE1 rfl (x:=rawInt i) rfl ?_)
 show wpAny _ _ (field (.ref e) 4 >>= _) _ _ ⟨g1,g,d,tk,os⟩
 refine jZ (wpAny_field hE1 rfl (x:=.none) rfl ?_)
 show wpAny _ _ (mkInt i >>= _) _ _ ⟨g1,g,d,tk,os⟩
 refine jZ (wpAny_mkInt ?_)
 show wpAny _ _ (setField (.ref e) 3 (rawInt ((i:Int) + 1)) >>= _) _ _ ⟨g1,g,d,tk + 1,os⟩
 refine jZ (wpAny_setField_rec hE1 (by simp) fun g2 hE2 e2=>?_)
 replace e2:Heap.SameBut e g1 g2:=e2
 replace hE2:IsEnum g2 e it ((i:Int) + 1) old:=hE2
 show wpAny _ _ (setField (.ref e) 4 .none >>= _) _ _ ⟨g2,g,d,tk + 1,os⟩
 refine jZ (wpAny_setField_rec hE2 (by simp) fun g3 hE3 e3=>?_)
 replace e3:Heap.SameBut e g2 g3:=e3
 replace hE3:IsEnum g3 e it ((i:Int) + 1) old:=hE3
 show wpAny _ _ (newTuple [.int i tk,x] >>= _) _ _ ⟨g3,g,d,tk + 1,os⟩
 refine jZ (wpAny_newTuple ?_)
 have hE4:IsEnum (g3.push { cls:=.type "tuple",data:=.seq #[.int i tk,x] }) e it ((i:Int) + 1) old:=jV _ hE3
 generalize hg4:g3.push { cls:=.type "tuple",data:=.seq #[.int i tk,x] }=g4 at hE4
 have hsz:g3.objs.size=hp.objs.size:=by rw [e3.1,e2.1,e1.1]
 have hel:e < hp.objs.size:=kX hE
 have hT4:g4.get? hp.objs.size=some { cls:=.type "tuple",data:=.seq #[.int i tk,x] }:=by rw [← hg4,← hsz];exact kW _ rfl
 have hk4:∀ b o,b ≠ e->b ≠ it->hp.get? b=some o->g4.get? b=some o:=fun b o hbe hbi hb=>by
  rw [← hg4];exact jV _ (e3.extBut b o hbe (e2.extBut b o hbe (e1.extBut b o hbi hb)))
 have hI4:st (i + 1) g4:=dr.keep _ _ _ hI1 fun q z=>by rw [← hg4];exact jV _ (e3.extBut _ _ hne.symm (e2.extBut _ _ hne.symm z))
 show wpAny _ _ (Builtin.SmallTypes.ownedTupleIsFree (.ref e) >>= _) _ _ ⟨g4,g,d,tk + 1,os⟩
 rw [hsz]
 clear hg4 hE3 e3 hE2 e2 hE1 e1 hI1 hsz
 refine jZ ?_
 unfold Builtin.SmallTypes.ownedTupleIsFree
 refine jZ (wpAny_field hE4 rfl (x:=.none) rfl (kJ ?_))
 simp only [if_true]
 refine jZ (wpAny_rule (jZ (wpAny_field hE4 rfl (x:=old) rfl (jZ (wpAny_setField_rec hE4 (by simp) fun g5 hE5 e5=>?_)))))
 replace e5:Heap.SameBut e g4 g5:=e5
 replace hE5:IsEnum g5 e it ((i:Int) + 1) x:=hE5
 show wpAny _ _ (Builtin.SmallTypes.ownedTupleHandOut (.ref e) (.ref hp.objs.size) >>= _) _ _ ⟨g5,g,d,tk + 1,os⟩
 refine jZ ?_
 unfold Builtin.SmallTypes.ownedTupleHandOut
 refine jZ (wpAny_setField_rec hE5 (by simp) fun g6 hE6 e6=>?_)
 replace e6:Heap.SameBut e g5 g6:=e6
 replace hE6:IsEnumOut g6 e it ((i:Int) + 1) x hp.objs.size:=hE6
 refine wpAny_setField_rec hE6 (by simp) fun g7 hE7 e7=>?_
 replace e7:Heap.SameBut e g6 g7:=e7
 replace hE7:IsEnumOut g7 e it ((i:Int) + 1) x hp.objs.size:=hE7
 have up:∀ b o,b ≠ e->g4.get? b=some o->g7.get? b=some o:=fun b o hb z=>e7.extBut b o hb (e6.extBut b o hb (e5.extBut b o hb z))
 refine jZ (wpAny_letGo (kJ ⟨_,rfl,kJ (hQ g7 hE7 ?_ ?_ ?_)⟩))
 ·exact dr.keep _ _ _ hI4 fun q z=>up _ _ hne.symm z
 ·exact up _ _ (jJa hel) hT4
 ·exact fun b o hbe hbi hb=>up b o hbe (hk4 b o hbe hbi hb)
theorem Qcn {Q:Option Value->Shared->Prop} (hh:A.handled=none) (dr:Drw P w it l st src) (hE:IsEnum s.heap e it i old) (hI:st i s.heap) (hl:src xs s.heap) (hx:xs[i]?=none)
  (hQ:∀ h',Heap.ExtBut it s.heap h'->Q none { s with heap:=h' }):wpAny (model P w) A (pyNext (.ref e)) Q E s:=by
 have hTy:s.TypeIs (.ref e) "enumerate":=⟨_,hE,rfl⟩
 unfold pyNext
 refine jZ (wpAny_attempt (wpAny_callSpecial?_slot (name:=Str.ofString "__next__") hTy F.slot_enumerate_next (wpAny_call_entry F.slot_enumerate_next hTy F.entry_enumerate_next ?_ (F.args_enumerate_next_1 _))))
 show wpAny _ _ (field (.ref e) 2 >>= _) _ _ _
 refine jZ (wpAny_field hE rfl (x:=.ref it) rfl ?_)
 refine jZ (dr.done _ _ s i xs _ hh hI hl hx fun h' x eb hx'=>?_)
 obtain ⟨o,ho,hc⟩:=hx'
 refine jZ (wpAny_isInstance (T:="StopIteration") (b:=true) ⟨o,ho,hc⟩ isSubtype_stop (kJ (hQ _ eb)))
end
theorem Qfz {n:String} {l:Addr} {p:Heap->Prop} (I:Itr0 n l p) :
  Meets (Builtin.«enumerate.__new__» ⟨[.type "enumerate",.ref l],[]⟩) (fun _ R s=>p s.heap/\R (.ok (.ret (.ref (s.heap.push (Jn n l)).objs.size))) { s with heap:=(s.heap.push (Jn n l)).push { cls:=.type "enumerate",data:=.fields #[.none,.bool false,.ref s.heap.objs.size,rawInt 0,.none,.none] } }) :=
 .of_wp fun prog w A R s h=>by
  obtain ⟨hp,g,d,tk,os⟩:=s
  obtain ⟨q,h⟩:=h
  have hsub:=sub_enumerate
  have f1:=fun (A:Around) (E:Value->Shared->Prop) (Q:Value->Shared->Prop)=>I.go prog w A E ⟨hp,g,d,tk,os⟩ Q q
  wp_walk
  refine wpAny_stack_any fun stk=>kJ ?_
  split
  ·rename_i c _ _ _ _ _
   cases (c == Value.type "enumerate")
   ·wp_walk using f1 _ _ _
    exact ⟨_,rfl,h⟩
   ·wp_walk using f1 _ _ _
    exact ⟨_,rfl,h⟩
  ·wp_walk using f1 _ _ _
   exact ⟨_,rfl,h⟩
def Ite (K:Fg) (m:Bool) (a:Addr):It :=
  ⟨fun i H=>∃ xs x,Sq K m H a xs/\xs[i]?=some x,
   fun i H v H'=>∃ T x,v=.ref T/\H T=none/\H'=upd H T (.tup [.int (i:Nat),x])/\(∀ xs,Sq K m H a xs->xs[i]?=some x),
   fun i H=>∃ xs,Sq K m H a xs/\xs.length<=i⟩
def eTn (m:Bool) (e it a:Addr) (i:Nat) (h:Heap):Prop:=(∃ old,IsEnum h e it i old)/\itSt m it a i h
theorem Qhy {P:Program} {w:World} {K:Fg} {es:List Expr} {kk:Nat} {tp:Pos} {m:Bool} {e it a:Addr} (hne:e ≠ it) (hea:a ≠ e) (hia:a ≠ it) :
  Turn P w K (.Tuple es kk tp) (Ite K m a) [e,it] e (eTn m e it a) where
 mem:=by simp
 obj:=fun i h st c hc=>by
  obtain ⟨⟨old,h1⟩,h2⟩:=st
  simp only [jJ,xV,or_false] at hc
  rcases hc with rfl | rfl
  ·exact ⟨_,h1,fun v z=>by cases z⟩
  ·exact (Yd (P:=P) (w:=w) m c a).obj i h h2
 keep:=fun i h h' st k=>by
  obtain ⟨⟨old,h1⟩,h2⟩:=st
  exact ⟨⟨old,k e (by simp) _ h1⟩,(Yd (P:=P) (w:=w) m it a).keep i h h' h2 (k it (by simp))⟩
 item:=by
  intro X hP hw hK hc i pins s σ H E I hf st hg
  subst hP hw hK
  obtain ⟨xs,x,q1,hx⟩:=hg
  obtain ⟨is1,r1,p1,z1⟩:=I.sq q1
  obtain ⟨v1,e1,rv1⟩:=r1.get hx
  obtain ⟨⟨old,hE⟩,s1⟩:=st
  refine Qax (Yd m it a) hE s1 p1 e1 hne fun h' a1 a2 a3 a4=>⟨_,rfl,?_⟩
  have kk:∀ c q,c ∉ [e,it]->s.heap.get? c=some q->h'.get? c=some q:=fun c q hc e=>by
   simp only [jJ,xV,or_false,not_or] at hc
   exact a4 c q hc.1 hc.2 e
  have I1:Inv X pins σ (upd H s.heap.objs.size (.tup [.int (i:Nat),x])) { s with heap:=h' }:=I.tupNew (ch:=[e,it]) (its:=[.int i s.toks,v1]) (kQ _) (.cons ⟨_,rfl⟩ (.cons rv1 .nil)) (by show 2<=sizeLine;decide) a3 hf kk (fun c hc=>by
   simp only [jJ,xV,or_false] at hc
   rcases hc with rfl | rfl
   ·exact ⟨_,a1⟩
   ·obtain ⟨q,z,_⟩:=(Yd (P:=X.prog) (w:=X.w) m c a).obj _ _ a2;exact ⟨q,z⟩)
  refine wpAny_letOwnedTupleGo_enum (s:={ s with heap:=h',toks:=s.toks + 1 }) a1 fun h2 g1 g2=>?_
  obtain ⟨f0,f1,f2,f3,f4,f5⟩:=hf e (by simp)
  have lte:e < s.heap.objs.size:=kX hE
  have I2:Inv X pins σ (upd H s.heap.objs.size (.tup [.int (i:Nat),x])) { s with heap:=h2,toks:=s.toks + 1 }:=I1.turned (h':=h2) (t':=s.toks + 1) (fun c q hc z=>g2.extBut c q hc z) (by rw [Ql (yJ lte)];exact f0) f1 f3 f4 f5
  refine ⟨.ref s.heap.objs.size,_,I2,rfl,⟨_,x,rfl,I.hok.fresh (kQ _),rfl,fun xs' hq=>by rw [I.sq_inj hq q1];exact hx⟩,⟨⟨_,by exact_mod_cast g1⟩,(Yd (P:=X.prog) (w:=X.w) m it a).keep _ _ _ a2 fun q z=>g2.extBut _ _ hne.symm z⟩,fun c hc=>?_⟩
  have hlt:c ≠ s.heap.objs.size:=by
   simp only [jJ,xV,or_false] at hc
   rcases hc with rfl | rfl
   ·exact yJ lte
   ·obtain ⟨q,z,_⟩:=(Yd (P:=X.prog) (w:=X.w) m c a).obj _ _ s1;exact yJ (kX z)
  rw [Ql hlt]
  exact (hf c hc).1
 done:=by
  intro X hP hw hK hc i pins s σ H E I hf st hg
  subst hP hw hK
  obtain ⟨xs,q1,hx⟩:=hg
  obtain ⟨is1,r1,p1,z1⟩:=I.sq q1
  obtain ⟨⟨old,hE⟩,s1⟩:=st
  have l1:=r1.length
  obtain ⟨f0,f1,f2,f3,f4,f5⟩:=hf it (by simp)
  exact Qcn (I.ok.hd hc) (Yd m it a) hE s1 p1 (jKf.mpr (by lia)) fun h' eb=>⟨rfl,I.turned (t':=s.toks) (fun b o hb z=>eb b o hb z) f0 f1 f3 f4 f5⟩
 self:=fun _ _ _ _ _ st h=>by
  obtain ⟨⟨old,h1⟩,_⟩:=st
  exact wpAny_pyIter_enum h1 h
section
variable {X:Cx}
def iEnum (K:Fg) (m:Bool) (ta:TA):TI:=fun σ H R=>ta σ H fun vs H1=>∃ a,vs=[.ref a]/\(∃ xs,Sq K m H1 a xs)/\R (Ite K m a) H1
theorem Qay {a:Expr} {ta:TA} {p pos tp:Pos} {es:List Expr} {kk:Nat} (m:Bool) (hg:Gl X "enumerate") (hm:X.mg "enumerate"=none) (ha:PA X [a] ta) (hs:autoParam (starEach [a] X.env=[(false,eval a X.env)]) L2.aRfl._auto_1) :
  PI X (.Tuple es kk tp) (.Call (.Name "enumerate" p) [a] [] pos) (iEnum X.K m ta):=by
 intro pins s σ H R I h
 refine Call_ (Vk I hg hm Qck (PyProof.Rows.callWith_type1 (thn (ha pos pins s σ H _ I h) fun us s1 hqP=>?_) hs rfl))
 obtain ⟨vs,H1,I1,r1,q1⟩:=hqP
 obtain ⟨l1,e,⟨xs,q1⟩,q⟩:=q1
 subst e
 obtain ⟨u1,rfl,e1⟩:=r1.one
 cases e1
 obtain ⟨is1,r1,p1,z1⟩:=I1.sq q1
 refine callType_new F.called_enumerate (by decide) (F.typeCall_enumerate_1 _) (F.newCall_enumerate_1 _) (fun obj=>F.args_object_init_2 obj _) F.entry_enumerate_new (Qfz (Qdn m l1 is1)) ⟨p1,?_⟩
 have z2:(s1.heap.push (Jn (itN m) l1)).objs.size=s1.heap.objs.size + 1:=wY ..
 have g2:((s1.heap.push (Jn (itN m) l1)).push { cls:=.type "enumerate",data:=.fields #[.none,.bool false,.ref s1.heap.objs.size,rawInt 0,.none,.none] }).get? (s1.heap.push (Jn (itN m) l1)).objs.size=some { cls:=.type "enumerate",data:=.fields #[.none,.bool false,.ref s1.heap.objs.size,rawInt 0,.none,.none] }:=kW _ rfl
 have g1:((s1.heap.push (Jn (itN m) l1)).push { cls:=.type "enumerate",data:=.fields #[.none,.bool false,.ref s1.heap.objs.size,rawInt 0,.none,.none] }).get? s1.heap.objs.size=some (Jn (itN m) l1):=jV _ (kW _ rfl)
 rw [z2] at g2
 show _/\_
 rw [z2]
 have kp:∀ b o,s1.heap.get? b=some o->((s1.heap.push (Jn (itN m) l1)).push { cls:=.type "enumerate",data:=.fields #[.none,.bool false,.ref s1.heap.objs.size,rawInt 0,.none,.none] }).get? b=some o:=fun b o z=>jV _ (jV _ z)
 generalize (s1.heap.push (Jn (itN m) l1)).push { cls:=.type "enumerate",data:=.fields #[.none,.bool false,.ref s1.heap.objs.size,rawInt 0,.none,.none] }=h' at g1 g2 kp
 have I2:Inv X pins σ H1 { s1 with heap:=h' }:=I1.kept (t':=s1.toks) kp
 have ltl:l1 < s1.heap.objs.size:=Qau p1
 refine ⟨⟨_,g2,rfl⟩,wpAny_pyIter_enum (s:={ s1 with heap:=h' }) g2 ⟨_,[s1.heap.objs.size + 1,s1.heap.objs.size],_,_,H1,rfl,I2,Qhy (m:=m) (a:=l1) (Nat.succ_ne_self _) (yJ (wW ltl)) (yJ ltl),⟨⟨_,g2⟩,Qat m g1⟩,fun c hc=>?_,q⟩⟩
 have hle:s1.heap.objs.size<=c:=by
  simp only [jJ,xV,or_false] at hc
  rcases hc with rfl | rfl
  ·exact jJc _ _
  ·exact kQ _
 exact I1.fpOk hle (I1.hok.fresh hle)
end
theorem Vf {K:Fg} {m:Bool} {a:Addr} {xs:List V} {g:TG} {tb:TS} {D:Ends} {σ:St} {H:Hp} (Pv:Nat->St->Hp->Prop) (h0:Pv 0 σ H) (hl:∀ i σ H,i<=xs.length->Pv i σ H->Sq K m H a xs)
  (hs:∀ i x σ H T,xs[i]?=some x->Pv i σ H->H T=none->g (.ref T) σ (upd H T (.tup [.int (i:Nat),x])) fun σ2 H2=>tb { D with nx:=Pv (i + 1),ct:=Pv (i + 1),bk:=D.nx } σ2 H2) (hd:∀ σ H,Pv xs.length σ H->D.nx σ H) :
  ∃ W:Nat->Nat->St->Hp->Prop,(∃ m,W 0 m σ H)/\∀ i n σ H,W i n σ H ->
   ((Ite K m a).stop i H/\D.nx σ H)\/((Ite K m a).go i H/\∃ N:St->Hp->Prop,(∀ σ' H',N σ' H'->∃ m',m' < n/\W (i + 1) m' σ' H')/\∀ x H',(Ite K m a).yld i H x H'->g x σ H' fun σ2 H2=>tb { D with nx:=N,ct:=N,bk:=D.nx } σ2 H2):=by
 refine ⟨fun i n σ H=>n=xs.length - i/\i<=xs.length/\Pv i σ H,⟨_,rfl,wX _,h0⟩,?_⟩
 rintro i n σ H ⟨rfl,hi,p⟩
 have q1:=hl i σ H hi p
 by_cases hlt:i < xs.length
 ·refine .inr ⟨⟨xs,xs[i],q1,by simp [hlt]⟩,Pv (i + 1),fun σ' H' p'=>⟨xs.length - (i + 1),by lia,rfl,hlt,p'⟩,fun x H' y=>?_⟩
  obtain ⟨T,u,rfl,hT,rfl,y1⟩:=y
  exact hs i u σ H T (y1 xs q1) p hT
 ·have e:i=xs.length:=by lia
  subst e
  exact .inl ⟨⟨xs,q1,kQ _⟩,hd σ H p⟩
end L2
namespace L2
open PySem PySem.Spec PyProof.Rows PySem.SeqAt
theorem paired_get {α β:Type} {R:α->β->Prop} {xs:List α} {ys:List β} (h:Paired R xs ys):∀ {i:Nat} {x:α},xs[i]?=some x->∃ y,ys[i]?=some y/\R x y:=by
 induction h with
 | nil=>intro i x e;exact nomatch e
 | cons z _ ih =>
  intro i x e
  match i with
  | 0=>cases e;exact ⟨_,rfl,z⟩
  | i + 1=>exact ih (show _=some x from e)
theorem Qkr (k:Key):Qcf (kV k)=true:=by cases k <;> rfl
def RowsL (H:Hp):List V->List (List Key)->Prop:=Paired fun v r=>∃ l,v=.ref l/\H l=some (.lst (r.map kV))
section
variable {X:Cx} {pins:List (Addr × Obj)} {σ:St} {H:Hp} {s:Shared}
theorem nil_at {A:Around} {a b:Addr} {xs:List V} (hu:A.units < cLine) (I:Inv X pins σ H s) (h1:SqL X.K H a xs) (h2:SqL X.K H b []):RcAt A s (.ref a) (.ref b) xs.isEmpty/\RcNeAt A s (.ref a) (.ref b) (!xs.isEmpty):=by
 obtain ⟨its,r,pt,_⟩:=I.list h1
 obtain ⟨its',r',pt',_⟩:=I.list h2
 have l1:=r.length
 have l2:=r'.length
 cases xs with
 | nil =>
  have e1:its=[]:=zZ l1.symm
  have e2:its'=[]:=zZ l2.symm
  subst e1 e2
  have key:∀ j (h1:j < ([]:List Value).toArray.size) (h2:j < ([]:List Value).toArray.size),EqAt A.in1 s ([]:List Value).toArray[j] ([]:List Value).toArray[j] ((fun _=>true) j):=fun j h1 _=>absurd h1 (by simp)
  exact ⟨RcAt.lists pt.isList pt'.isList rfl hu key,RcNeAt.lists pt.isList pt'.isList rfl hu key⟩
 | cons x xs =>
  have hne:(its.toArray.size != its'.toArray.size)=true:=by
   rw [kY,kY,← l1,← l2]
   simp
  exact ⟨RcAt.lists_lengths pt.isList pt'.isList hne hu,RcNeAt.lists_lengths pt.isList pt'.isList hne hu⟩
theorem Qep {K:Fg} {n:Nat} (hK:X.K=K) (hu:X.A.units + n < cLine):OpR X (compareOp .NotEq) (fun x y H Q=>∃ (a b:Addr) (xs:List V),x=.ref a/\y=.ref b/\SqL K H a xs/\SqL K H b []/\Q (.bl (!xs.isEmpty)) H):=by
 subst hK
 intro pins s σ H x y v u Q I rx ry h
 obtain ⟨a,b,xs,rfl,rfl,h1,h2,q⟩:=h
 cases rx
 cases ry
 exact (nil_at (A:=X.A) (by lia) I h1 h2).2 _ _ _ _ ⟨.bl _,H,I,rfl,q⟩
open PySem.MeetsSeq PySem.MeetsSeq2 PySem.MeetsSeq3 in
open AutoSeq1 (wpAny_loadPart') in
open PySem.MeetsSeq PySem.MeetsSeq2 PySem.MeetsSeq3 in
open AutoSeq1 (wpAny_loadPart') in
end
end L2
namespace L2
open PySem PySem.Spec PyProof.Rows PySem.W
inductive IsT:String->Prop
 | int:IsT "int"
 | bool:IsT "bool"
 | tuple:IsT "tuple"
 | list:IsT "list"
 | str:IsT "str"
def isiW (K:Fg) (H:Hp):V->String->Bool->Prop
 | .non,_,b=>b=false
 | .int _,T,b=>b=decide (T="int")
 | .bl _,T,b=>b=decide (T="int"\/T="bool")
 | .str _,T,b=>b=decide (T="str")
 | .ref a,T,b=>((∃ xs,SqT K H a xs)/\b=decide (T="tuple"))\/((∃ xs,SqL K H a xs)/\b=decide (T="list"))
 | _,_,_=>False
theorem Yq {X:Cx}:Jm X (.builtin "isinstance") (fun xs H Q=>∃ x T b,xs=[x,.ty T]/\IsT T/\isiW X.K H x T b/\Q (.bl b) H):=by
 intro pins s σ H xs us Q I rv h
 obtain ⟨x,T,b,rfl,hT,hi,q⟩:=h
 obtain ⟨u,v,rfl,ru,rT⟩:=rv.two
 cases rT
 have fin:∀ (tk:Nat),EP X pins σ Q (.bool b) { s with toks:=tk }:=fun tk=>⟨.bl b,H,I.tok tk,rfl,q⟩
 cases x with
 | int n =>
  obtain ⟨t,rfl⟩:=ru
  cases hT <;> (subst hi)
  ·exact IsiPair.int_int (fin s.toks)
  ·exact IsiPair.int_bool (fin _)
  ·exact IsiPair.int_tuple (fin _)
  ·exact IsiPair.int_list (fin _)
  ·exact IsiPair.int_str (fin _)
 | bl n =>
  cases ru
  cases hT <;> (subst hi)
  ·exact IsiPair.bool_int (fin s.toks)
  ·exact IsiPair.bool_bool (fin s.toks)
  ·exact IsiPair.bool_tuple (fin _)
  ·exact IsiPair.bool_list (fin _)
  ·exact IsiPair.bool_str (fin _)
 | str n =>
  obtain ⟨t,rfl⟩:=ru
  cases hT <;> (subst hi)
  ·exact IsiPair.str_int (fin _)
  ·exact IsiPair.str_bool (fin _)
  ·exact IsiPair.str_tuple (fin _)
  ·exact IsiPair.str_list (fin _)
  ·exact IsiPair.str_str (fin s.toks)
 | non =>
  cases ru
  cases hT <;> (subst hi)
  ·exact IsiPair.NoneType_int (fin _)
  ·exact IsiPair.NoneType_bool (fin _)
  ·exact IsiPair.NoneType_tuple (fin _)
  ·exact IsiPair.NoneType_list (fin _)
  ·exact IsiPair.NoneType_str (fin _)
 | ref a =>
  cases ru
  rcases hi with ⟨⟨xs,hq⟩,hi⟩ | ⟨⟨xs,hq⟩,hi⟩
  ·obtain ⟨its,r,⟨o,e,c,_⟩,_⟩:=I.tuple hq
   cases hT <;> (subst hi)
   ·exact IsiPair.tuple_int e c (fin _)
   ·exact IsiPair.tuple_bool e c (fin _)
   ·exact IsiPair.tuple_tuple e c (fin s.toks)
   ·exact IsiPair.tuple_list e c (fin _)
   ·exact IsiPair.tuple_str e c (fin _)
  ·obtain ⟨its,r,pl,_⟩:=I.list hq
   obtain ⟨o,e,c,_⟩:=pl.isList
   cases hT <;> (subst hi)
   ·exact IsiPair.list_int e c (fin _)
   ·exact IsiPair.list_bool e c (fin _)
   ·exact IsiPair.list_tuple e c (fin _)
   ·exact IsiPair.list_list e c (fin s.toks)
   ·exact IsiPair.list_str e c (fin _)
 | byt _=>exact hi.elim
 | flt _=>exact hi.elim
 | ty _=>exact hi.elim
theorem Qnu {X:Cx} {K:Fg} {tg l:Expr} {tl:TE} (hK:X.K=K) (hl:PE X l tl):PI X tg l (iTup K tl):=by subst hK;exact Qly hl
end L2
namespace L2
open PySem PySem.Spec PySem.Calls PyProof.Rows PySem.W
theorem ObjOk.ex {P:Program} {w:World} {H:Hp} {h:Heap} {a:Addr} {o:HO} (x:ObjOk P w H h a o):∃ ob,h.get? a=some ob:=by
 cases o with
 | lst xs=>obtain ⟨_,_,_,_,e⟩:=x;exact ⟨_,e⟩
 | tup xs=>obtain ⟨_,_,_,ob,e,_⟩:=x;exact ⟨_,e⟩
 | dK kvs=>obtain ⟨_,_,_,_,o,_,_,e,_⟩:=x;exact ⟨_,e⟩
 | dT kvs=>obtain ⟨_,_,_,_,o,_,_,e,_⟩:=x;exact ⟨_,e⟩
 | set S n=>obtain ⟨o,_,_,_,e,_⟩:=x;exact ⟨_,e⟩
 | ins C dx fs=>obtain ⟨_,_,_,e,_⟩:=x;exact ⟨_,e⟩
 | own y=>exact x
 | xd fs=>obtain ⟨_,⟨_,_,_,e,_⟩,_⟩:=x;exact ⟨_,e⟩
 | rng lo hi=>obtain ⟨_,_,_,e⟩:=x;exact ⟨_,e⟩
 | frz ob u=>exact ⟨_,x.1⟩
 | tbl ps=>exact ⟨_,x⟩
 | met f y=>exact ⟨_,x⟩
 | ext φ=>exact x.2.1
def CXe (P:Program) (w:World) (C:Addr):CXT:=fun outer H s E ev s'=>∃ (e:Addr) (H':Hp) (B:Heap) (a0:Value),ev=.ref e/\E (.ref C) none H'/\s'.os=s.os/\AllBare s'.gens/\Un (frs outer) [] H H' s.heap s'.heap/\HOk P w H' s'.heap /\
 (∀ b,b ∉ frs outer->((∃ o,s.heap.get? b=some o)\/H' b ≠ none)->∃ o,B.get? b=some o)/\Heap.FlyingW B outer e (.ref C) a0 s'.heap
theorem Qaz {fs:List Addr} {H H':Hp} {h h1 h2 B:Heap} (u:Un fs [] H H' h h1) (c:∀ b,b ∉ fs->((∃ o,h.get? b=some o)\/H' b ≠ none)->∃ o,B.get? b=some o) (b1:B.StaysIn h1) (b2:B.StaysIn h2) (up:h1.UpToSlots h2)
  (fr:∀ b ∈ fs,∃ o,h1.get? b=some o/\∀ vs,o.data ≠ .fields vs):Un fs [] H H' h h2 where
 keep:=fun b o e n hb hx=>by
  have e1:=u.keep b o e n hb hx
  obtain ⟨o',eB⟩:=c b hb (.inl ⟨o,e⟩)
  have e2:=b1 b o' eB
  rw [e1] at e2
  cases e2
  exact b2 b o eB
 slot:=fun b o e n hb hx=>by
  obtain ⟨sl,e1⟩:=u.slot b o e n hb hx
  obtain ⟨o',e',nf⟩:=fr b hb
  rw [e1] at e'
  cases e'
  obtain ⟨sl2,e2⟩:=up b _ e1 nf
  exact ⟨sl2,e2⟩
 free:=u.free
 there:=fun b o e hx=>by
  by_cases hb:b ∈ fs
  ·obtain ⟨o',e',nf⟩:=fr b hb
   obtain ⟨sl,e2⟩:=up b _ e' nf
   exact ⟨_,e2⟩
  ·obtain ⟨o',eB⟩:=c b hb (.inl ⟨o,e⟩)
   exact ⟨o',b2 b o' eB⟩
 tups:=u.tups
 frzs:=u.frzs
 tbls:=u.tbls
theorem Jy {P:Program} {w:World} {fs:List Addr} {H':Hp} {h h1 h2 B:Heap} (x:HOk P w H' h1) (c:∀ b,b ∉ fs->((∃ o,h.get? b=some o)\/H' b ≠ none)->∃ o,B.get? b=some o) (b1:B.StaysIn h1) (b2:B.StaysIn h2) (ff:∀ b ∈ fs,H' b=none):HOk P w H' h2:=fun b ob e=>by
 refine (x b ob e).stay (fun d u hd q=>?_) (fun _ q=>q) fun _ _ q=>q
 have hn:H' d ≠ none:=by
  rcases hd with rfl | hd
  ·rw [e];exact fun z=>nomatch z
  ·rw [hd];exact fun z=>nomatch z
 obtain ⟨o',eB⟩:=c d (fun z=>hn (ff d z)) (.inr hn)
 have e2:=b1 d o' eB
 rw [q] at e2
 cases e2
 exact b2 d u eB
theorem Qw {h B:Heap} {l:List Env} (f:h.FunFrames B l):∀ b ∈ frs l,∃ o,h.get? b=some o/\∀ vs,o.data ≠ .fields vs:=fun b hb=>(f.mem hb).2
section
variable {P:Program} {w:World} {K:Fg} {mg:Str->Option Value} {base:Heap} {N:List Str} {qual:Str} {scope:Scope} {f:Addr} {cd:Value} {A:Around} {outer:List Env} {s₀:Shared} {H₀:Hp} {E:XK} {C:Addr}
 {pins:List (Addr × Obj)} {σ:St} {H:Hp} {s:Shared}
abbrev cxE (P:Program) (w:World) (C:Addr) (K:Fg) (mg:Str->Option Value) (base:Heap) (N:List Str) (qual:Str) (scope:Scope) (f:Addr) (cd:Value) (A:Around) (outer:List Env) (s:Shared) (H:Hp) (E:XK):Cx:=cxOf (CXe P w C) P w K mg base N qual scope f cd A outer s H E
theorem old_ne (I:Inv (cxE P w C K mg base N qual scope f cd A outer s₀ H₀ E) pins σ H s) {b:Addr} {o:Obj} (e:s₀.heap.get? b=some o) (hb:b ∉ frs outer):b ∉ frs (envOfC qual scope s₀.heap.objs.size f cd :: outer):=fun z=>by
 have z':b ∈ (envOfC qual scope s₀.heap.objs.size f cd :: outer).filterMap (·.frame):=z
 obtain ⟨env,he,hf⟩:=zV.mp z'
 rcases jJ.mp he with rfl | he
 ·have:s₀.heap.objs.size=b:=Option.some.inj hf
  exact absurd (kX e) (by rw [← this];exact jQc _)
 ·exact hb (zV.mpr ⟨env,he,hf⟩)
theorem throws {e:Addr} {h':Heap} {args:List Value} (I:Inv (cxE P w C K mg base N qual scope f cd A outer s₀ H₀ E) pins σ H s) (hx:Heap.MadeExcOf s.heap h' e (.ref C) args) (q:E (.ref C) none H) :
  (cxE P w C K mg base N qual scope f cd A outer s₀ H₀ E).xe (.ref e) { s with heap:=h' }:=by
 show wpAny _ _ (leaving (envOfC qual scope s₀.heap.objs.size f cd) (.ref e)) _ _ _
 have ff:s.heap.FunFrames base (envOfC qual scope s₀.heap.objs.size f cd :: outer):=I.stack
 have sf:∀ b ∈ frs (envOfC qual scope s₀.heap.objs.size f cd :: outer),H b=none:=I.stkFree
 refine wpAny_leaves_madeW (base:=hideAll s.heap (frs (envOfC qual scope s₀.heap.objs.size f cd :: outer))) I.ok.frames rfl (fun b o z=>of_hideAll _ z) (funFrames_hide ff fun env he b hb=>zV.mpr ⟨env,he,hb⟩) hx fun h'' t fl tu nt up=>?_
 have st:(hideAll s.heap (frs (envOfC qual scope s₀.heap.objs.size f cd :: outer))).StaysIn s.heap:=fun b o z=>of_hideAll _ z
 have hc:∀ b,b ∉ frs outer->((∃ o,s₀.heap.get? b=some o)\/H b ≠ none)->∃ o,(hideAll s.heap (frs (envOfC qual scope s₀.heap.objs.size f cd :: outer))).get? b=some o:=fun b hb z=>by
  rcases z with ⟨o,e0⟩ | z
  ·obtain ⟨o',e1⟩:=I.base.there b o e0 (by intro z;cases z)
   exact ⟨o',hideAll_get _ e1 (old_ne I e0 hb)⟩
  ·cases eH:H b with
   | none=>exact absurd eH z
   | some ob =>
    obtain ⟨o',e1⟩:=(I.hok b ob eH).ex
    exact ⟨o',hideAll_get _ e1 fun y=>z (sf b y)⟩
 have up2:s.heap.UpToSlots h'':=(Heap.UpToSlots.of_keeps hx.keeps).trans up
 refine ⟨e,H,_,.ref t,rfl,q,I.os,I.bare,Qaz I.base hc st fl.1 up2 fun b hb=>?_,Jy I.hok hc st fl.1 fun b hb=>?_,hc,fl⟩
 ·exact Qw ff b (zV.mpr (let ⟨env,he,hf⟩:=zV.mp hb;⟨env,jY _ he,hf⟩))
 ·exact sf b (zV.mpr (let ⟨env,he,hf⟩:=zV.mp hb;⟨env,jY _ he,hf⟩))
end
abbrev Cx.suite (X:Cx) (e:Addr):Cx:={ X with A:=X.A.mark (some (.ref e)),calm:=false,xe:=fun _ _=>False }
theorem Cx.Ok.suite {X:Cx} (ok:X.Ok) (e:Addr):(X.suite e).Ok :=
 ⟨ok.mod,ok.kind,ok.glob,ok.blt,ok.above,ok.inj,ok.has,ok.cab,(fun z=>nomatch z),ok.frames,ok.stk,ok.exf,ok.bs,ok.bsz,ok.noex,ok.exfs,ok.funs,ok.frf⟩
section
variable {X:Cx} {pins:List (Addr × Obj)} {σ:St} {H H':Hp} {s:Shared} {e:Addr}
theorem Inv.suite (I:Inv X pins σ H s) (e:Addr):Inv (X.suite e) pins σ H s:=⟨I.ok.suite e,I.os,I.bare,I.base,I.loc,I.cell,I.free,I.freeC,I.pin,I.hok,I.len⟩
theorem Inv.unsuite (ok:X.Ok) (I:Inv (X.suite e) pins σ H s):Inv X pins σ H s:=⟨ok,I.os,I.bare,I.base,I.loc,I.cell,I.free,I.freeC,I.pin,I.hok,I.len⟩
theorem Un.track {fs:List Addr} {h h':Heap} {o:HO} (u:Un fs [] H H' h h') (hn:h.get? e=none) (he:H' e=none):Un fs [] H (upd H' e o) h h' where
 keep:=u.keep
 slot:=u.slot
 free:=fun b ob q n hx=>by
  have ne:b ≠ e:=fun z=>by rw [z,hn] at q;cases q
  rw [Ql ne]
  exact u.free b ob q n hx
 there:=u.there
 tups:=fun b xs q=>by have:=u.tups b xs q;rw [Ql (Qq this he)];exact this
 frzs:=fun b ob v q=>by have:=u.frzs b ob v q;rw [Ql (Qq this he)];exact this
 tbls:=fun b ps q=>by
  obtain ⟨m,e1⟩:=u.tbls b ps q
  exact ⟨m,by rw [Ql (Qq e1 he)];exact e1⟩
theorem HOk.track {P:Program} {w:World} {h:Heap} {o:HO} (x:HOk P w H' h) (he:H' e=none) (new:ObjOk P w (upd H' e o) h e o):HOk P w (upd H' e o) h:=fun b u q=>by
 by_cases hb:b=e
 ·subst hb;rw [Qd] at q;cases q;exact new
 ·rw [Ql hb] at q
  exact (x b u q).stay (fun _ _ _ q=>q) (fun c q=>by rw [Ql (Qq q he)];exact q) fun c xs q=>by rw [Ql (Qq q he)];exact q
def excO (e C:Addr):HO:=.ext fun h=>∃ ob,h.get? e=some ob/\ob.cls=.ref C
theorem Vy {M:Model} {A:Around} {E:Value->Shared->Prop} {i:Nat} {x:Str} {v:V} {Q:Unit->Shared->Prop} (I:Inv X pins σ H s) (hN:X.N.Nodup) (hi:X.N[i]?=some x) (hk:X.env.scope.names.lookup x=some .local) (hv:σ[i]?=some (some v))
  (h:∀ s',Inv X pins (σ.set i none) H s'->Q () s'):wpAny M A (unbindName X.env x) Q E s:=by
 obtain ⟨m,hn,hl⟩:=id I.loc
 have hcls:(X.env.scope.kind == .class || (X.env.scope.kind == .module && X.env.locals != X.env.globals))=false:=by rw [I.ok.kind];rfl
 have cne:=I.cne
 obtain ⟨u,_,lk⟩:=hl i x v hi hv (.inl hk)
 have hm:m x=some u:=by
  rcases lk with ⟨_,z⟩ | ⟨z,_⟩
  ·exact z
  ·rcases z with z | z
   ·have:=(show X.env.scope.names.lookup x=some .cell from z);rw [hk] at this;cases this
   ·have:=(show X.env.scope.names.lookup x=some .free from z);rw [hk] at this;cases this
 have hiσ:i < σ.length:=by rw [I.len];exact (kZ.mp hi).1
 have tracked:∀ {a:Addr} {h':Heap},(∃ o,s.heap.get? a=some o/\H a=none)->Heap.SameBut a s.heap h'->HOk X.prog X.w H h':=fun {a h'} ha hs=>HOk.but I.hok ha.choose_spec.2 hs
 refine wpAny_unbindName_local hk hn hm hcls fun h' u' hn' hs=>?_
 obtain ⟨oL,_,_,hoL,_⟩:=id hn
 refine h _ ⟨I.ok,I.os,I.bare,⟨fun b o e n hb hx=>?_,fun b o e n hb hx=>?_,I.base.free,fun b o e hx=>?_,I.base.tups,I.base.frzs,I.base.tbls⟩,⟨_,hn',fun j y v' e1 e2 e3=>?_⟩,fun y c e=>?_,I.free,I.freeC,fun p hp=>?_,tracked ⟨oL,hoL,I.free⟩ hs,by simpa using I.len⟩
 ·exact (hs.2 b (yJ (zX (kX e) I.ok.above))).trans (I.base.keep b o e n hb hx)
 ·obtain ⟨sl,e1⟩:=I.base.slot b o e n hb hx
  exact ⟨sl,(hs.2 b (yJ (zX (kX e) I.ok.above))).trans e1⟩
 ·obtain ⟨o',e1⟩:=I.base.there b o e hx
  exact ⟨o',(hs.2 b (yJ (zX (kX e) I.ok.above))).trans e1⟩
 ·by_cases hj:j=i
  ·subst hj
   rw [wQ hiσ] at e2
   cases e2
  ·rw [kXd (Ne.symm hj)] at e2
   obtain ⟨w',r',q⟩:=hl j y v' e1 e2 e3
   refine ⟨w',r',?_⟩
   rcases q with ⟨k,e⟩ | ⟨k,c,e,z⟩
   ·refine .inl ⟨k,?_⟩
    have:y ≠ x:=fun e=>hj (Qan hN e1 (e ▸ hi))
    simp [this,e]
   ·exact .inr ⟨k,c,e,z.sameBut hs (cne y c e)⟩
 ·obtain ⟨w',z⟩:=I.cell y c e
  exact ⟨w',z.sameBut hs (cne y c e)⟩
 ·obtain ⟨e,n,ne,nf,d⟩:=I.pin p hp
  exact ⟨(hs.2 p.1 ne).trans e,n,ne,nf,d⟩
end
def IsA (K:Fg) (C D:Addr):Prop:=∀ (M:Model) (A:Around) (E:Value->Shared->Prop) (s:Shared) (e:Addr) (ob:Obj) (Q:Bool->Shared->Prop),K.In s.heap->s.heap.get? e=some ob->ob.cls=.ref C->Q true s->wpAny M A (excMatches (.ref e) (.ref D)) Q E s
structure ExcIn (K:Frag) (C:Addr):Prop where
 ga:findIn K (.ref C) "__getattribute__"=some (some (.builtin "BaseException.__getattribute__"))
 gn:findIn K (.ref C) "__getattr__"=some none
 cl:findIn K (.ref C) "__class__"=some (some (.builtin "object.__class__"))
 mo:mroIn K C (.type "object")=some true
 mb:mroIn K C (.type "BaseException")=some true
section
variable {prog:Program} {w:World} {A:Around} {E:Value->Shared->Prop} {h:Heap} {g:Array GenState} {d:Drawn} {t:Nat} {os:OsState} {a C:Addr} {o:Obj} {K:Frag}
theorem Zu {M:Model} (hx:h.get? a=some o) (hc:o.cls=.ref C):Looks M h (typeOf (.ref a)) (.ref C):=hc ▸ (Looks.ld hx).andThen .now
open Builtin Builtin.ObjectAttr Builtin.Getset_descriptor in
theorem ex_get {R:Result->Shared->Prop} {tp:Value} (X:K.In h) (Z:ExcIn K C) (hx:h.get? a=some o) (hc:o.cls=.ref C) (hq:R (.ok (.ret (.ref C))) ⟨h,g,d,t,os⟩) :
  codeAny (model prog w) A (.call (.builtin "getset_descriptor.__get__") ⟨[.builtin "object.__class__",.ref a,tp],[]⟩) R ⟨h,g,d,t,os⟩:=by
 have L0:=Zu (M:=model prog w) hx hc
 have L1:=looks_mroIn (M:=model prog w) X Z.mo
 refine codeAny_call_builtin KF.slot_gs.plain KF.entry_gs (KF.slot_gs.check _ _ _ _ _ _ _ _ KF.type_class (KF.args_gs _ _ _) ?_)
 unfold Builtin.«getset_descriptor.__get__» descrGet
 rw [dga_obj]
 refine jZ (kJ ?_)
 unfold descrGetter descrCheckInstance descrNameAndClass isInstance
 simp only [KF.owner_class]
 repeat lk
 refine ⟨Code.quiet_builtin _ (by decide +kernel),codeAny_builtin KF.entry_class ?_⟩
 unfold Builtin.«object.__class__» shownTypeOf
 repeat lk
 exact hq
theorem Qks {tk:Tok} {Q:Fin->Shared->Prop} (X:K.In h) (Z:ExcIn K C) (hx:h.get? a=some o) (hc:o.cls=.ref C) (hq:Q (.done (.ret (.ref C))) ⟨h,g,d,t,os⟩) :
  wpAny (model prog w) A (Builtin.«object.__getattribute__» ⟨[.ref a,.str "__class__" tk],[]⟩) Q E ⟨h,g,d,t,os⟩:=by
 have L0:=Zu (M:=model prog w) hx hc
 have L1:=looks_findIn (M:=model prog w) X Z.cl
 have hT5:(⟨h,g,d,t,os⟩:Shared).TypeIs (.builtin "object.__class__") "getset_descriptor":=F.typeOf_object_class
 have f5:=F.typeOf_object_class
 have f6:=F.slot_gs_get.lookup
 have f7:=F.slot_gs_set.lookup
 repeat (any_goals (first | assumption | (with_reducible refine wpAny_loadPart_at hx ?_;rw [hc]) | with_reducible refine Looks.at (by assumption) ?_ | wp_step))
 refine ex_get X Z hx hc ?_
 repeat (any_goals (first | assumption | wp_step))
theorem Qnv {tk:Tok} {R:Result->Shared->Prop} (X:K.In h) (Z:ExcIn K C) (hx:h.get? a=some o) (hc:o.cls=.ref C) (hq:R (.ok (.ret (.ref C))) ⟨h,g,d,t,os⟩) :
  codeAny (model prog w) A (.call (.builtin "BaseException.__getattribute__") ⟨[.ref a,.str "__class__" tk],[]⟩) R ⟨h,g,d,t,os⟩:=by
 refine codeAny_call_builtin F.excAttr_ValueError.ga.plain F.entry_bexc_ga ?_
 have hk:builtinKind "BaseException.__getattribute__"=some .slot:=by decide +kernel
 have hp:splitId "BaseException.__getattribute__"=some ("BaseException","__getattribute__"):=by decide +kernel
 have ha:=F.args_bexc_ga (.ref a) (.str "__class__" tk)
 have L0:=Zu (M:=model prog w) hx hc
 have L1:=looks_mroIn (M:=model prog w) X Z.mb
 have L2:Looks (model prog w) h (isInstance (.ref a) (.type "BaseException")) true:=L0.andThen L1
 simp only [checkBuiltinCall,hk,hp]
 refine jZ (L2.at ?_)
 repeat (first | exact Qks X Z hx hc hq | wp_step)
theorem ex_by {tk:Tok} {fill expr:Bool} {Q:Value->Shared->Prop} (X:K.In h) (Z:ExcIn K C) (hx:h.get? a=some o) (hc:o.cls=.ref C) (hq:Q (.ref C) ⟨h,g,d,t,os⟩) :
  wpAny (model prog w) A (getAttrBy (.ref a) (.str "__class__" tk) fill expr) Q E ⟨h,g,d,t,os⟩:=by
 have L0:=Zu (M:=model prog w) hx hc
 have L1:=looks_findIn (M:=model prog w) X Z.ga
 have L2:=looks_findIn (M:=model prog w) X Z.gn
 have f3:=F.excAttr_ValueError.ga.bind (.ref a)
 have hx0:(expr && onTheHeap (Value.builtin "BaseException.__getattribute__"))=false:=by cases expr <;> rfl
 have hx2:(Value.builtin "BaseException.__getattribute__" == Value.builtin "object.__getattribute__")=false:=by decide +kernel
 have hx1:(onTheHeap (Value.ref C) && Value.builtin "BaseException.__getattribute__" == Value.builtin "object.__getattribute__")=false:=by rw [hx2];rfl
 repeat (any_goals (first | assumption | with_reducible refine Looks.at (by assumption) ?_ | wp_step))
 refine Qnv X Z hx hc ?_
 repeat (any_goals (first | assumption | wp_step))
theorem Qnw {Q:Option Value->Shared->Prop} {s:Shared} (X:K.In s.heap) (Z:ExcIn K C) (hx:s.heap.get? a=some o) (hc:o.cls=.ref C) (hq:Q (some (.ref C)) { s with toks:=s.toks + 1 }) :
  wpAny (model prog w) A (getAttr? (.ref a) "__class__") Q E s:=by
 obtain ⟨h,g,d,t,os⟩:=s
 unfold getAttr? getAttrBy?
 repeat (any_goals (first | assumption | with_reducible refine ex_by X Z hx hc ?_ | wp_step))
end
abbrev vErr:List Value:=[.type "ValueError",.type "Exception",.type "BaseException",.type "object"]
theorem Vz {K:Frag} {C:Addr} {b:Value} {r:Bool} (e:mroIn K C b=some r):∃ c d cd sl,K.lookup C=some ⟨c,d,.cls cd,sl⟩:=by
 obtain ⟨cd,e1,_⟩:=Option.bind_eq_some_iff.mp e
 unfold clsIn at e1
 split at e1
 ·rename_i c d cd' sl ho
  exact ⟨c,d,cd',sl,ho⟩
 ·cases e1
theorem Je {K:Frag} {a C:Addr} (Z:ExcIn K C):KitX K (.ref a) (.ref C) (fun h=>∃ o,h.get? a=some o/\o.cls=.ref C) where
 ty:=fun M h X ⟨o,hx,hc⟩=>Zu hx hc
 it:=fun M h X _=>by
  obtain ⟨c,d,cd,sl,ho⟩:=Vz Z.mo
  intro A Q E s k q
  unfold isType loadHead
  exact jZ (wpAny_loadPart (k _ _ (X _ _ ho)) (kJ q))
 ne:=fun h tp dd its n sl X e=>by
  obtain ⟨c,d,cd,sl',ho⟩:=Vz Z.mo
  have hC:=X _ _ ho
  refine beq_eq_false_iff_ne.mpr fun z=>?_
  cases z
  rw [hC] at e
  cases e
 ca:=fun X ⟨o,hx,hc⟩ q=>Qnw X Z hx hc q
theorem Qdo:∀ {Ds:List Addr} {its:List Value},Vals (Ds.map V.ref) its->its=Ds.map Value.ref
 | [],_,.nil=>rfl
 | D :: r,_,.cons a b=>by cases a;rw [xZ,Qdo b]
section
variable {X:Cx}
theorem Jz:Jm X (.builtin "isinstance") (fun xs H Q=>∃ (e C:Addr),H e=some (excO e C)/\ExcIn X.K C/\((∃ D b,xs=[.ref e,.ref D]/\kitOne X.K (.ref C) (.ref D)=some b/\Q (.bl b) H)\/(∃ T b,xs=[.ref e,.ty T]/\kitOne X.K (.ref C) (.type T)=some b/\Q (.bl b) H) \/
  ∃ (p:Addr) (Ds:List Addr) (b:Bool),xs=[.ref e,.ref p]/\H p=some (.tup (Ds.map V.ref))/\kitAny X.K (.ref C) (Ds.map Value.ref)=some b/\Q (.bl b) H)):=by
 intro pins s σ H xs us Q I rv h
 obtain ⟨e,C,he,Z,h⟩:=h
 obtain ⟨φ,_⟩:=(show ObjOk X.prog X.w H s.heap e (excO e C) from I.hok e _ he)
 rcases h with ⟨D,b,rfl,hk,q⟩ | ⟨T,b,rfl,hk,q⟩ | ⟨p,Ds,b,rfl,hp,hk,q⟩
 ·obtain ⟨u,v,rfl,ru,rT⟩:=rv.two
  cases ru
  cases rT
  exact kia_one (Je Z) I.kIn φ hk (fun z=>nomatch z) fun tk=>⟨.bl b,H,I.tok tk,rfl,q⟩
 ·obtain ⟨u,v,rfl,ru,rT⟩:=rv.two
  cases ru
  cases rT
  exact kia_one (Je Z) I.kIn φ hk (fun z=>nomatch z) fun tk=>⟨.bl b,H,I.tok tk,rfl,q⟩
 ·obtain ⟨u,v,rfl,ru,rT⟩:=rv.two
  cases ru
  cases rT
  obtain ⟨_,its,r,ob,e1,e2,e3⟩:=(show ObjOk X.prog X.w H s.heap p (.tup (Ds.map V.ref)) from I.hok p _ hp)
  have ei:=Qdo r
  subst ei
  obtain ⟨n,e3⟩:=e3
  obtain ⟨cls,dct,dat,sl⟩:=ob
  simp only at e2 e3
  subst e2 e3
  exact kia_tup (Je Z) I.kIn φ e1 hk (fun z=>nomatch z) fun tk=>⟨.bl b,H,I.tok tk,rfl,q⟩
end
structure ErrC (K:Frag) (mg:Str->Option Value) (x:Str) (C:Addr):Prop where
 bound:mg x=some (.ref C)
 here:excIn K C vErr "ValueError.__new__"=true
theorem ErrC.own {K:Frag} {mg:Str->Option Value} {x:Str} {C:Addr} {h:Heap} (F:ErrC K mg x C) (X:K.In h):OwnCls x C vErr "ValueError.__new__" mg h:=by
 refine ⟨F.bound,?_⟩
 have q:=F.here
 unfold excIn at q
 split at q
 ·rename_i d cd sl hl
  split at q
  ·rename_i C' tl a0 a1 a2 a3 nw a5 hm hs
   simp only [xQ,beq_iff_eq,jJb] at q
   obtain ⟨⟨⟨⟨⟨rfl,rfl⟩,nd⟩,ht⟩,hk⟩,hi⟩:=q
   obtain ⟨y1,y2,y3,y4,y5,y6,y7,y8,y9,y10,y11⟩:=cd
   dsimp only at hm nd hk hi
   subst hm nd
   obtain ⟨sl⟩:=sl
   simp only at hs
   subst hs
   exact ⟨tl,y4,y1,y5,y2,y6,y7,y8,y9,y10,d,a0,a1,a2,a3,a5,_,X _ _ hl,.of_isNs (isNs_of_in X hk),nsMap_none_of_in X hk hi,tail_of_in X ht⟩
  ·cases q
 ·cases q
section
variable {P:Program} {w:World} {K:Fg} {mg:Str->Option Value} {base:Heap} {N:List Str} {qual:Str} {scope:Scope} {f:Addr} {cd:Value} {A:Around} {outer:List Env} {s₀:Shared} {H₀:Hp} {E:XK} {C:Addr}
theorem Qkt {x:Str} {np cpos pos:Pos} {a:Expr} {ta:TA} (F:ErrC K mg x C) (ha:PA (cxE P w C K mg base N qual scope f cd A outer s₀ H₀ E) [a] ta) (hg:autoParam (Gl (cxE P w C K mg base N qual scope f cd A outer s₀ H₀ E) x) L2.aRfl._auto_1) (hd:autoParam ((x == ("__debug__":Str))=false) L2.aDec._auto_1)
  (he:autoParam (starEach [a] (envOfC qual scope s₀.heap.objs.size f cd)=[(false,eval a (envOfC qual scope s₀.heap.objs.size f cd))]) L2.aRfl._auto_1) :
  PS (cxE P w C K mg base N qual scope f cd A outer s₀ H₀ E) (.Raise (some (.Call (.Name x np) [a] [] cpos)) none pos) (fun _ σ H=>ta σ H fun vs H1=>vs.length<=5/\E (.ref C) none H1):=by
 intro pins s σ H D I h
 obtain ⟨tl,N',nm,q,bs,hdct,sn,sub,ab,col,dd,k0,k1,k2,k3,k5,mN,hC,hN,hni,T⟩:=(F.own I.ok.mod.kin).obj
 refine wpAny_Raise_call_subT (C:=C) (nm:=nm) (q:=q) (N:=N') (bs:=bs) (bm:=tl) (hdct:=hdct) (sn:=sn) (sub:=sub) (ab:=ab) (col:=col) (dd:=dd) (k0:=k0) (k1:=k1) (k2:=k2) (k3:=k3) (k5:=k5) PySem.F.excBase_ValueError (mN:=mN) (T.hasType PySem.F.excBase_ValueError.hasBase) (I.ok.hd rfl)
  (by show (backTo cpos (starEach [a] (envOfC qual scope s₀.heap.objs.size f cd))).any (·.1)=false;rw [he];rfl) hni (Zi I hg F.bound ⟨rfl,?_⟩ hd)
 show wpAny _ _ (evalArgs _ _ (backTo cpos (starEach [a] (envOfC qual scope s₀.heap.objs.size f cd))) []) _ _ _
 have h2:=ha cpos pins s σ H _ I h
 have h2':wpAny (model P w) (A.deeper (envOfC qual scope s₀.heap.objs.size f cd)) (spliced (backTo cpos (starEach [a] (envOfC qual scope s₀.heap.objs.size f cd)))) _ _ s:=h2
 rw [he] at h2' ⊢
 refine Calls.evalArgs_plain (wpAny_mono h2' (fun us s2 hqP=>?_) fun _ _ z=>z)
 obtain ⟨vs,H1,I1,r,hl,q2⟩:=hqP
 have bk:∀ b o,base.get? b=some o->s2.heap.get? b=some o:=fun b o e=>(I1.bs b o e).1
 refine ⟨rfl,?_,bk _ _ hC,hN.keeps bk,T.keeps bk,fun h' e hm=>throws I1 hm q2⟩
 have:us.length<=5:=by rw [← r.length];exact hl
 exact xW this (by decide)
theorem Fun.okE {x qual:Str} {st:Stmt} {f:Addr} {fd:FuncData} {N ps:List Str} {k:Nat} {sp:Sp} (F:Fun K x qual st f fd) (S:FnScope N ps (Qh st)) (len:∀ vs H Q E,sp vs H Q E->vs.length=ps.length)
  (hbody:∀ (cdv:Value) (A:Around) (outer:List Env) (s:Shared) (H:Hp) (vs:List V) (Q:VK) (E:XK),Room k (A.deeper (envOfC qual (Qh st) s.heap.objs.size f cdv))->sp vs H Q E ->
   ∃ t,PSs (cxE P w C K mg base N qual (Qh st) f cdv A outer s H E) (Qz st) t/\t { nx:=fun _ H'=>Q .non H',rt:=Q } (start N vs) H):FnOk P w K mg base (CXe P w C) (k + 1) f fd ps sp:=by
 obtain ⟨oc,od,kV,doc,pm,an,cdv,ct,osl,rfl,lk,hcd⟩:=F.ex
 exact Qni lk hcd S len fun A outer s H vs Q E hr hsp=>hbody cdv A outer s H vs Q E hr hsp
end
theorem Qhz {K:Frag} {C D:Addr} (h1:mroIn K C (.ref D)=some true) (h2:mroIn K D (.type "BaseException")=some true) (h3:typeIn K (.ref D)=some (.type "type")):IsA K C D:=by
 intro M A E s e ob Q X hx hc q
 have L0:=Zu (M:=M) hx hc
 have L1:=looks_mroIn (M:=M) X h1
 have L2:=looks_mroIn (M:=M) X h2
 have L3:=looks_typeIn (M:=M) X h3
 have L4:Looks M s.heap (isSubtype (.type "type") (.type "tuple")) false:=Looks.of_pure tc_notTuple
 have L5:Looks M s.heap (isInstance (.ref D) (.type "tuple")) false:=L3.andThen L4
 have L6:Looks M s.heap (isType (.ref D)) true:=by
  obtain ⟨c,d,cd,sl,ho⟩:=Vz h2
  intro A Q E s' k q
  unfold isType loadHead
  exact jZ (wpAny_loadPart (k _ _ (X _ _ ho)) (kJ q))
 unfold excMatches
 refine jZ (L5.at ?_)
 unfold isExcClass
 repeat (any_goals (first | exact q | with_reducible refine Looks.at (by assumption) ?_ | wp_step))
theorem Wa:∀ (names:List (Str × NameKind)) (n:Nat) (acc:List (Str × Addr)) {x:Str} {c:Addr},(cellsFrom n names acc).lookup x=some c->((x,NameKind.cell) ∈ names/\n<=c)\/acc.lookup x=some c
 | [],n,acc,x,c,h=>.inr h
 | (y,k) :: r,n,acc,x,c,h=>by
  unfold cellsFrom at h
  by_cases hk:(k == NameKind.cell)=true
  ·rw [if_pos hk] at h
   rcases Wa r (n + 1) ((y,n) :: acc) h with ⟨h1,h2⟩ | h
   ·exact .inl ⟨jY _ h1,by lia⟩
   ·rw [zW] at h
    cases hx:x == y with
    | true =>
     rw [hx] at h
     have e1:x=y:=by simpa using hx
     have e2:n=c:=Option.some.inj h
     have e3:k=.cell:=by simpa using hk
     subst e1 e3
     exact .inl ⟨jX,by lia⟩
    | false=>rw [hx] at h;exact .inr h
  ·rw [if_neg hk] at h
   rcases Wa r n acc h with ⟨h1,h2⟩ | h
   ·exact .inl ⟨jY _ h1,h2⟩
   ·exact .inr h
theorem Qia:∀ (names:List (Str × NameKind)) (n:Nat) (acc:List (Str × Addr)),(∀ x c,acc.lookup x=some c->c < n)->(∀ x y c,acc.lookup x=some c->acc.lookup y=some c->x=y)->∀ x y c,(cellsFrom n names acc).lookup x=some c->(cellsFrom n names acc).lookup y=some c->x=y
 | [],n,acc,_,hi=>hi
 | (z,k) :: r,n,acc,hl,hi=>by
  unfold cellsFrom
  by_cases hk:(k == NameKind.cell)=true
  ·rw [if_pos hk]
   have look:∀ x c,((z,n) :: acc).lookup x=some c->(x=z/\c=n)\/acc.lookup x=some c:=fun x c h=>by
    rw [zW] at h
    cases hx:x == z with
    | true=>rw [hx] at h;exact .inl ⟨by simpa using hx,(Option.some.inj h).symm⟩
    | false=>rw [hx] at h;exact .inr h
   refine Qia r (n + 1) ((z,n) :: acc) (fun x c h=>?_) fun x y c h1 h2=>?_
   ·rcases look x c h with ⟨_,e⟩ | h
    ·rw [e];exact jYb _
    ·exact wW (hl x c h)
   ·rcases look x c h1 with ⟨e1,e2⟩ | h1 <;> rcases look y c h2 with ⟨e3,e4⟩ | h2
    ·rw [e1,e3]
    ·exact absurd (hl y c h2) (by rw [e2];exact jQc _)
    ·exact absurd (hl x c h1) (by rw [e4];exact jQc _)
    ·exact hi x y c h1 h2
  ·rw [if_neg hk]
   exact Qia r n acc hl hi
theorem Qib:∀ (names:List (Str × NameKind)) (n:Nat) (acc:List (Str × Addr)) {x:Str},(x,NameKind.cell) ∉ names->(cellsFrom n names acc).lookup x=acc.lookup x
 | [],n,acc,x,h=>rfl
 | (y,k) :: r,n,acc,x,h=>by
  unfold cellsFrom
  by_cases hk:(k == NameKind.cell)=true
  ·rw [if_pos hk,Qib r (n + 1) _ fun z=>h (jY _ z),zW]
   have e3:k=.cell:=by simpa using hk
   subst e3
   cases hx:x == y with
   | true =>
    have e1:x=y:=by simpa using hx
    subst e1
    exact absurd jX h
   | false=>rfl
  ·rw [if_neg hk]
   exact Qib r n acc fun z=>h (jY _ z)
theorem Qmi {env:Env}:∀ (l:List (Str × NameKind)) (cs:List (Str × Addr)) {x:Str} {c:Addr},(Xl env l cs).lookup x=some c->(x,NameKind.free) ∈ l\/cs.lookup x=some c
 | [],cs,x,c,h=>.inr h
 | (n,k) :: r,cs,x,c,h=>by
  unfold Xl at h
  rcases Qmi r _ h with h | h
  ·exact .inl (jY _ h)
  ·by_cases hk:k=.free
   ·rw [if_pos hk,zW] at h
    cases hx:x == n with
    | true =>
     have e1:x=n:=by simpa using hx
     subst e1 hk
     exact .inl jX
    | false=>rw [hx] at h;exact .inr h
   ·rw [if_neg hk] at h
    exact .inr h
theorem Qku (names:List (Str × NameKind)):∀ (h:Heap) (acc:List (Str × Addr)) {x:Str} {c:Addr},(cellsFrom h.objs.size names acc).lookup x=some c->acc.lookup x=some c\/(pushCells h names).IsCell c none:=by
 induction names with
 | nil=>intro h acc x c e;exact .inl e
 | cons p r ih =>
  obtain ⟨y,k⟩:=p
  intro h acc x c e
  unfold cellsFrom at e
  unfold pushCells
  by_cases hk:(k == NameKind.cell)=true
  ·rw [if_pos hk] at e ⊢
   have:=ih (h.push { cls:=.type "cell",data:=.cell none }) ((y,h.objs.size) :: acc) (x:=x) (c:=c) (by rw [wY];exact e)
   rcases this with e2 | e2
   ·rw [zW] at e2
    cases hx:x == y with
    | true =>
     rw [hx] at e2
     have e3:h.objs.size=c:=Option.some.inj e2
     subst e3
     exact .inr ⟨_,pushCells_keeps r _ _ _ (kW _ rfl),rfl⟩
    | false=>rw [hx] at e2;exact .inl e2
   ·exact .inr e2
  ·rw [if_neg hk] at e ⊢
   exact ih h acc e
theorem Qga {M:Model} {A:Around} {E:Value->Shared->Prop} {s:Shared} {scope:Scope} {globals:Addr} {closure:List (Str × Addr)} {qual:Str} {env:Env} {Q:Env->Shared->Prop}
  (hQ:Q { scope:=scope,locals:=s.heap.objs.size,globals:=globals,cells:=cellsFrom (s.heap.objs.size + 1) scope.names closure,qual:=qual,func:=none,code:=env.code,frame:=env.frame,builtins:=env.builtins } { s with heap:=pushCells (s.heap.push { cls:=.type "dict",data:=.dict #[] }) scope.names }) :
  wpAny M A (newFunctionEnv scope globals closure [] qual none .none (some env)) Q E s:=by
 simp only [newFunctionEnv,Option.isSome_some,if_true]
 refine jZ (wpAny_alloc ?_)
 refine jZ (wpAny_layCells _ (fun name kind cells=>by cases hkc:kind == NameKind.cell <;> simp [hkc]) _ _ _ _ ?_)
 rw [show ({ s with heap:=s.heap.push { cls:=.type "dict",data:=.dict #[] } }:Shared).heap.objs.size=s.heap.objs.size + 1 from wY ..]
 refine jZ ?_
 rw [List.forIn_nil]
 exact kJ (kJ hQ)
def Kl (scope:Scope):Bool:=scope.names.all fun p=>scope.names.lookup p.1 == some p.2
theorem Wb {scope:Scope} (h:Kl scope=true) {x:Str} {k:NameKind} (hm:(x,k) ∈ scope.names):scope.names.lookup x=some k:=by
 have:=wJ.mp h _ hm
 simpa using this
def Wc (X:Cx) (scope:Scope) (L:Addr):List (Str × Addr):=cellsFrom (L + 1) scope.names (Xl X.env scope.names [])
def Xf (X:Cx) (N:List Str) (scope:Scope) (fp:List Addr) (H:Hp) (s:Shared):Cx :=
 { X with N:=N,s₀:=s,H₀:=H,env:=compEnvC scope (Wc X scope s.heap.objs.size) s.heap.objs.size X.env,outer:=X.stack,stack:=X.stack,ex:=fp,fn:=fun y=>scope.names.lookup y == some .cell,pn:=[],xe:=fun _ _=>False }
section
variable {X:Cx}
theorem Qdp {pins:List (Addr × Obj)} {σ:St} {H:Hp} {s:Shared} {N:List Str} {scope:Scope} {fp:List Addr} (I:Inv X pins σ H s) (hf:∀ b ∈ fp,FpOk X pins H b) (hlt:∀ b ∈ fp,b < s.heap.objs.size) (hk:scope.kind=.function)
  (hone:Kl scope=true) (hfree:freeOk X.env.scope scope.names=true):(Xf X N scope fp H s).Ok:=by
 have has:∀ n,(n,NameKind.free) ∈ scope.names->∃ c,X.env.cells.lookup n=some c:=fun n hn=>I.ok.has n (Xr hfree n hn)
 have sub:∀ x c,(Xl X.env scope.names []).lookup x=some c->X.env.cells.lookup x=some c:=Zb _ _ has fun x c e=>by simp at e
 have old:∀ x c,(Xl X.env scope.names []).lookup x=some c->c < s.heap.objs.size:=fun x c e=>by obtain ⟨v,z⟩:=I.cell x c (sub x c e);exact z.lt
 have fs:∀ b ∈ fp,b ∉ frs X.stack:=fun b hb z=>by
  obtain ⟨_,f1,f2,_⟩:=hf b hb
  rcases jJ.mp (I.stkSub b z) with e | e
  ·exact f1 e
  ·exact f2 e
 refine ⟨I.ok.mod,hk,I.ok.glob,I.ok.blt,kQ _,fun x y c h1 h2=>?_,fun x hx=>?_,fun x c h e=>?_,I.ok.hd,I.ok.frames,.inl rfl,fun b hb=>⟨yJ (hlt b hb),fun x c e=>?_⟩,
  I.bs,xW I.ok.bsz I.sz,fun b o e hb=>?_,fs,I.stack,I.stkFree⟩
 ·exact Qia scope.names (s.heap.objs.size + 1) _ (fun x c e=>wW (old x c e)) (fun x y c e1 e2=>I.ok.inj x y c (sub x c e1) (sub y c e2)) x y c h1 h2
 ·have hx':(scope.names.map fun (n,k)=>if (k == NameKind.free && X.env.scope.kind == .function && X.env.kindOf n == some .cell) then (n,NameKind.cell) else (n,k)).lookup x=some .cell \/
    (scope.names.map fun (n,k)=>if (k == NameKind.free && X.env.scope.kind == .function && X.env.kindOf n == some .cell) then (n,NameKind.cell) else (n,k)).lookup x=some .free:=hx
  have fr:scope.names.lookup x=some .cell\/(x,NameKind.free) ∈ scope.names:=by
   rcases hx' with e | e
   ·obtain ⟨k0,e0,z | z⟩:=Xk e
    ·subst z
     exact .inl e0
    ·obtain ⟨_,z⟩:=z
     subst z
     exact .inr (lookup_mem e0)
   ·obtain ⟨k0,e0,z | z⟩:=Xk e
    ·subst z
     exact .inr (lookup_mem e0)
    ·exact nomatch z.1
  refine jXc.mp (PySem.W.cellsFrom_some scope.names _ _ ?_)
  rcases fr with e | e
  ·exact .inl e
  ·exact .inr (Zc _ _ x (.inr e))
 ·have h':scope.names.lookup x=some .cell:=by simpa using (show (scope.names.lookup x == some .cell)=true from h)
  rcases Wa scope.names _ _ e with ⟨_,z⟩ | z
  ·exact kQb z
  ·rcases Qmi _ _ z with z | z
   ·rw [Wb hone z] at h';cases h'
   ·simp at z
 ·rcases Wa scope.names _ _ e with ⟨_,z⟩ | z
  ·exact fun y=>absurd (hlt b hb) (by rw [← y];exact Nat.not_lt.mpr (kQb z))
  ·exact (hf b hb).2.2.2.2.1 x c (sub x c z)
 ·obtain ⟨_,_,_,f3,_⟩:=hf b hb
  rcases f3 with z | z
  ·exact I.ok.noex b o e z
  ·exact absurd (zX (kX (I.ok.bs b o e).1) z) (jQc _)
theorem Qgb {pins:List (Addr × Obj)} {σ:St} {H:Hp} {s:Shared} {N:List Str} {scope:Scope} {fp:List Addr} {cp:List (Option Nat)} {h':Heap} {m:Str->Option Value} {t':Nat} (I:Inv X pins σ H s) (hf:∀ b ∈ fp,FpOk X pins H b) (hlt:∀ b ∈ fp,b < s.heap.objs.size) (hk:scope.kind=.function)
  (hone:Kl scope=true) (hfree:freeOk X.env.scope scope.names=true) (hcap:Jb X scope N cp=true)
  (hns:h'.Ns s.heap.objs.size m) (hx:∀ b o,s.heap.get? b=some o->h'.get? b=some o) (hnew:∀ x c,(Wc X scope s.heap.objs.size).lookup x=some c->(Xl X.env scope.names []).lookup x=some c\/h'.IsCell c none):Inv (Xf X N scope fp H s) [] (Ja cp σ) H { s with heap:=h',toks:=t' }:=by
 have has:∀ n,(n,NameKind.free) ∈ scope.names->∃ c,X.env.cells.lookup n=some c:=fun n hn=>I.ok.has n (Xr hfree n hn)
 have sub:∀ x c,(Xl X.env scope.names []).lookup x=some c->X.env.cells.lookup x=some c:=Zb _ _ has fun x c e=>by simp at e
 refine ⟨Qdp I hf hlt hk hone hfree,rfl,I.bare,⟨fun b o e n _ _=>hx b o e,fun b o e n _ _=>⟨o.slots,hx b o e⟩,fun b o e n _=>n,fun b o e _=>⟨o,hx b o e⟩,fun b xs e=>e,fun b o xs e=>e,fun b ps e=>⟨#[],by rw [jKe];exact e⟩⟩,⟨m,hns,fun i x v e1 e2 e3=>?_⟩,fun x c e=>?_,I.hok.fresh (kQ _),fun x c e=>?_,(fun p hp=>nomatch hp),I.hok.kept hx,?_⟩
 ·obtain ⟨j,h1,h2,h3⟩:=Vv hcap e1 e2
  obtain ⟨m',_,hl⟩:=I.loc
  have hkx:=Xr hfree x (lookup_mem h3)
  obtain ⟨u,r,l⟩:=hl j x v h1 h2 (.inr hkx)
  rcases l with ⟨l,_⟩ | ⟨_,c,hc,hcell'⟩
  ·rcases hkx with z | z
   ·exact nomatch (Option.some.inj (l.symm.trans z))
   ·exact nomatch (Option.some.inj (l.symm.trans z))
  ·obtain ⟨c',hc'⟩:=jXc.mp (Zc (env:=X.env) scope.names [] x (.inr (lookup_mem h3)))
   have ec:=sub x c' hc'
   rw [hc] at ec
   cases ec
   have hcb:(Wc X scope s.heap.objs.size).lookup x=some c:=by
    unfold Wc
    rw [Qib scope.names _ _ fun z=>?_]
    ·exact hc'
    ·rw [Wb hone z] at h3;cases h3
   refine ⟨u,r,.inr ⟨?_,c,hcb,?_⟩⟩
   ·rcases e3 with z | z | z
    ·obtain ⟨k0,e0,y | y⟩:=Xk (show (scope.names.map fun (n,k)=>if (k == NameKind.free && X.env.scope.kind == .function && X.env.kindOf n == some .cell) then (n,NameKind.cell) else (n,k)).lookup x=some .local from z)
     ·rw [h3] at e0;cases e0;cases y
     ·exact nomatch y.1
    ·exact .inl z
    ·exact .inr z
   ·obtain ⟨o,ho,hd⟩:=hcell'
    exact ⟨o,hx c o ho,hd⟩
 ·rcases hnew x c e with z | z
  ·obtain ⟨v,o,ho,hd⟩:=I.cell x c (sub x c z)
   exact ⟨v,o,hx c o ho,hd⟩
  ·exact ⟨none,z⟩
 ·rcases Wa scope.names _ _ e with ⟨_,z⟩ | z
  ·exact I.hok.fresh (kQb z)
  ·exact I.freeC x c (sub x c z)
 ·show (Ja cp σ).length=N.length
  unfold Ja
  rw [jK]
  exact Vu hcap
theorem Qco {pins:List (Addr × Obj)} {σ σ':St} {H H':Hp} {s s':Shared} {N:List Str} {scope:Scope} {fp:List Addr} {pins':List (Addr × Obj)} (I:Inv X pins σ H s) (hf:∀ b ∈ fp,FpOk X pins H b)
  (J:Inv (Xf X N scope fp H s) pins' σ' H' s'):Inv X pins σ H' s' :=
 I.call' (ch:=fp) J.os J.base J.hok J.bare fun b hb=>⟨(hf b hb).2.2.2.1,(hf b hb).2.1,(hf b hb).2.2.2.2.1,(hf b hb).2.2.2.2.2⟩
theorem Qcp {elt iter target:Expr} {ifs:List Expr} {scope:Scope} {pos:Pos} {N:List Str} {cp:List (Option Nat)} {g:TG} {tt:TT} {te:TE} {pins:List (Addr × Obj)} {σ:St} {H:Hp} {s:Shared} {E:Value->Shared->Prop} {Q:Addr->Hp->Prop}
  {it:Addr} {fp:List Addr} {tn:Nat->Heap->Prop} {J:It} {RR:Value->Addr->Result->Shared->Prop} (hc:X.calm=true) (hk:scope.kind=.function) (hone:Kl scope=true) (hfree:freeOk X.env.scope scope.names=true) (hcap:Jb X scope N cp=true)
  (hg:∀ fp H s,PG (Xf X N scope fp H s) target g) (ht:∀ fp H s,PF (Xf X N scope fp H s) ifs tt) (he:∀ fp H s,PE (Xf X N scope fp H s) elt te)
  (I:Inv X pins σ H s) (T:Turn X.prog X.w X.K target J fp it tn) (st:tn 0 s.heap) (hf:∀ b ∈ fp,FpOk X pins H b)
  (h:∀ D,H D=none->LcW J D (Ja cp σ) H g tt te Q)
  (hRR:∀ D C s' H' m,Inv X pins σ H' s'->FpOk X pins H' C->s'.heap.Ns C m->Q D H'->RR (.ref D) C (.ok .next) s') :
  wpAny (model X.prog X.w) X.A (newList []) (fun acc s3=>wpAny (model X.prog X.w) X.A (newFunctionEnv scope X.env.globals (Xl X.env scope.names []) [] X.env.qual none .none (some X.env)) (fun cenv s4 =>
   codeAny (model X.prog X.w) X.A (.compStart (.ListComp elt [⟨target,iter,ifs,0⟩] scope pos) 0 (.ref it) acc { cenv with scope:=relabel scope X.env }) (RR acc cenv.locals) s4) E s3) E s:=by
 have hlt:∀ b ∈ fp,b < s.heap.objs.size:=fun b hb=>by
  obtain ⟨o,e,_⟩:=T.obj _ _ st b hb
  exact kX e
 refine wpAny_newObj_type (Qga ?_)
 have hD:H s.heap.objs.size=none:=I.hok.fresh (kQ _)
 have I3:Inv X pins σ (upd H s.heap.objs.size (.lst [])) { s with heap:=s.heap.push { cls:=.type "list",dict:=none,data:=.seq ([]:List Value).toArray } } :=
  I.laid (t':=s.toks) (fun b u e=>jV _ e) (kQ _) ⟨wX _,[],0,.nil,kW _ rfl⟩
 have hf3:∀ b ∈ fp,FpOk X pins (upd H s.heap.objs.size (.lst [])) b:=fun b hb=>⟨by rw [Ql (yJ (hlt b hb))];exact (hf b hb).1,(hf b hb).2⟩
 have hlt3:∀ b ∈ fp,b < (s.heap.push { cls:=.type "list",dict:=none,data:=.seq ([]:List Value).toArray }).objs.size:=fun b hb=>by rw [wY];exact wW (hlt b hb)
 generalize hH2:s.heap.push { cls:=.type "list",dict:=none,data:=.seq ([]:List Value).toArray }=H2 at I3 hlt3 ⊢
 generalize hs3:({ s with heap:=H2 }:Shared)=s3 at I3
 have hs3h:s3.heap=H2:=by rw [← hs3]
 have hns1:(pushCells (H2.push { cls:=.type "dict",data:=.dict #[] }) scope.names).Ns H2.objs.size (fun _=>none):=(Heap.Ns.new H2 (.type "dict")).keeps (pushCells_keeps _ _)
 have hnew:∀ x c,(Wc X scope s3.heap.objs.size).lookup x=some c->(Xl X.env scope.names []).lookup x=some c\/(pushCells (H2.push { cls:=.type "dict",data:=.dict #[] }) scope.names).IsCell c none:=fun x c e=>by
  rw [hs3h] at e
  exact Qku scope.names (H2.push { cls:=.type "dict",data:=.dict #[] }) _ (by rw [wY];exact e)
 have ext1:∀ b o,s3.heap.get? b=some o->(pushCells (H2.push { cls:=.type "dict",data:=.dict #[] }) scope.names).get? b=some o:=fun b o e=>by
  rw [hs3h] at e
  exact pushCells_keeps _ _ _ _ (jV _ e)
 generalize hh1:pushCells (H2.push { cls:=.type "dict",data:=.dict #[] }) scope.names=h1 at hns1 hnew ext1
 have J0:Inv (Xf X N scope fp (upd H s.heap.objs.size (.lst [])) s3) [] (Ja cp σ) (upd H s.heap.objs.size (.lst [])) { s3 with heap:=h1,toks:=s.toks } :=
  Qgb I3 hf3 (by rw [hs3h];exact hlt3) hk hone hfree hcap (by rw [hs3h];exact hns1) ext1 hnew
 have st1:tn 0 h1:=T.keep _ _ _ st fun b hb o e=>ext1 b o (by rw [hs3h,← hH2];exact jV _ e)
 obtain ⟨W,⟨m0,w0⟩,turn⟩:=h s.heap.objs.size hD
 have stat:∀ {H':Hp},(∀ b ∈ fp,H' b=none)->∀ b ∈ fp,FpOk (Xf X N scope fp (upd H s.heap.objs.size (.lst [])) s3) [] H' b:=fun {H'} hn b hb =>
  ⟨hn b hb,(J0.ok.exf b hb).1,J0.ok.exfs b hb,.inl hb,(J0.ok.exf b hb).2,fun p hp=>nomatch hp⟩
 have loop:codeAny (model X.prog X.w) X.A (.compLoop (.ListComp elt [⟨target,iter,ifs,0⟩] scope pos) 0 (.ref it) (.ref s.heap.objs.size) (compEnvC scope (Wc X scope H2.objs.size) H2.objs.size X.env))
   (RR (.ref s.heap.objs.size) H2.objs.size) { s3 with heap:=h1,toks:=s.toks }:=by
  have eEnv:compEnvC scope (Wc X scope H2.objs.size) H2.objs.size X.env=(Xf X N scope fp (upd H s.heap.objs.size (.lst [])) s3).env:=by
   rw [← hs3h];rfl
  rw [eEnv]
  refine Ky (fun n s'=>∃ i τ ys H',Inv (Xf X N scope fp (upd H s.heap.objs.size (.lst [])) s3) [] τ H' s'/\tn i s'.heap/\(∀ b ∈ fp,H' b=none)/\W i n τ ys H') ?_ m0 ⟨0,Ja cp σ,[],_,J0,st1,fun b hb=>(hf3 b hb).1,w0⟩
  rintro n s4 ⟨i,τ,ys,H4,I4,st4,fr4,w4⟩
  obtain ⟨hD4,hh⟩:=turn i n τ ys H4 w4
  rcases hh with ⟨stop,qn⟩ | ⟨go,hlen,N1,N2,hN1,hN2,step⟩
  ·refine thn (T.done (Xf X N scope fp (upd H s.heap.objs.size (.lst [])) s3) rfl rfl rfl hc i [] s4 τ H4 _ I4 (stat fr4) st4 stop) fun r s5 hqP=>?_
   obtain ⟨hr,I5⟩:=hqP
   subst hr
   obtain ⟨m,hm,_⟩:=I5.loc
   have e5:H2.objs.size=(Xf X N scope fp (upd H s.heap.objs.size (.lst [])) s3).env.locals:=by rw [← eEnv];rfl
   refine hRR _ _ s5 H4 m (Qco I3 hf3 I5) ?_ (by rw [e5];exact hm) qn
   exact I3.fpOk (by rw [hs3h];exact kQ _) (by rw [e5];exact I5.free)
  ·refine thn (T.item (Xf X N scope fp (upd H s.heap.objs.size (.lst [])) s3) rfl rfl rfl hc i [] s4 τ H4 _ I4 (stat fr4) st4 go) fun r s5 hqP=>?_
   obtain ⟨u,hr,h5⟩:=hqP
   subst hr
   refine thn h5 fun _ s6 hqP=>?_
   obtain ⟨x,H6,I6,r6,y6,st6,fr6⟩:=hqP
   have I6':=I6.pinned (stat fr6) (T.obj _ _ st6)
   refine thn (hg fp _ _ _ s6 τ H6 x u _ I6' r6 (step x H6 y6)) fun _ s7 hqP=>?_
   obtain ⟨σ7,H7,I7,q7⟩:=hqP
   refine thn (ht fp _ _ _ s7 σ7 H7 _ I7 q7) fun ok s8 hqP=>?_
   obtain ⟨H8,I8,q8⟩:=hqP
   have back:∀ {σ':St} {H':Hp} {s':Shared},Inv (Xf X N scope fp (upd H s.heap.objs.size (.lst [])) s3) ([] ++ Qab fp s6.heap) σ' H' s'->Inv (Xf X N scope fp (upd H s.heap.objs.size (.lst [])) s3) [] σ' H' s'/\tn (i + 1) s'.heap/\∀ b ∈ fp,H' b=none:=fun {σ' H' s'} I'=>by
    refine ⟨I'.unpinned,T.keep _ _ _ st6 fun b hb o e=>(I'.pin (b,o) (yY _ (yY _ (Yx hb e)))).1,fun b hb=>?_⟩
    obtain ⟨o,e,d⟩:=T.obj _ _ st6 b hb
    exact (I'.pin (b,o) (yY _ (yY _ (Yx hb e)))).2.1
   cases ok with
   | false =>
    rw [if_neg kK] at q8 ⊢
    obtain ⟨m',hm,w8⟩:=hN2 _ _ q8
    obtain ⟨b1,b2,b3⟩:=back I8
    exact ⟨m',hm,i + 1,σ7,ys,H8,b1,b2,b3,w8⟩
   | true =>
    rw [if_pos rfl] at q8 ⊢
    refine thn (he fp _ _ _ s8 σ7 H8 _ I8 q8) fun y s9 hqP=>?_
    obtain ⟨v,H9,I9,r9,hD9,n9⟩:=hqP
    obtain ⟨m',hm,w9⟩:=hN1 _ _ _ n9
    refine thn (Xc _ s9 σ7 H9 (.ref s.heap.objs.size) [v] (.ref s.heap.objs.size) [y] (fun _ H'=>H'=upd H9 s.heap.objs.size (.lst (ys ++ [v]))) I9 rfl (.cons r9 .nil) ⟨_,ys,v,rfl,rfl,hD9,hlen,rfl⟩) fun _ s10 hqP=>?_
    obtain ⟨_,H10,I10,_,e10⟩:=hqP
    subst e10
    obtain ⟨b1,b2,b3⟩:=back I10
    exact ⟨m',hm,i + 1,σ7,_,_,b1,b2,b3,w9⟩
 subst hs3
 subst hh1
 exact codeAny_compStart_list loop (T.self _ 0 _ _ _ st1 loop)
theorem Qcq {elt iter target:Expr} {ifs:List Expr} {scope:Scope} {pos:Pos} (N:List Str) (cp:List (Option Nat)) {wi:TI} {g:TG} {tt:TT} {te:TE} (hc:X.calm=true) (hi:PI X target iter wi)
  (hg:∀ fp H s,PG (Xf X N scope fp H s) target g) (ht:∀ fp H s,PF (Xf X N scope fp H s) ifs tt) (he:∀ fp H s,PE (Xf X N scope fp H s) elt te)
  (hk:autoParam (scope.kind=.function) L2.aRfl._auto_1) (hone:autoParam (Kl scope=true) L2.aRfl._auto_1) (hfree:autoParam (freeOk X.env.scope scope.names=true) L2.aRfl._auto_1) (hcap:autoParam (Jb X scope N cp=true) L2.aRfl._auto_1)
  (hnames:autoParam ((scope.names.all fun p=>p.2 != .local || scope.names.lookup p.1 == some .local)=true) L2.aRfl._auto_1) (hs:autoParam (∀ x,foldedSetIterable iter X.env x=pure x) L2.aIrf._auto_1) :
  PE X (.ListComp elt [⟨target,iter,ifs,0⟩] scope pos) (fun σ H Q=>tLC cp wi g tt te σ H fun D H'=>Q (.ref D) H'):=by
 intro pins s σ H Q I h
 rw [eval_ListComp]
 have has:∀ n,(n,NameKind.free) ∈ scope.names->∃ c,X.env.cells.lookup n=some c:=fun n hn=>I.ok.has n (Xr hfree n hn)
 refine wpAny_comprehension_free (use:=none) rfl hs (Ys has) hk (fun x hx hl=>?_) (thn (hi pins s σ H _ I h) fun xv s1 h1=>thn h1 fun itv s2 h2=>?_)
 ·have:=wJ.mp hnames x hx
  simp only [kQf,bne_iff_ne,beq_iff_eq] at this
  exact this.resolve_left fun z=>z hl
 ·obtain ⟨it,fp,tn,J,H2,e,I2,T,st2,f2,hW⟩:=h2
  subst e
  refine Qcp (N:=N) (cp:=cp) hc hk hone hfree hcap hg ht he I2 T st2 f2 hW fun D C s' H' m I' fC hm q=>⟨m,hm,fun h' hsb=>?_⟩
  exact ⟨.ref D,H',I'.turned (t':=s'.toks) (fun b o hb e=>hsb.extBut b o hb e) fC.1 fC.2.1 fC.2.2.2.1 fC.2.2.2.2.1 fC.2.2.2.2.2,rfl,q⟩
theorem Jf {i:Nat} {x:Str} {px:Pos} {elt iter target:Expr} {ifs:List Expr} {scope:Scope} {pos spos:Pos} (N:List Str) (cp:List (Option Nat)) {wi:TI} {g:TG} {tt:TT} {te:TE} (hc:X.calm=true) (hN:X.N.Nodup) (hi':X.N[i]?=some x) (hx:Loc X.env.scope x) (hi:PI X target iter wi)
  (hg:∀ fp H s,PG (Xf X N scope fp H s) target g) (ht:∀ fp H s,PF (Xf X N scope fp H s) ifs tt) (he:∀ fp H s,PE (Xf X N scope fp H s) elt te)
  (hsw:autoParam (swapsWith (.ListComp elt [⟨target,iter,ifs,0⟩] scope pos) (some (.Name x px)) spos.line X.env=pure true) L2.aRfl._auto_1)
  (hk:autoParam (scope.kind=.function) L2.aRfl._auto_1) (hone:autoParam (Kl scope=true) L2.aRfl._auto_1) (hfree:autoParam (freeOk X.env.scope scope.names=true) L2.aRfl._auto_1) (hcap:autoParam (Jb X scope N cp=true) L2.aRfl._auto_1)
  (hnames:autoParam ((scope.names.all fun p=>p.2 != .local || scope.names.lookup p.1 == some .local)=true) L2.aRfl._auto_1) (hs:autoParam (∀ x,foldedSetIterable iter X.env x=pure x) L2.aIrf._auto_1)
  (hf:autoParam (X.fn x=true\/X.env.scope.names.lookup x=some .local) L2.aFst._auto_1) :
  PS X (.Assign [.Name x px] (.ListComp elt [⟨target,iter,ifs,0⟩] scope pos) spos) (fun D σ H=>tLC cp wi g tt te σ H fun a H'=>D.nx (σ.set i (some (.ref a))) H'):=by
 intro pins s σ H D I h
 have has:∀ n,(n,NameKind.free) ∈ scope.names->∃ c,X.env.cells.lookup n=some c:=fun n hn=>I.ok.has n (Xr hfree n hn)
 rw [exec_Assign_Name_used _ _ _ _ hsw]
 refine jZ (wpAny_standAt (jZ ?_))
 show wpAny _ _ (do let _ ← comprehension (.ListComp elt [⟨target,iter,ifs,0⟩] scope pos) scope X.env _ (newList []) false (eval iter X.env) (some (assign (.Name x px) X.env))) _ _ s
 refine jZ (wpAny_mono (wpAny_comprehension_free (use:=some (assign (.Name x px) X.env)) (Q:=fun _ s'=>SP X pins D .next s') rfl hs (Ys has) hk (fun x hx hl=>?_)
  (thn (hi pins s σ H _ I h) fun xv s1 h1=>thn h1 fun itv s2 h2=>?_)) (fun _ s' hq=>kJ (kJ hq)) fun _ _ e=>e)
 ·have:=wJ.mp hnames x hx
  simp only [kQf,bne_iff_ne,beq_iff_eq] at this
  exact this.resolve_left fun z=>z hl
 ·obtain ⟨it,fp,tn,J,H2,e,I2,T,st2,f2,hW⟩:=h2
  subst e
  refine Qcp (N:=N) (cp:=cp) hc hk hone hfree hcap hg ht he I2 T st2 f2 hW fun D' C s' H' m I' fC hm q=>?_
  show wpAny _ _ (assign (.Name x px) X.env (.ref D')) _ _ _
  refine wpAny_assign_Name (Qbx I' hN hi' hx (v:=.ref D') rfl (fun s'' I'' hsb=>?_) hf)
  obtain ⟨a,hsb,ha⟩:=hsb
  have hCa:C ≠ a:=by
   rcases ha with e | e
   ·rw [e];exact fC.2.1
   ·exact fun z=>fC.2.2.2.2.1 x a e z.symm
  refine ⟨m,hm.sameBut hsb hCa,fun h' hsb'=>?_⟩
  exact ⟨_,H',I''.turned (t':=s''.toks) (fun b o hb e=>hsb'.extBut b o hb e) fC.1 fC.2.1 fC.2.2.2.1 fC.2.2.2.2.1 fC.2.2.2.2.2,q⟩
end
end L2
namespace L2
open PySem PySem.W PyProof.Rows
end L2
namespace L2
open PySem PySem.Spec PySem.W PyProof.Rows
open PySem.SeqAt
end L2
namespace L2
open PySem PySem.Spec PyProof.Rows PySem.W
structure Tab (w:World) (K:Frag) (mg:Str->Option Value) (x:Str) (a:Addr) (f:Str->Option Value):Prop where
 bound:mg x=some (.ref a)
 map:∀ (P:Program) (h:Heap),K.In h->h.MapOf (strKind P w) a f
 low:(a == sysModules)=false
theorem tab_mk {w:World} {K:Frag} {mg:Str->Option Value} {x:Str} {a:Addr} {es:Array DictEntry} {n:Nat} (hb:mg x=some (.ref a)) (hl:K.lookup a=some ⟨.type "dict",none,.dict es n,#[]⟩) (hk:KeysLit w.params es.toList) (lo:(a == sysModules)=false) :
  Tab w K mg x a (fun k=>findBy Value.isStrOf es k):=⟨hb,fun P h X=>mapOf_K (prog:=P) X hl hk,lo⟩
def rTab (a:Addr) (f:Str->Option Value):R2:=fun x y H Q=>∃ s v z,x=.ref a/\y=.str s/\f s=some v/\RelV z v/\Q z H
section
variable {X:Cx}
theorem Qic {x:Str} {a:Addr} {f:Str->Option Value} {i:Expr} {ti:TE} {p:Pos} (T:Tab X.w X.K X.mg x a f) (hi:PE X i ti) (hg:autoParam (Gl X x) L2.aRfl._auto_1) (hd:autoParam ((x == ("__debug__":Str))=false) L2.aDec._auto_1) :
  PC X .NotIn i (.Name x p) (fun σ H Q=>ti σ H fun y H1=>∃ s,y=.str s/\Q (.bl (!(f s).isSome)) H1):=by
 intro pins s σ H Q I h
 refine thn (hi pins s σ H _ I h) fun iv s1 ⟨y,H1,I1,ry,z,ey,q1⟩=>thn (Zj (v:=.ref a) hg T.bound rfl hd pins s1 σ H1 (fun v H2=>v=.ref a/\H2=H1) I1 ⟨rfl,rfl⟩) fun u s2 hqP=>?_
 obtain ⟨x2,H2,I2,rx,e1,e2⟩:=hqP
 subst ey e1 e2
 cases rx
 obtain ⟨t,rfl⟩:=ry
 exact wpAny_notIn_of (knd:=strKind X.prog X.w) (strKind_is X.prog X.w z t) T.low (T.map X.prog _ I2.kIn) ⟨.bl _,H2,I2.tok _,rfl,q1⟩
theorem ix_tab {x:Str} {a:Addr} {f:Str->Option Value} (T:Tab X.w X.K X.mg x a f):IxR X (rTab a f):=by
 intro value slice pins s σ H x y v u Q I rx ry h hs
 obtain ⟨z,w',r,rfl,rfl,hf,rv,q⟩:=h
 cases rx
 obtain ⟨t,rfl⟩:=ry
 have hm:=T.map X.prog _ I.kIn
 exact tail_any hm.typeIs slot_dict_getitem.lookup (wpAny_getItem_of (strKind_is X.prog X.w z t) hm hf ⟨r,H,I.tok _,rv,q⟩) hs
end
theorem Qmj:bootBuiltins "str"=some (.type "str"):=by decide +kernel
end L2
namespace L2
open PySem PySem.Spec PySem.W PyProof.Rows
open PySem.SeqAt
end L2
namespace HT
open PySem PySem.Spec PyProof.Rows
end HT
namespace L2
open PySem PySem.Spec PySem.W PyProof.Rows
open PySem.SeqAt
end L2
namespace L2
open PySem
section
variable {X:Cx}
theorem Qdq {a b c es} {te:TE} {t:TA} (ha:PE X (.Constant a b c) te) (hr:PA X es t):PA X (.Constant a b c :: es) (Qap te t):=Qa ha hr
theorem Qnx {a b es} {te:TE} {t:TA} (ha:PE X (.List a b) te) (hr:PA X es t):PA X (.List a b :: es) (Qap te t):=Qa ha hr
theorem Qkv {a b c d es} {te:TE} {t:TA} (ha:PE X (.BinOp a b c d) te) (hr:PA X es t):PA X (.BinOp a b c d :: es) (Qap te t):=Qa ha hr
theorem Qcr {a b c es} {te:TE} {t:TA} (ha:PE X (.Subscript a b c) te) (hr:PA X es t):PA X (.Subscript a b c :: es) (Qap te t):=Qa ha hr
end
section
variable {X:Cx}
@[irreducible] def QE (X:Cx) (e:Expr) (t:TE):Prop:=PE X e t
@[irreducible] def QA (X:Cx) (es:List Expr) (t:TA):Prop:=PA X es t
@[irreducible] def QS (X:Cx) (st:Stmt) (t:TS):Prop:=PS X st t
@[irreducible] def QSs (X:Cx) (st:List Stmt) (t:TS):Prop:=PSs X st t
theorem QE.of {e:Expr} {t:TE} (h:PE X e t):QE X e t:=by unfold QE;exact h
theorem QE.pe {e:Expr} {t:TE} (h:QE X e t):PE X e t:=by unfold QE at h;exact h
theorem QA.of {es:List Expr} {t:TA} (h:PA X es t):QA X es t:=by unfold QA;exact h
theorem QA.pa {es:List Expr} {t:TA} (h:QA X es t):PA X es t:=by unfold QA at h;exact h
theorem QS.of {st:Stmt} {t:TS} (h:PS X st t):QS X st t:=by unfold QS;exact h
theorem QS.ps {st:Stmt} {t:TS} (h:QS X st t):PS X st t:=by unfold QS at h;exact h
theorem QSs.of {st:List Stmt} {t:TS} (h:PSs X st t):QSs X st t:=by unfold QSs;exact h
theorem QSs.pss {st:List Stmt} {t:TS} (h:QSs X st t):PSs X st t:=by unfold QSs at h;exact h
theorem Ka:QA X [] tNil:=.of Qg
theorem Xn {a b c es} {te:TE} {t:TA} (ha:QE X (.Constant a b c) te) (hr:QA X es t):QA X (.Constant a b c :: es) (Qap te t):=.of (Qdq ha.pe hr.pa)
theorem Wd {a b es} {te:TE} {t:TA} (ha:QE X (.List a b) te) (hr:QA X es t):QA X (.List a b :: es) (Qap te t):=.of (Qnx ha.pe hr.pa)
theorem Qeq {a b c d es} {te:TE} {t:TA} (ha:QE X (.BinOp a b c d) te) (hr:QA X es t):QA X (.BinOp a b c d :: es) (Qap te t):=.of (Qkv ha.pe hr.pa)
theorem Qcs {a b c es} {te:TE} {t:TA} (ha:QE X (.Subscript a b c) te) (hr:QA X es t):QA X (.Subscript a b c :: es) (Qap te t):=.of (Qcr ha.pe hr.pa)
theorem Kb {es:List Expr} {t:TA} {pos:Pos} (h:QA X es t):QE X (.List es pos) (tLst t):=.of (Xi h.pa)
theorem Qny:QSs X [] Qne:=.of Qt
theorem Jg {st:Stmt} {rest:List Stmt} {t u:TS} (h1:QS X st t) (h2:QSs X rest u):QSs X (st :: rest) (tSeq t u):=.of (Qe h1.ps h2.pss)
theorem Qdr {st:Stmt} {t:TS} (h1:QS X st t):QSs X [st] t:=.of (Qi h1.ps)
theorem Qid {i:Nat} {x:Str} {e:Expr} {te:TE} {pos pos':Pos} (hN:X.N.Nodup) (hi:X.N[i]?=some x) (hx:Loc X.env.scope x) (he:QE X e te) (hs:autoParam (swapsWith e (some (.Name x pos')) pos.line X.env=pure false) L2.aRfl._auto_1) (hf:autoParam (X.fn x=true\/X.env.scope.names.lookup x=some .local) L2.aFst._auto_1) :
  QS X (.Assign [.Name x pos'] e pos) (tAsg te (Js i)):=.of (Qs hN hi hx he.pe hs hf)
theorem Qmk {e:Expr} {te:TE} {pos:Pos} (he:QE X e te):QS X (.Return (some e) pos) (tRet te):=.of (Xa he.pe)
theorem qs_if {c:Expr} {a b:List Stmt} {t u:TS} {tc:TT} {pos:Pos} (hc:PT X c tc) (ha:QSs X a t) (hb:QSs X b u):QS X (.If c a b pos) (tIfS tc t u):=.of (Xm hc ha.pss hb.pss)
theorem lenS {α:Type} {l:List α} {n:Nat} (h:l.length=n + 1):∃ a t,l=a :: t/\t.length=n:=by
 cases l with
 | nil=>exact absurd h (Nat.succ_ne_zero n).symm
 | cons a t=>exact ⟨a,t,rfl,Nat.succ.inj h⟩
theorem len1 {α:Type} {l:List α} (h:l.length=1):∃ a,l=[a]:=by
 obtain ⟨a,t,rfl,h'⟩:=lenS h
 exact ⟨a,congrArg _ (jQa.mp h')⟩
theorem len2 {α:Type} {l:List α} (h:l.length=2):∃ a b,l=[a,b]:=by
 obtain ⟨a,t,rfl,h'⟩:=lenS h
 obtain ⟨b,rfl⟩:=len1 h'
 exact ⟨a,b,rfl⟩
theorem len3 {α:Type} {l:List α} (h:l.length=3):∃ a b c,l=[a,b,c]:=by
 obtain ⟨a,t,rfl,h'⟩:=lenS h
 obtain ⟨b,c,rfl⟩:=len2 h'
 exact ⟨a,b,c,rfl⟩
theorem len4 {α:Type} {l:List α} (h:l.length=4):∃ a b c d,l=[a,b,c,d]:=by
 obtain ⟨a,t,rfl,h'⟩:=lenS h
 obtain ⟨b,c,d,rfl⟩:=len3 h'
 exact ⟨a,b,c,d,rfl⟩
theorem len5 {α:Type} {l:List α} (h:l.length=5):∃ a b c d e,l=[a,b,c,d,e]:=by
 obtain ⟨a,t,rfl,h'⟩:=lenS h
 obtain ⟨b,c,d,e,rfl⟩:=len4 h'
 exact ⟨a,b,c,d,e,rfl⟩
theorem bind1 {F:List Value->Prop} (h:∀ a,F [a]):∀ us:List Value,us.length=1->F us:=fun us hl=>by
 obtain ⟨a,rfl⟩:=len1 hl
 exact h a
theorem We {F:List Value->Prop} (h:∀ a b,F [a,b]):∀ us:List Value,us.length=2->F us:=fun us hl=>by
 obtain ⟨a,b,rfl⟩:=len2 hl
 exact h a b
theorem Qgc {F:List Value->Prop} (h:∀ a b c,F [a,b,c]):∀ us:List Value,us.length=3->F us:=fun us hl=>by
 obtain ⟨a,b,c,rfl⟩:=len3 hl
 exact h a b c
theorem bind4 {F:List Value->Prop} (h:∀ a b c d,F [a,b,c,d]):∀ us:List Value,us.length=4->F us:=fun us hl=>by
 obtain ⟨a,b,c,d,rfl⟩:=len4 hl
 exact h a b c d
theorem bind5 {F:List Value->Prop} (h:∀ a b c d e,F [a,b,c,d,e]):∀ us:List Value,us.length=5->F us:=fun us hl=>by
 obtain ⟨a,b,c,d,e,rfl⟩:=len5 hl
 exact h a b c d e
theorem Kc {s1 s2 s3:TS} {D:Ends} {σ:St} {H:Hp} (h:let r3:TS:=s3;let r2:TS:=tSeq s2 r3;tSeq s1 r2 D σ H):(tSeq s1 (tSeq s2 (s3))) D σ H:=h
theorem Qba {s1 s2 s3 s4:TS} {D:Ends} {σ:St} {H:Hp} (h:let r4:TS:=s4;let r3:TS:=tSeq s3 r4;let r2:TS:=tSeq s2 r3;tSeq s1 r2 D σ H):(tSeq s1 (tSeq s2 (tSeq s3 (s4)))) D σ H:=h
theorem Kd {s1 s2 s3 s4 s5:TS} {D:Ends} {σ:St} {H:Hp} (h:let r5:TS:=s5;let r4:TS:=tSeq s4 r5;let r3:TS:=tSeq s3 r4;let r2:TS:=tSeq s2 r3;tSeq s1 r2 D σ H):(tSeq s1 (tSeq s2 (tSeq s3 (tSeq s4 (s5))))) D σ H:=h
theorem Qkw {s1 s2 s3 s4 s5 s6 s7:TS} {D:Ends} {σ:St} {H:Hp} (h:let r7:TS:=s7;let r6:TS:=tSeq s6 r7;let r5:TS:=tSeq s5 r6;let r4:TS:=tSeq s4 r5;let r3:TS:=tSeq s3 r4;let r2:TS:=tSeq s2 r3;tSeq s1 r2 D σ H):(tSeq s1 (tSeq s2 (tSeq s3 (tSeq s4 (tSeq s5 (tSeq s6 (s7))))))) D σ H:=h
theorem Qkx {s1 s2 s3 s4 s5 s6 s7 s8 s9:TS} {D:Ends} {σ:St} {H:Hp} (h:let r9:TS:=s9;let r8:TS:=tSeq s8 r9;let r7:TS:=tSeq s7 r8;let r6:TS:=tSeq s6 r7;let r5:TS:=tSeq s5 r6;let r4:TS:=tSeq s4 r5;let r3:TS:=tSeq s3 r4;let r2:TS:=tSeq s2 r3;tSeq s1 r2 D σ H):(tSeq s1 (tSeq s2 (tSeq s3 (tSeq s4 (tSeq s5 (tSeq s6 (tSeq s7 (tSeq s8 (s9))))))))) D σ H:=h
end
end L2
namespace L2
open PySem PySem.Spec PyProof.Rows PySem.W
end L2
namespace Nb
open PySem L2
def top (i:Nat):Stmt:=PySem.Challenge.pw_nonebetter_k80_whole_desk.main.body.getD i (.Pass ⟨0,0,0,0⟩)
abbrev Qer:Stmt:=top 148
abbrev Vg:Stmt:=top 149
def NmOk (x:Str):Prop:=1<=x.length/\x.length<=12/\∀ c ∈ x.cps.toList,97<=c/\c<=122
inductive BR where
 | days (n:Int)
 | bench (b:Str) (r:Int)
 | shut (b:Str) (f t:Int)
 | store (s:Str) (m f:Int)
 | work (w:Str)
 | way (w v:Str) (l c:Int)
 | use (k:Fin 3) (w v t:Str) (m:Int)
 | after (w x:Str) (g:Int)
 | late (w:Str) (d c:Int)
def useW:Fin 3->Str
 | 0=>"uses"
 | 1=>"takes"
 | 2=>"gives"
def BR.word:BR->Str
 | .days _=>"days"
 | .bench _ _=>"bench"
 | .shut _ _ _=>"shut"
 | .store _ _ _=>"store"
 | .work _=>"work"
 | .way _ _ _ _=>"way"
 | .use k _ _ _ _=>useW k
 | .after _ _ _=>"after"
 | .late _ _ _=>"late"
def BR.names:BR->List Str
 | .days _=>[]
 | .bench b _=>[b]
 | .shut b _ _=>[b]
 | .store s _ _=>[s]
 | .work w=>[w]
 | .way w v _ _=>[w,v]
 | .use _ w v t _=>[w,v,t]
 | .after w x _=>[w,x]
 | .late w _ _=>[w]
def BR.nums:BR->List Int
 | .days n=>[n]
 | .bench _ r=>[r]
 | .shut _ f t=>[f,t]
 | .store _ m f=>[m,f]
 | .work _=>[]
 | .way _ _ l c=>[l,c]
 | .use _ _ _ _ m=>[m]
 | .after _ _ g=>[g]
 | .late _ d c=>[d,c]
def BR.key (r:BR):List Key:=Sum.inr r.word :: r.names.map Sum.inr
def BR.cells (r:BR):List Key:=r.key ++ r.nums.map Sum.inl
def BR.gn (r:BR):Prop:=∀ x ∈ r.names,NmOk x
def BR.needs:BR->List (List Key)
 | .days _=>[]
 | .bench _ _=>[[Sum.inr "days"]]
 | .shut b _ _=>[[Sum.inr "bench",Sum.inr b]]
 | .store _ _ _=>[[Sum.inr "days"]]
 | .work _=>[[Sum.inr "days"]]
 | .way w _ _ _=>[[Sum.inr "work",Sum.inr w]]
 | .use 0 w v t _=>[[Sum.inr "way",Sum.inr w,Sum.inr v],[Sum.inr "bench",Sum.inr t]]
 | .use _ w v t _=>[[Sum.inr "way",Sum.inr w,Sum.inr v],[Sum.inr "store",Sum.inr t]]
 | .after w x _=>[[Sum.inr "work",Sum.inr w],[Sum.inr "work",Sum.inr x]]
 | .late w _ _=>[[Sum.inr "work",Sum.inr w]]
def Said (S:List BR) (k:List Key):Prop:=∃ q ∈ S,q.key=k
theorem Said.mono {S S':List BR} {k:List Key} (h:Said S k) (f:∀ q ∈ S,q ∈ S'):Said S' k:=by
 obtain ⟨q,hq,e⟩:=h
 exact ⟨q,f q hq,e⟩
def Qgd (r q:BR):Prop:=r.word="shut"\/q.word="shut"\/r.key ≠ q.key
theorem Qge {r q:BR} (h:r.word ≠ q.word):Qgd r q:=.inr (.inr fun z=>h (by injection z with z1;injection z1))
def BR.kind:BR->Nat
 | .days _=>0
 | .bench _ _=>1
 | .shut _ _ _=>2
 | .store _ _ _=>3
 | .work _=>4
 | .way _ _ _ _=>5
 | .use k _ _ _ _=>6 + k.val
 | .after _ _ _=>9
 | .late _ _ _=>10
def wordOf:Nat->Str
 | 0=>"days"
 | 1=>"bench"
 | 2=>"shut"
 | 3=>"store"
 | 4=>"work"
 | 5=>"way"
 | 6=>"uses"
 | 7=>"takes"
 | 8=>"gives"
 | 9=>"after"
 | _=>"late"
theorem Yo (r:BR):r.word=wordOf r.kind:=by
 cases r with
 | use k _ _ _ _=>match k with | 0=>rfl | 1=>rfl | 2=>rfl
 | _=>rfl
theorem Yu (r:BR):r.kind < 11:=by
 cases r with
 | use k _ _ _ _=>show 6 + k.val < 11;lia
 | days n=>show (0:Nat) < 11;decide
 | bench b r=>show (1:Nat) < 11;decide
 | shut b f t=>show (2:Nat) < 11;decide
 | store b m f=>show (3:Nat) < 11;decide
 | work w=>show (4:Nat) < 11;decide
 | way w v l c=>show (5:Nat) < 11;decide
 | after w x g=>show (9:Nat) < 11;decide
 | late w d c=>show (10:Nat) < 11;decide
theorem Zo:∀ i,i < 11->∀ j,j < 11->wordOf i=wordOf j->i=j:=by decide +kernel
theorem Jh (r:BR) {k:Nat} (hk:k < 11):r.word=wordOf k ↔ r.kind=k:=⟨fun h=>Zo _ (Yu r) _ hk (by rw [← Yo];exact h),fun h=>by rw [Yo,h]⟩
theorem Qgf {r q:BR} (h:r.kind ≠ q.kind):Qgd r q:=Qge fun z=>h (Zo _ (Yu r) _ (Yu q) (by rw [← Yo,← Yo];exact z))
theorem Qbb {r:BR} (h:r.kind=5):∃ w v l c,r=.way w v l c:=by
 cases r with
 | way w v l c=>exact ⟨w,v,l,c,rfl⟩
 | use k _ _ _ _=>exact absurd (show 6 + k.val=5 from h) (by lia)
 | _=>exact nomatch h
theorem Ke {r:BR} (h:r.kind=4):∃ w,r=.work w:=by
 cases r with
 | work w=>exact ⟨w,rfl⟩
 | use k _ _ _ _=>exact absurd (show 6 + k.val=4 from h) (by lia)
 | _=>exact nomatch h
theorem Wf {r:BR} (h:r.kind=10):∃ w d c,r=.late w d c:=by
 cases r with
 | late w d c=>exact ⟨w,d,c,rfl⟩
 | use k _ _ _ _=>exact absurd (show 6 + k.val=10 from h) (by lia)
 | _=>exact nomatch h
theorem Ji {r:BR} (h:r.kind=9):∃ w x g,r=.after w x g:=by
 cases r with
 | after w x g=>exact ⟨w,x,g,rfl⟩
 | use k _ _ _ _=>exact absurd (show 6 + k.val=9 from h) (by lia)
 | _=>exact nomatch h
theorem Qgg {r:BR} (h:r.word="after"):∃ w x g,r=.after w x g:=Ji ((Jh r (k:=9) (by decide)).mp h)
def fl (x:Str):Nat:=x.cps.getD 0 0
def RowsB (H:Hp) (vs:List V) (B:List BR):Prop:=RowsL H vs (B.map BR.cells)
theorem Km (r:BR):atI (r.cells.map kV) 0=some (.str r.word):=by cases r <;> rfl
theorem RowsB.get {H:Hp} {vs:List V} {B:List BR} (h:RowsB H vs B) {i:Nat} {v:V} (e:vs[i]?=some v):∃ r l,B[i]?=some r/\v=.ref l/\H l=some (.lst (r.cells.map kV)):=by
 obtain ⟨ks,e1,l,e2,h1⟩:=paired_get h e
 rw [xJ] at e1
 obtain ⟨r,e3,e4⟩:=jXf.mp e1
 exact ⟨r,l,e3,e2,by rw [e4];exact h1⟩
theorem RowsB.imp {H H':Hp} {vs:List V} {B:List BR} (h:RowsB H vs B) (f:∀ l (r:BR),V.ref l ∈ vs->H l=some (.lst (r.cells.map kV))->H' l=some (.lst (r.cells.map kV))):RowsB H' vs B:=by
 unfold RowsB at h ⊢
 induction B generalizing vs with
 | nil=>cases h;exact .nil
 | cons r B ih =>
  cases h with
  | cons z t =>
   obtain ⟨l,e,h1⟩:=z
   exact .cons ⟨l,e,f l r (by rw [e];exact jX) h1⟩ (ih t fun l r hm=>f l r (jY _ hm))
theorem RowsB.same {H H':Hp} {vs:List V} {B:List BR} (h:RowsB H vs B) (s:Same H H'):RowsB H' vs B:=h.imp fun _ _ _ z=>s _ _ z
theorem RowsB.length {H:Hp} {vs:List V} {B:List BR} (h:RowsB H vs B):vs.length=B.length:=by
 have:=Paired.length h
 rwa [jK] at this
theorem RowsB.snoc {H:Hp} {vs:List V} {B:List BR} {r:BR} {l:Addr} (h:RowsB H vs B) (z:H l=some (.lst (r.cells.map kV))):RowsB H (vs ++ [.ref l]) (B ++ [r]):=by
 unfold RowsB at h ⊢
 rw [xY]
 exact Paired.snoc h ⟨l,rfl,z⟩
theorem Qgh {α β:Type} {R:α->β->Prop} {xs xs':List α} {ys ys':List β} (h1:Paired R xs ys) (h2:Paired R xs' ys'):Paired R (xs ++ xs') (ys ++ ys'):=by
 induction h1 with
 | nil=>exact h2
 | cons z _ ih=>exact .cons z ih
theorem RowsB.app {H:Hp} {vs vs':List V} {B B':List BR} (h:RowsB H vs B) (h':RowsB H vs' B'):RowsB H (vs ++ vs') (B ++ B'):=by
 unfold RowsB at h h' ⊢
 rw [xY]
 exact Qgh h h'
theorem Wg {α β:Type} {R:α->β->Prop}:∀ {xs:List α} {ys:List β} (n:Nat),Paired R xs ys->Paired R (xs.take n) (ys.take n)
 | _,_,0,_=>.nil
 | _,_,_ + 1,.nil=>.nil
 | _,_,n + 1,.cons z t=>.cons z (Wg n t)
theorem Wh {α β:Type} {R:α->β->Prop}:∀ {xs:List α} {ys:List β} (n:Nat),Paired R xs ys->Paired R (xs.drop n) (ys.drop n)
 | _,_,0,h=>h
 | _,_,_ + 1,.nil=>.nil
 | _,_,n + 1,.cons _ t=>Wh n t
theorem RowsB.take {H:Hp} {vs:List V} {B:List BR} (n:Nat) (h:RowsB H vs B):RowsB H (vs.take n) (B.take n):=by
 unfold RowsB at h ⊢
 rw [List.map_take]
 exact Wg n h
theorem RowsB.drop {H:Hp} {vs:List V} {B:List BR} (n:Nat) (h:RowsB H vs B):RowsB H (vs.drop n) (B.drop n):=by
 unfold RowsB at h ⊢
 rw [List.map_drop]
 exact Wh n h
def Qky (ys:List V):Prop:=∀ s r,ys ≠ V.str s :: r
theorem RowsB.noRow {H:Hp} {vs:List V} {B:List BR} (h:RowsB H vs B):Qky vs:=fun s r e=>by
 subst e
 obtain ⟨_,_,_,e,_⟩:=h.get (i:=0) (v:=.str s) rfl
 cases e
theorem Jj {ys:List V} (h:Qky ys) (r:BR):r.cells.map kV ≠ ys:=fun e=>h r.word (r.cells.map kV).tail (by rw [← e];cases r <;> rfl)
theorem RowsB.updL {H:Hp} {vs:List V} {B:List BR} {g:Addr} {ys zs:List V} (h:RowsB H vs B) (hg:H g=some (.lst ys)) (n:Qky ys):RowsB (upd H g (.lst zs)) vs B:=h.imp fun l r _ z=>by
 rw [Ql (Qam z hg fun e=>Jj n r (HO.lst.inj e))]
 exact z
structure Dr (K:Fg) (H:Hp) (l:Addr) (ds:List Int):Prop where
 lst:SqL K H l (ds.map V.int)
 pos:∀ d ∈ ds,0<=d/\d < 2147483648
theorem Dr.same {K:Fg} {H H':Hp} {l:Addr} {ds:List Int} (h:Dr K H l ds) (e:Same H H'):Dr K H' l ds:=⟨e.seq h.lst,h.pos⟩
theorem Dr.get {K:Fg} {H:Hp} {l:Addr} {ds:List Int} (h:Dr K H l ds) (k:Int) (h0:0<=k) (h1:k < (ds.length:Int)):∃ z:Int,atI (ds.map V.int) k=some (.int z)/\0<=z/\z < 2147483648:=by
 have hk:k.toNat < ds.length:=by lia
 have ek:k=((k.toNat:Nat):Int):=by lia
 have q:atI (ds.map V.int) ((k.toNat:Nat):Int)=some (.int ds[k.toNat]):=Zn (by rw [xJ,gE hk];rfl)
 rw [← ek] at q
 exact ⟨_,q,h.pos _ (List.getElem_mem hk)⟩
def Qie (K:Fg):Sp:=fun vs H Q _=>∃ (a:Addr) (ns:List Int) (k:Int),vs=[.ref a,.int k]/\SqL K H a (ns.map V.int)/\0<=k/\k<=1000/\∀ z:Int,0<=z->z < 2147483648->Q (.int z) H
def Qct (K:Fg):Sp:=fun vs H Q _=>∃ (a:Addr) (ns:List Int) (m:Nat),vs=[.ref a,.int (m:Int)]/\SqL K H a (ns.map V.int)/\m<=1000/\∀ (l:Addr) (ds:List Int) (H':Hp),ds.length=m->Same H H'->Dr K H' l ds->Q (.ref l) H'
theorem Qbc {t1 t2:TS} {D:Ends} {σ:St} {H:Hp} (Pv:St->Hp->Prop) (h2:∀ σ' H',Pv σ' H'->t2 D σ' H') (h1:(∀ σ' H',Pv σ' H'->t2 D σ' H')->t1 { D with nx:=t2 D } σ H):tSeq t1 t2 D σ H:=h1 h2
theorem Qbd {t1 t2:TS} {D:Ends} {i:Nat} {x:V} {σ:St} {H:Hp} (Pv:St->Hp->Prop) (h2:∀ σ' H',Pv σ' H'->t2 D σ' H') (h1:(∀ σ' H',Pv σ' H'->t2 D σ' H')->t1 { D with nx:=t2 D } (σ.set i (some x)) H):Js i x σ H ({ D with nx:=tSeq t1 t2 D }:Ends).nx:=h1 h2
section
variable {P:Program} {w:World} {K:Fg} {mg:Str->Option Value} {base:Heap}
theorem scMix10:FnScope ["_law_script","_law_k","_law_cell","_law_number"] ["_law_script","_law_k"] (Qh Qer):=⟨rfl,rfl,rfl,by decide +kernel,rfl,by decide +kernel,by decide +kernel⟩
theorem Qnz (F:Fn K mg "_law_mix" Qer) (M:Mg mg):Cal P w K mg base 1 "_law_mix" ["_law_script","_law_k"] (Qie K):=by
 refine Xv F scMix10 (fun _ _ _ _ _ _=>We (fun _ _=>rfl)) (fun vs H Q E h=>?_) (fun f cdv A outer s H vs Q E hr h=>?_)
 ·obtain ⟨a,ns,k,rfl,_⟩:=h
  rfl
 obtain ⟨a,ns,k,rfl,hS,h0,h1,q⟩:=h
 refine ⟨_,(Qe (Qs (i:=2) scMix10.nd rfl (Or.inl rfl) Qb)
  (Qe (Xm (Qr op_gt (Qm Qn rfl M.len Xp (Qa (pv 0) Qg)) Qb (Qu _)) (Qi (Qs (i:=2) scMix10.nd rfl (Or.inl rfl) (Qp Qk (pv 0) (Qj Qv (pv 1) (Qm (Zz rfl) rfl M.min Qcj (Qa Qb (Qa (Qm Qn rfl M.len Xp (Qa (pv 0) Qg)) Qg)))) (fun _ _=>rfl)))) Qt)
  (Qe (Qs (i:=3) scMix10.nd rfl (Or.inl rfl) (Qj Qv (Qj Qo (pv 2) (Qj Zm Qb (Qj Qo (pv 1) Qb))) Qb))
  (Qe (Qs (i:=3) scMix10.nd rfl (Or.inl rfl) (Qj Qv (Qj Qo (Qj Zm (pv 3) (pv 3)) (pv 1)) Qb))
  (Qi (Xa (Qj Qv (Qj Zm (pv 3) (pv 3)) Qb))))))),?_⟩
 refine Kd ?_
 intro rT5 rT4 rT3 rT2
 have fin:∀ x:Int,Q (.int (x % 2147483587)) H:=fun x=>q _ (zQ _ (by decide)) (Int.lt_trans (yZ _ (by decide)) (by decide))
 have b1:∀ x:Int,-(2 ^ 64) < x % 2147483629/\x % 2147483629 < 2 ^ 64:=fun x=>⟨by lia,by lia⟩
 refine ⟨_,rfl,a,_,rfl,.inl hS,_,_,rfl,rfl,_,rfl,ite2 (fun c=>?_) (fun c=>?_)⟩
 ·have c':(0:Int) < (((ns.map V.int).length:Nat):Int):=yK c
  have pm:(0:Int) < (if (((ns.map V.int).length:Nat):Int) < 63 then (((ns.map V.int).length:Nat):Int) else 63):=by split <;> lia
  have pl:(if (((ns.map V.int).length:Nat):Int) < 63 then (((ns.map V.int).length:Nat):Int) else 63)<=(((ns.map V.int).length:Nat):Int):=by split <;> lia
  obtain ⟨v3,hv3⟩:=atNs (ns:=ns) (k:=k % (if (((ns.map V.int).length:Nat):Int) < 63 then (((ns.map V.int).length:Nat):Int) else 63)) (zQ _ (Int.ne_of_gt pm)) (Int.lt_of_lt_of_le (yZ _ pm) pl)
  refine ⟨_,rfl,_,rfl,_,rfl,_,_,rfl,.inl hS,_,_,rfl,_,_,rfl,rfl,pm,_,_,_,_,rfl,rfl,hS,hv3,?_⟩
  exact ⟨_,rfl,_,rfl,_,_,rfl,rfl,_,_,rfl,rfl,.inl ⟨by decide,by decide⟩,_,_,rfl,rfl,_,_,rfl,rfl,(by show (0:Int) < _;decide +kernel),_,rfl,_,rfl,_,_,rfl,rfl,.inl (b1 _),_,rfl,_,_,rfl,rfl,_,_,rfl,rfl,(by show (0:Int) < _;decide +kernel),_,rfl,_,rfl,_,_,rfl,rfl,.inl (b1 _),_,_,rfl,rfl,(by show (0:Int) < _;decide +kernel),fin _⟩
 ·exact ⟨_,rfl,_,rfl,_,_,rfl,rfl,_,_,rfl,rfl,.inl ⟨by decide,by decide⟩,_,_,rfl,rfl,_,_,rfl,rfl,(by show (0:Int) < _;decide +kernel),_,rfl,_,rfl,_,_,rfl,rfl,.inl (b1 _),_,rfl,_,_,rfl,rfl,_,_,rfl,rfl,(by show (0:Int) < _;decide +kernel),_,rfl,_,rfl,_,_,rfl,rfl,.inl (b1 _),_,_,rfl,rfl,(by show (0:Int) < _;decide +kernel),fin _⟩
theorem Qoa {ds:List Int} {z:Int} (h:∀ d ∈ ds,0<=d/\d < 2147483648) (hz:0<=z/\z < 2147483648):∀ d ∈ ds ++ [z],0<=d/\d < 2147483648:=fun d hd=>by
 rcases yQ.mp hd with y | y
 ·exact h d y
 ·rw [jQ.mp y];exact hz
theorem scDraws10:FnScope ["_law_script","_law_many","_law_found","_law_k","_law_cell"] ["_law_script","_law_many"] (Qh Vg):=⟨rfl,rfl,rfl,by decide +kernel,rfl,by decide +kernel,by decide +kernel⟩
theorem Qif (F:Fn K mg "_law_draws" Vg) (M:Mg mg) (cl_mix:Cal P w K mg base 1 "_law_mix" ["_law_script","_law_k"] (Qie K)):Cal P w K mg base 2 "_law_draws" ["_law_script","_law_many"] (Qct K):=by
 refine Xv F scDraws10 (fun _ _ _ _ _ _=>We (fun _ _=>rfl)) (fun vs H Q E h=>?_) (fun f cdv A outer s H vs Q E hr h=>?_)
 ·obtain ⟨a,ns,m,rfl,_⟩:=h
  rfl
 obtain ⟨a,ns,m,rfl,hS,h1,q⟩:=h
 refine ⟨_,(Qe (Qs (i:=2) scDraws10.nd rfl (Or.inl rfl) (Xi Qg))
  (Qe (Xm (PW.pt (Wv (Qr Xy (Qm Qn rfl M.len Xp (Qa (pv 0) Qg)) Qb (Qu _)) (Vm (Qr Xy (Qj Qv (Qp Qk (pv 0) Qb (fun _ _=>rfl)) Qb) Qb (Qu _))))) (Qe (Yz PassesOwn.never rfl (Yp rfl M.range_ (Qa (pv 1) Qg)) (Xb (i:=3) scDraws10.nd rfl (Or.inl rfl) (Or.inl rfl)) (Qi (Xg (Zs PySem.F.plainAttrs_list PySem.F.slot_list_append PySem.F.type_list_append Xc (pv 2) (Qa (Xz cl_mix (hr.mono (by decide)) (Qa (pv 0) (Qa (pv 3) Qg))) Qg)))))
  (Qi (Xa (pv 2)))) Qt)
  (Qe (Qs (i:=4) scDraws10.nd rfl (Or.inl rfl) Qb)
  (Qe (Yz PassesOwn.never rfl (Yp rfl M.range_ (Qa (pv 1) Qg)) (Xb (i:=3) scDraws10.nd rfl (Or.inl rfl) (Or.inl rfl)) (Qe (Xm (Qr Xy (Qj Qv (pv 3) Qb) Qb (Qu _)) (Qe (Qs (i:=4) scDraws10.nd rfl (Or.inl rfl) Qb)
  (Qi (Xm (Qr Qhc (Qj Xh (pv 3) Qb) (Qm (Zz rfl) rfl M.min Qcj (Qa Qb (Qa (Qm Qn rfl M.len Xp (Qa (pv 0) Qg)) Qg))) (Qu _)) (Qi (Qs (i:=4) scDraws10.nd rfl (Or.inl rfl) (Qj Xh (Qp Qk (pv 0) (Qj Xh (pv 3) Qb) (fun _ _=>rfl)) Qb))) Qt))) Qt)
  (Qe (Xg (Zs PySem.F.plainAttrs_list PySem.F.slot_list_append PySem.F.type_list_append Xc (pv 2) (Qa (Qj Qv (pv 4) Qb) Qg)))
  (Qi (Qs (i:=4) scDraws10.nd rfl (Or.inl rfl) (Qj Xh (pv 4) Qb))))))
  (Qi (Xa (pv 2))))))),?_⟩
 refine Kd ?_
 intro rT5 rT4 rT3 rT2
 have hz:(2000:Nat) < sizeLine:=by decide
 refine ⟨by show 0<=sizeLine;decide,fun g hg0=>?_⟩
 have s0:=Qf hg0 (.lst [])
 refine ⟨_,rfl,a,_,rfl,.inl (s0.seq hS),rfl,_,rfl,ite2 (fun c=>iteT ?_) (fun c=>?_)⟩
 ·let Pv1:Nat->St->Hp->Prop:=fun i σ H1=>∃ (ds:List Int) (u:Option V),σ=[some (.ref a),some (.int (m:Int)),some (.ref g),u,none]/\ds.length=i/\H1 g=some (.lst (ds.map V.int))/\(∀ d ∈ ds,0<=d/\d < 2147483648)/\Same H H1
  refine ⟨_,rfl,(m:Int),rfl,by lia,by lia,Za (lo:=0) (n:=((m:Nat):Int).toNat) Pv1 ⟨[],none,rfl,rfl,Qd,(fun _ z=>nomatch z),s0⟩ ?_ ?_⟩
  ·rintro i σ H1 hi ⟨ds,u,rfl,rfl,hg,hp,s1⟩
   refine ⟨_,rfl,.inl ⟨rfl,_,Qc hg⟩,_,rfl,_,rfl,a,ns,_,rfl,s1.seq hS,by lia,by lia,fun z z0 z1=>⟨g,_,_,rfl,rfl,hg,by rw [jK];lia,?_⟩⟩
   exact ⟨ds ++ [z],_,rfl,by rw [jW];rfl,by rw [Qd,xY];rfl,Qoa hp ⟨z0,z1⟩,fun b o e=>by rw [Ql (Qq e hg0)];exact s1 _ _ e⟩
  ·rintro σ H1 ⟨ds,u,rfl,hl,hg,hp,s1⟩
   exact ⟨_,rfl,q g ds H1 (by lia) s1 ⟨Qc hg,hp⟩⟩
 have hpos:0 < ns.length:=by
  rcases Nat.eq_zero_or_pos ns.length with z | z
  ·exact absurd (yV (congrArg V.int (show (((ns.map V.int).length:Nat):Int)=0 by rw [jK,z];rfl))) c
  ·exact z
 obtain ⟨v0,hv0⟩:=atNs (ns:=ns) (k:=0) (Int.le_refl 0) (by rw [jK];lia)
 refine ⟨_,rfl,a,_,_,_,rfl,rfl,s0.seq hS,hv0,_,_,rfl,rfl,(by show (0:Int) < _;decide +kernel),rfl,_,rfl,ite2 (fun c2=>?_) (fun c2=>?_)⟩
 ·let Pv2:Nat->St->Hp->Prop:=fun i σ H1=>∃ (ds:List Int) (u:Option V),σ=[some (.ref a),some (.int (m:Int)),some (.ref g),u,none]/\ds.length=i/\H1 g=some (.lst (ds.map V.int))/\(∀ d ∈ ds,0<=d/\d < 2147483648)/\Same H H1
  refine ⟨_,rfl,(m:Int),rfl,by lia,by lia,Za (lo:=0) (n:=((m:Nat):Int).toNat) Pv2 ⟨[],none,rfl,rfl,Qd,(fun _ z=>nomatch z),s0⟩ ?_ ?_⟩
  ·rintro i σ H1 hi ⟨ds,u,rfl,rfl,hg,hp,s1⟩
   refine ⟨_,rfl,.inl ⟨rfl,_,Qc hg⟩,_,rfl,_,rfl,a,ns,_,rfl,s1.seq hS,by lia,by lia,fun z z0 z1=>⟨g,_,_,rfl,rfl,hg,by rw [jK];lia,?_⟩⟩
   exact ⟨ds ++ [z],_,rfl,by rw [jW];rfl,by rw [Qd,xY];rfl,Qoa hp ⟨z0,z1⟩,fun b o e=>by rw [Ql (Qq e hg0)];exact s1 _ _ e⟩
  ·rintro σ H1 ⟨ds,u,rfl,hl,hg,hp,s1⟩
   exact ⟨_,rfl,q g ds H1 (by lia) s1 ⟨Qc hg,hp⟩⟩
 have mx:(if (((ns.map V.int).length:Nat):Int) < 63 then (((ns.map V.int).length:Nat):Int) else 63)<=(((ns.map V.int).length:Nat):Int):=by split <;> lia
 let Pv3:Nat->St->Hp->Prop:=fun i σ H1=>∃ (ds:List Int) (u:Option V) (c:Int),σ=[some (.ref a),some (.int (m:Int)),some (.ref g),u,some (.int c)]/\ds.length=i/\H1 g=some (.lst (ds.map V.int))/\(∀ d ∈ ds,0<=d/\d < 2147483648)/\Same H H1
 refine ⟨_,rfl,(m:Int),rfl,by lia,by lia,Za (lo:=0) (n:=((m:Nat):Int).toNat) Pv3 ⟨[],none,0,rfl,rfl,Qd,(fun _ z=>nomatch z),s0⟩ ?_ ?_⟩
 ·rintro i σ H1 hi ⟨ds,u,c,rfl,rfl,hg,hp,s1⟩
  show tSeq _ _ _ _ _
  refine Qbc (fun σ' H'=>∃ c:Int,σ'=[some (.ref a),some (.int (m:Int)),some (.ref g),some (.int (0 + (ds.length:Int))),some (.int c)]/\H'=H1) ?_ fun REST=>?_
  ·rintro σ' H' ⟨c,rfl,rfl⟩
   refine ⟨_,rfl,.inl ⟨rfl,_,Qc hg⟩,_,rfl,_,_,rfl,rfl,(by show (0:Int) < _;decide +kernel),g,_,_,rfl,rfl,hg,by rw [jK];lia,?_⟩
   exact ⟨_,rfl,_,_,rfl,rfl,⟨by decide,by decide⟩,ds ++ [c % 5040],_,_,rfl,by rw [jW];rfl,by rw [Qd,xY];rfl,Qoa hp ⟨zQ _ (by decide),by have:=yZ c (show (0:Int) < 5040 by decide);lia⟩,fun b o e=>by rw [Ql (Qq e hg0)];exact s1 _ _ e⟩
  ·refine ⟨_,rfl,_,_,rfl,rfl,(by show (0:Int) < _;decide +kernel),rfl,_,rfl,ite2 (fun c1=>?_) (fun c1=>REST _ _ ⟨_,rfl,rfl⟩)⟩
   refine ⟨_,rfl,_,_,rfl,rfl,⟨by decide,by decide⟩,_,rfl,a,_,rfl,.inl (s1.seq hS),_,_,rfl,_,_,rfl,rfl,_,rfl,ite2 (fun c2=>?_) (fun c2=>REST _ _ ⟨_,rfl,rfl⟩)⟩
   have c3:=yK c2
   obtain ⟨v,hv⟩:=atNs (ns:=ns) (k:=(0 + (ds.length:Int)) / 30) (by lia) (Int.lt_of_lt_of_le c3 mx)
   exact ⟨_,rfl,_,rfl,_,_,rfl,rfl,⟨by decide,by decide⟩,a,_,_,_,rfl,rfl,s1.seq hS,hv,_,_,rfl,rfl,⟨by decide,by decide⟩,REST _ _ ⟨_,rfl,rfl⟩⟩
 ·rintro σ H1 ⟨ds,u,c,rfl,hl,hg,hp,s1⟩
  exact ⟨_,rfl,q g ds H1 (by lia) s1 ⟨Qc hg,hp⟩⟩
abbrev Qbe:Stmt:=top 150
theorem fl_app {x y:Str} (h:1<=x.length):fl (x ++ y)=fl x:=by
 show (x.cps ++ y.cps).getD 0 0=x.cps.getD 0 0
 have h':0 < x.cps.size:=h
 rw [Array.getD_eq_getD_getElem?,Array.getD_eq_getD_getElem?,Array.getElem?_append_left h']
theorem len_app (x y:Str):(x ++ y).length=x.length + y.length:=by
 show (x.cps ++ y.cps).size=_
 rw [Array.size_append]
 rfl
theorem atS {x:Str} {z:Int} (h0:0<=z) (h1:z < (x.length:Nat)):∃ c,atI x.cps.toList z=some c:=by
 have e:z=((z.toNat:Nat):Int):=by lia
 have h2:z.toNat < x.cps.toList.length:=by
  have h3:x.length=x.cps.toList.length:=by show x.cps.size=_;exact jQf.symm
  lia
 exact ⟨_,by rw [e];exact Qdk (gE h2)⟩
theorem Qob:("abcdefghijklmnopqrstuvwxyz":Str).length=26:=by decide +kernel
theorem let26:∀ c ∈ ("abcdefghijklmnopqrstuvwxyz":Str).cps.toList,97<=c/\c<=122:=by decide +kernel
theorem Qoc {α:Type} {xs:List α} {i:Int} {v:α} (h:atI xs i=some v):v ∈ xs:=by
 obtain ⟨j,_,h2,_⟩:=Qar h
 exact yX h2
theorem Qod (x y:Str):(x ++ y).cps.toList=x.cps.toList ++ y.cps.toList:=by
 show (x.cps ++ y.cps).toList=_
 rw [Array.toList_append]
theorem Qkz {f:Int} (h0:0<=f) (h1:f < 26):atI ("abcdefghijklmnopqrstuvwxyz":Str).cps.toList f=some (97 + f.toNat):=by
 have:∀ k:Fin 26,atI ("abcdefghijklmnopqrstuvwxyz":Str).cps.toList ((k.val:Nat):Int)=some (97 + k.val):=by decide +kernel
 have h:=this ⟨f.toNat,by lia⟩
 rw [show (((⟨f.toNat,by lia⟩:Fin 26).val:Nat):Int)=f by show ((f.toNat:Nat):Int)=f;lia] at h
 exact h
def Qbf:Sp:=fun vs H Q _=>∃ (k z:Int),vs=[.int k,.int z]/\∀ x:Str,fl x=97 + ((z + k) % 26).toNat->NmOk x->Q (.str x) H
theorem scName66:FnScope ["_law_k","_law_number","_law_letters","_law_found","_law_j"] ["_law_k","_law_number"] (Qh Qbe):=⟨rfl,rfl,rfl,by decide +kernel,rfl,by decide +kernel,by decide +kernel⟩
theorem Qla (F:Fn K mg "_law_name" Qbe) (M:Mg mg):Cal P w K mg base 1 "_law_name" ["_law_k","_law_number"] (Qbf):=by
 refine Xv F scName66 (fun _ _ _ _ _ _=>We (fun _ _=>rfl)) (fun vs H Q E h=>?_) (fun f cdv A outer s H vs Q E hr h=>?_)
 ·obtain ⟨k,z,rfl,_⟩:=h
  rfl
 obtain ⟨k,z,rfl,q⟩:=h
 refine ⟨_,(Qe (Qs (i:=2) scName66.nd rfl (Or.inl rfl) Qx)
  (Qe (Qs (i:=3) scName66.nd rfl (Or.inl rfl) (Qp Qmc (pv 2) (Qj Qv (Qj Qo (pv 1) (pv 0)) Qb) (fun _ _=>rfl)))
  (Qe (Qs (i:=1) scName66.nd rfl (Or.inl rfl) (Qj Xh (pv 1) Qb))
  (Qe (Yz PassesOwn.never rfl (Yp rfl M.range_ (Qa (Qj Qv (pv 1) Qb) Qg)) (Xb (i:=4) scName66.nd rfl (Or.inl rfl) (Or.inl rfl)) (Qe (Qs (i:=1) scName66.nd rfl (Or.inl rfl) (Qj Xh (pv 1) Qb))
  (Qi (Qs (i:=3) scName66.nd rfl (Or.inl rfl) (Qj Qfn (pv 3) (Qp Qmc (pv 2) (Qj Qv (pv 1) Qb) (fun _ _=>rfl)))))))
  (Qi (Xa (pv 3))))))),?_⟩
 refine Kd ?_
 intro rT5 rT4 rT3 rT2
 have hz:(20000:Nat) < sizeLine:=by decide
 refine ⟨_,rfl,_,rfl,_,rfl,_,_,rfl,rfl,_,_,rfl,rfl,(by show (0:Int) < _;decide +kernel),_,_,_,rfl,rfl,by rw [Qob];decide,Qkz (zQ _ (by decide)) (yZ _ (by decide)),?_⟩
 refine ⟨_,rfl,_,_,rfl,rfl,⟨by decide,by decide⟩,?_⟩
 have m0:=zQ (z / 26) (show (4:Int) ≠ 0 by decide)
 have m1:=yZ (z / 26) (show (0:Int) < 4 by decide)
 let Pv4:Nat->St->Hp->Prop:=fun i σ H1=>H1=H/\∃ (zz:Int) (x:Str) (v:Option V),σ=[some (.int k),some (.int zz),some (.str "abcdefghijklmnopqrstuvwxyz"),some (.str x),v]/\fl x=97 + ((z + k) % 26).toNat/\x.length=1 + i/\(∀ c ∈ x.cps.toList,97<=c/\c<=122)
 refine ⟨_,rfl,_,_,rfl,rfl,(by show (0:Int) < _;decide +kernel),z / 26 % 4,rfl,by lia,by lia,Za (lo:=0) (n:=(z / 26 % 4).toNat) Pv4 ⟨rfl,_,_,none,rfl,rfl,rfl,fun c hc=>by have e9:c=97 + ((z + k) % 26).toNat:=jQ.mp hc;lia⟩ ?_ ?_⟩
 ·rintro i σ H1 hi ⟨rfl,zz,x,v,rfl,hf,hx,hcs⟩
  refine ⟨_,rfl,_,_,rfl,rfl,⟨by decide,by decide⟩,?_⟩
  obtain ⟨c,ec⟩:=atS (x:="abcdefghijklmnopqrstuvwxyz") (z:=zz / 4 % 26) (by lia) (by rw [Qob];lia)
  refine ⟨_,rfl,_,rfl,_,rfl,_,_,rfl,rfl,(by show (0:Int) < _;decide +kernel),_,_,_,rfl,rfl,by rw [Qob];decide,ec,_,_,rfl,rfl,?_,rfl,_,_,_,rfl,?_,?_,fun c9 hc9=>?_⟩
  ·show x.length + 1<=sizeLine
   lia
  ·rw [fl_app (by lia)];exact hf
  ·rw [len_app,hx]
   show 1 + i + 1=1 + (i + 1)
   lia
  ·rw [Qod] at hc9
   rcases yQ.mp hc9 with h9 | h9
   ·exact hcs c9 h9
   ·rw [jQ.mp h9];exact let26 c (Qoc ec)
 ·rintro σ H1 ⟨rfl,zz,x,v,rfl,hf,hx,hcs⟩
  exact ⟨_,rfl,q x hf ⟨by lia,by lia,hcs⟩⟩
end
end Nb
namespace L2
open PySem PySem.Spec PyProof.Rows
def ItS (x:Str):It:=⟨fun i _=>i < x.cps.size,fun i H v H'=>H'=H/\∃ c,x.cps[i]?=some c/\v=.str ⟨#[c]⟩,fun i _=>x.cps.size<=i⟩
theorem Qlb {P:Program} {w:World} {K:Fg} {tg:Expr} {x:Str} {t:Tok} (it:Addr):Turn P w K tg (ItS x) [it] it (fun i h=>h.IsStrIter it "str_ascii_iterator" x t i) where
 mem:=jX
 obj:=fun i h st b hb=>by
  rw [jQ.mp hb]
  obtain ⟨o,e,_,d⟩:=st
  exact ⟨o,e,fun v z=>by rw [d] at z;cases z⟩
 keep:=fun i h h' ⟨o,e,r⟩ k=>⟨o,k it jX o e,r⟩
 item:=by
  intro X hP hw hK _ i pins s σ H E I hf st hg
  subst hP hw hK
  obtain ⟨f0,f1,f2,f3,f4,f5⟩:=hf it jX
  have hi:x.cps[i]?=some (x.cps[i]'hg):=Array.getElem?_eq_getElem hg
  refine wpAny_pyNext_ascii_item st hi fun h' st' sb=>?_
  have J:Inv X pins σ H { s with heap:=h',toks:=s.toks + 1 }:=I.turned (t':=s.toks + 1) (fun b o hb e=>(sb.2 b hb).trans e) f0 f1 f3 f4 f5
  obtain ⟨o,e,c,d⟩:=id st'
  exact ⟨_,rfl,Qjy (s:={ s with heap:=h',toks:=s.toks + 1 }) e c d (by decide) ⟨.str _,H,J,⟨_,rfl⟩,⟨rfl,_,hi,rfl⟩,st',fun b hb=>(hf b hb).1⟩⟩
 done:=by
  intro X hP hw hK hc i pins s σ H E I hf st hg
  subst hP hw hK
  obtain ⟨f0,f1,f2,f3,f4,f5⟩:=hf it jX
  refine wpAny_pyNext_ascii_end (I.ok.hd hc) st (Array.getElem?_eq_none hg) fun h' ex=>⟨rfl,I.turned (t':=s.toks) (fun b o hb e=>ex b o hb e) f0 f1 f3 f4 f5⟩
 self:=fun A i s Q E st q=>wpAny_pyIter_striter_ascii st q
section
variable {X:Cx} {tg:Expr}
theorem pi_str {l:Expr} {tl:TE} (hl:PE X l tl):PI X tg l (fun σ H R=>tl σ H fun v H1=>∃ x:Str,v=.str x/\x.cps.all (· < 128)=true/\R (ItS x) H1):=by
 intro pins s σ H R I h
 refine thn (hl pins s σ H _ I h) fun v s1 hqP=>?_
 obtain ⟨z,H1,I1,r1,q1⟩:=hqP
 obtain ⟨x,rfl,ha,q⟩:=q1
 obtain ⟨t,rfl⟩:=(show ∃ t,v=Value.str x t from r1)
 refine wpAny_pyIter_ascii ha ?_
 refine ⟨s1.heap.objs.size,[s1.heap.objs.size],_,_,H1,rfl,I1.kept (t':=s1.toks) fun b o e=>jV _ e,Qlb (t:=t) _,⟨_,kW _ rfl,rfl,rfl⟩,fun b hb=>?_,q⟩
 rw [jQ.mp hb]
 exact I1.fpOk (kQ _) (I1.hok.fresh (kQ _))
theorem Qcu:OpR X (compareOp .LtE) (fun a b H Q=>∃ i j,a=.str i/\b=.str j/\Q (.bl (!decide (j.cps.toList < i.cps.toList))) H):=by
 rintro pins s σ H a b u v Q I ra rb ⟨i,j,rfl,rfl,q⟩
 obtain ⟨t,rfl⟩:=(show ∃ t,u=Value.str i t from ra)
 obtain ⟨t',rfl⟩:=(show ∃ t',v=Value.str j t' from rb)
 exact PySem.P.le_str (Xj I q rfl)
end
end L2
namespace L2
open PySem PySem.Spec PyProof.Rows PySem.SeqAt
section
theorem Qlc {v:V} (h:Qcf v=true):eqV v v=true:=by
 cases v with
 | non=>rfl
 | bl b=>exact beq_self_eq_true b
 | int i=>exact beq_self_eq_true i
 | str x=>exact beq_self_eq_true x
 | _=>exact nomatch h
open PySem.W in
end
end L2
namespace Nb
open PySem L2
abbrev sg (x:Str):List Nat:=x.cps.toList
end Nb
namespace L2
open PySem PySem.Spec PyProof.Rows
theorem Yr {H H1:Hp} {D:Addr} {o:HO} (s:Same H H1) (hD:H D=none):Same H (upd H1 D o):=fun b u e=>by
 rw [Ql (Qq e hD)];exact s b u e
structure Walk {α:Type} (J:It) (H:Hp) (xs:List α) (val:α->V):Prop where
 go:∀ i H1,Same H H1->i < xs.length->J.go i H1
 stop:∀ H1,Same H H1->J.stop xs.length H1
 yl:∀ i H1 v H2,Same H H1->J.yld i H1 v H2->i < xs.length->H2=H1/\∃ x,xs[i]?=some x/\v=val x
theorem Ze {α:Type} {K:Fg} {H:Hp} {a:Addr} {xs:List α} {val:α->V} (h:SqL K H a (xs.map val)):Walk (Itl K a) H xs val where
 go i H1 s hi:=⟨_,_,s.seq h,gE (by rw [jK];exact hi)⟩
 stop H1 s:=⟨_,s.seq h,by rw [jK];exact kQ _⟩
 yl i H1 v H2 s:=by
  rintro ⟨rfl,e1⟩ hi
  have e:=e1 _ (s.seq h)
  rw [xJ] at e
  obtain ⟨x,ex,ev⟩:=jXf.mp e
  exact ⟨rfl,x,ex,ev.symm⟩
theorem Qes {α:Type} {K:Fg} {H:Hp} {a:Addr} {xs:List α} {val:α->V} (h:SqT K H a (xs.map val)):Walk (Itt K a) H xs val where
 go i H1 s hi:=⟨_,_,s.tup h,gE (by rw [jK];exact hi)⟩
 stop H1 s:=⟨_,s.tup h,by rw [jK];exact kQ _⟩
 yl i H1 v H2 s:=by
  rintro ⟨rfl,e1⟩ hi
  have e:=e1 _ (s.tup h)
  rw [xJ] at e
  obtain ⟨x,ex,ev⟩:=jXf.mp e
  exact ⟨rfl,x,ex,ev.symm⟩
theorem Qld {H:Hp} {x:Str}:Walk (ItS x) H x.cps.toList (fun c=>.str ⟨#[c]⟩) where
 go i H1 s hi:=by rw [jQf] at hi;exact hi
 stop H1 s:=by rw [jQf];exact kQ _
 yl i H1 v H2 s:=by
  rintro ⟨rfl,c,ec,ev⟩ hi
  exact ⟨rfl,c,by rw [Array.getElem?_toList];exact ec,ev⟩
theorem Kf {α:Type} {xs:List α} {i:Nat} {x:α} (h:xs[i]?=some x):xs.take (i + 1)=xs.take i ++ [x]:=by
 obtain ⟨hi,e⟩:=kZ.mp h
 rw [List.take_succ,h]
 rfl
theorem Qbg {α β:Type} {J:It} {H:Hp} {xs:List α} {val:α->V} {D:Addr} {cs τ0:St} {te:TE} {Q:Addr->Hp->Prop} (R:Hp->V->β->Prop) (f:α->β) (hτ:τ0=none :: cs) (hw:Walk J H xs val) (fw:xs.length < sizeLine) (hD:H D=none)
  (Rs:∀ {H1 H2 v x},Same H H1->Same H1 H2->R H1 v x->R H2 v x) (Ru:∀ {H1 v x zs},R H1 v x->R (upd H1 D (.lst zs)) v x)
  (hs:∀ x ∈ xs,∀ H1,Same H H1->H1 D ≠ none->∀ P:V->Hp->Prop,(∀ v H2,Same H1 H2->R H2 v (f x)->P v H2)->te (some (val x) :: cs) H1 P)
  (hd:∀ H1 ys,Same H H1->H1 D=some (.lst ys)->Paired (R H1) ys (xs.map f)->Q D H1) :
  LcW J D τ0 H (Js 0) tYes te Q:=by
 subst hτ
 let Pv5:Nat->St->List V->Hp->Prop:=fun i τ ys H1=>∃ v:Option V,τ=v :: cs/\H1 D=some (.lst ys)/\Same H H1/\i<=xs.length/\Paired (R H1) ys ((xs.take i).map f)
 refine Qhu (n:=xs.length) Pv5 ?_ (fun i τ ys H1 hi h=>?_) (fun i τ ys H1 hi h=>?_) (fun τ ys H1 h=>?_) ?_ ?_
 ·exact ⟨none,rfl,Qd,Qf hD _,wX _,.nil⟩
 ·obtain ⟨v,rfl,hD1,s1,_,hp⟩:=h
  refine ⟨hD1,?_⟩
  have:=Paired.length hp
  rw [jK,yW] at this
  lia
 ·obtain ⟨v,rfl,hD1,s1,_,hp⟩:=h
  exact hw.go i H1 s1 hi
 ·obtain ⟨v,rfl,hD1,s1,_,hp⟩:=h
  exact hw.stop H1 s1
 ·rintro i τ ys H1 x H2 hi ⟨v,rfl,hD1,s1,_,hp⟩ hy
  obtain ⟨rfl,y,ey,rfl⟩:=hw.yl i H1 x H2 s1 hy hi
  refine hs y (yX ey) _ s1 (by rw [hD1];exact xX _) _ fun v' H3 s3 r=>⟨s3 _ _ hD1,_,rfl,Qd,Yr (s1.trans s3) hD,hi,?_⟩
  rw [Kf ey,xY]
  have h1:Paired (R (upd H3 D (.lst (ys ++ [v'])))) ys ((xs.take i).map f):=by
   clear hD1
   generalize ((xs.take i).map f)=bs at hp
   generalize hz:(HO.lst (ys ++ [v']))=o
   have:∀ v b,R _ v b->R (upd H3 D o) v b:=fun v b h=>by rw [← hz];exact Ru (Rs s1 s3 h)
   clear hz
   induction hp with
   | nil=>exact .nil
   | cons z _ ih=>exact .cons (this _ _ z) ih
  exact Paired.snoc h1 (Ru r)
 ·rintro τ ys H1 ⟨v,rfl,hD1,s1,_,hp⟩
  rw [wV] at hp
  exact hd H1 ys s1 hD1 hp
theorem paired_map {α:Type} {g:α->V}:∀ {ys:List V} {xs:List α},Paired (fun v x=>v=g x) ys xs->ys=xs.map g
 | _,_,.nil=>rfl
 | _,_,.cons e t=>by rw [e,paired_map t];rfl
theorem Wi {α β:Type} {J:It} {H:Hp} {xs:List α} {val:α->V} {D:Addr} {cs τ0:St} {te:TE} {Q:Addr->Hp->Prop} (g:β->V) (f:α->β) (hτ:τ0=none :: cs) (hw:Walk J H xs val) (fw:xs.length < sizeLine) (hD:H D=none)
  (hs:∀ x ∈ xs,∀ H1,Same H H1->∀ P:V->Hp->Prop,(∀ H2,Same H1 H2->P (g (f x)) H2)->te (some (val x) :: cs) H1 P)
  (hd:∀ H1,Same H H1->H1 D=some (.lst ((xs.map f).map g))->Q D H1) :
  LcW J D τ0 H (Js 0) tYes te Q :=
 Qbg (fun _ v x=>v=g x) f hτ hw fw hD (fun _ _ h=>h) (fun h=>h) (fun x hx H1 s1 _ P h=>hs x hx H1 s1 P fun H2 s2=>h _ H2 s2 rfl) fun H1 ys s1 h1 h2=>hd H1 s1 (by rw [h1,paired_map h2])
theorem le1 (a b:Nat):(!decide (([b]:List Nat) < [a]))=decide (a<=b):=by
 rw [StrLaws.lt_cons_cons,StrLaws.lt_nil_nil,Bool.and_false,Bool.or_false]
 by_cases h:a<=b
 ·rw [yV h,zY (by lia)];rfl
 ·rw [zY h,yV (by lia)];rfl
end L2
namespace L2
open PySem PySem.Spec PyProof.Rows PySem.W
inductive TV where
 | non | int (i:Int) | str (x:Str) | tup (l:List TV)
def all2 {α β:Type} (p:α->β->Bool):List α->List β->Bool
 | [],[]=>true
 | a :: as,b :: bs=>p a b && all2 p as bs
 | _,_=>false
def chkV (K:Frag):Nat->TV->Value->Bool
 | _ + 1,.non,.none=>true
 | _ + 1,.int i,.int j _=>i == j
 | _ + 1,.str x,.str y _=>x == y
 | n + 1,.tup l,.ref a=>match K.lookup a with
  | some ⟨.type c,_,.seq its _,_⟩=>c == "tuple" && Nat.ble its.toList.length 100 && all2 (chkV K n) l its.toList
  | _=>false
 | _,_,_=>false
def TvAt (K:Frag):Nat->TV->V->Prop
 | 0,_,_=>False
 | _ + 1,.non,x=>x=.non
 | _ + 1,.int i,x=>x=.int i
 | _ + 1,.str s,x=>x=.str s
 | n + 1,.tup l,x=>∃ (a:Addr) (xs:List V),x=.ref a/\(∀ H,SqT K H a xs)/\Paired (fun x t=>TvAt K n t x) xs l
theorem Qml {K:Frag}:∀ {n:Nat} {t:TV} {v:Value},chkV K n t v=true->∃ x,RelV x v/\TvAt K n t x
 | 0,t,v,h=>by
  cases t <;> cases v <;> cases h
 | n + 1,.non,v,h=>by
  cases v with
  | none=>exact ⟨.non,rfl,rfl⟩
  | _=>cases h
 | n + 1,.int i,v,h=>by
  cases v with
  | int j t =>
   have e:i=j:=eq_of_beq h
   exact ⟨.int i,⟨t,by rw [e]⟩,rfl⟩
  | _=>cases h
 | n + 1,.str x,v,h=>by
  cases v with
  | str y t =>
   have e:x=y:=eq_of_beq h
   exact ⟨.str x,⟨t,by rw [e]⟩,rfl⟩
  | _=>cases h
 | n + 1,.tup l,v,h=>by
  cases v with
  | ref a =>
   have h':(match K.lookup a with
    | some ⟨.type c,_,.seq its _,_⟩=>c == "tuple" && Nat.ble its.toList.length 100 && all2 (chkV K n) l its.toList
    | _=>false)=true:=h
   split at h'
   ·rename_i c d its m sl hk
    rw [xQ,xQ] at h'
    obtain ⟨⟨h1,h2⟩,h3⟩:=h'
    have e1:c="tuple":=eq_of_beq h1
    have h2':its.toList.length<=100:=Nat.le_of_ble_eq_true h2
    have key:∀ (l:List TV) (us:List Value),all2 (chkV K n) l us=true->∃ xs,Vals xs us/\Paired (fun x t=>TvAt K n t x) xs l:=by
     intro l
     induction l with
     | nil =>
      intro us h
      cases us with
      | nil=>exact ⟨[],.nil,.nil⟩
      | cons _ _=>cases h
     | cons t l ih =>
      intro us h
      cases us with
      | nil=>cases h
      | cons u us =>
       have h5:(chkV K n t u && all2 (chkV K n) l us)=true:=h
       rw [xQ] at h5
       obtain ⟨x,r,hx⟩:=Qml h5.1
       obtain ⟨xs,rs,hxs⟩:=ih us h5.2
       exact ⟨x :: xs,.cons r rs,.cons hx hxs⟩
    obtain ⟨xs,rs,hxs⟩:=key l its.toList h3
    have hz:(100:Nat) < sizeLine:=by decide
    refine ⟨.ref a,rfl,a,xs,rfl,fun H=>.inr ⟨_,its,m,hk,by rw [e1],rfl,?_,rs⟩,hxs⟩
    rw [jQf] at h2'
    lia
   ·cases h'
  | _=>cases h
def Qmm (x:Str):Value->Bool
 | .str y _=>x == y
 | _=>false
def Qet (K:Frag) (n:Nat) (ts:List (Str × TV)) (es:List DictEntry):Bool:=all2 (fun t e=>Qmm t.1 e.key && chkV K n t.2 e.val) ts es
theorem Qbh {K:Frag} {n:Nat}:∀ {ts:List (Str × TV)} {es:List DictEntry},Qet K n ts es=true ->
  (∀ x t,ts.lookup x=some t->∃ v y,findBy Value.isStrOf ⟨es⟩ x=some v/\RelV y v/\TvAt K n t y)/\∀ x,ts.lookup x=none->findBy Value.isStrOf ⟨es⟩ x=none
 | [],[],_=>⟨fun x t h=>(nomatch h),fun x h=>rfl⟩
 | [],_ :: _,h=>nomatch h
 | _ :: _,[],h=>nomatch h
 | (k,t) :: ts,e :: es,h=>by
  have h':((Qmm k e.key && chkV K n t e.val) && Qet K n ts es)=true:=h
  rw [xQ,xQ] at h'
  obtain ⟨⟨h1,h2⟩,h3⟩:=h'
  obtain ⟨i1,i2⟩:=Qbh h3
  have hk:∃ tk,e.key=.str k tk:=by
   cases e5:e.key with
   | str y tk =>
    rw [e5] at h1
    exact ⟨tk,by rw [show k=y from eq_of_beq h1]⟩
   | _=>rw [e5] at h1;cases h1
  obtain ⟨tk,hk⟩:=hk
  have fc:∀ x,findBy Value.isStrOf ⟨e :: es⟩ x=if x=k then some e.val else findBy Value.isStrOf ⟨es⟩ x:=fun x=>by
   unfold findBy
   rw [← jKd,← jKd]
   show Option.map _ (List.find? _ (e :: es))=_
   rw [jYe,hk]
   by_cases hs:x=k
   ·subst hs
    rw [if_pos rfl]
    have:Value.isStrOf x (.str x tk)=true:=by simp [Value.isStrOf]
    rw [this]
    rfl
   ·rw [if_neg hs]
    have:Value.isStrOf x (.str k tk)=false:=by simp [Value.isStrOf];exact fun z=>hs z.symm
    rw [this]
  have lc:∀ x,List.lookup x ((k,t) :: ts)=if x=k then some t else ts.lookup x:=fun x=>by
   rw [zW]
   by_cases hs:x=k
   ·rw [if_pos hs,hs,beq_self_eq_true]
   ·rw [if_neg hs,beq_false_of_ne hs]
  refine ⟨fun x t' h=>?_,fun x h=>?_⟩
  ·rw [lc] at h
   rw [fc]
   by_cases hs:x=k
   ·rw [if_pos hs] at h ⊢
    cases h
    obtain ⟨y,r,hy⟩:=Qml h2
    exact ⟨_,y,rfl,r,hy⟩
   ·rw [if_neg hs] at h ⊢
    exact i1 x t' h
  ·rw [lc] at h
   rw [fc]
   by_cases hs:x=k
   ·rw [if_pos hs] at h;cases h
   ·rw [if_neg hs] at h ⊢
    exact i2 x h
structure TvTab (w:World) (K:Frag) (mg:Str->Option Value) (x:Str) (n:Nat) (ts:List (Str × TV)) (a:Addr) (f:Str->Option Value):Prop where
 tab:Tab w K mg x a f
 yes:∀ s t,ts.lookup s=some t->∃ v y,f s=some v/\RelV y v/\TvAt K n t y
 no:∀ s,ts.lookup s=none->f s=none
theorem tv_tab {w:World} {K:Frag} {mg:Str->Option Value} {x:Str} {a:Addr} {es:List DictEntry} {m n:Nat} {ts:List (Str × TV)} (b1:mg x=some (.ref a)) (l1:K.lookup a=some ⟨.type "dict",none,.dict ⟨es⟩ m,#[]⟩) (k1:KeysLit w.params es) (o1:(a == sysModules)=false) (c1:Qet K n ts es=true) :
  ∃ f,TvTab w K mg x n ts a f:=⟨_,tab_mk b1 l1 k1 o1,(Qbh c1).1,(Qbh c1).2⟩
section
variable {X:Cx}
theorem Qgi {x:Str} {n:Nat} {ts:List (Str × TV)} {a:Addr} {f:Str->Option Value} (T:TvTab X.w X.K X.mg x n ts a f):IxR X (fun x y H Q=>∃ s t,x=.ref a/\y=.str s/\ts.lookup s=some t/\∀ v,TvAt X.K n t v->Q v H):=by
 intro value slice pins s σ H x y v u Q I rx ry h hs
 obtain ⟨z,t,rfl,rfl,ht,q⟩:=h
 obtain ⟨v',y',e1,r,hy⟩:=T.yes z t ht
 exact ix_tab T.tab value slice pins s σ H _ _ v u Q I rx ry ⟨z,v',y',rfl,rfl,e1,r,q y' hy⟩ hs
end
end L2
namespace L2
open PySem PySem.W
theorem Qds {w:World} {K:Frag} {mg:Str->Option Value} {x:Str} {a:Addr} {es:Array DictEntry} {m n:Nat} {ts:List (Str × TV)} (b1:mg x=some (.ref a)) (l1:K.lookup a=some ⟨.type "dict",none,.dict es m,#[]⟩) (k1:KeysLit w.params es.toList) (o1:(a == sysModules)=false) (c1:Qet K n ts es.toList=true) :
  ∃ f,TvTab w K mg x n ts a f:=tv_tab (es:=es.toList) b1 l1 k1 o1 c1
end L2
namespace Nb
open PySem L2
theorem eqS {a b:Str} (h:decide (V.str a=V.str b)=true):a=b:=by
 have:=yK h
 injection this
theorem yesS (a:Str):decide (V.str a=V.str a)=true:=yV rfl
theorem Qmn:∀ {ks ls:List Key},ks.map kV=ls.map kV->ks=ls
 | [],[],_=>rfl
 | [],_ :: _,h=>nomatch h
 | _ :: _,[],h=>nomatch h
 | a :: ks,b :: ls,h=>by
  injection h with h1 h2
  rw [Qmn h2]
  cases a <;> cases b <;> cases h1 <;> rfl
theorem Qle {q:BR} {a:Str} {ks:List Key} (h:q.key=Sum.inr a :: ks):q.word=a:=by
 have h':(Sum.inr q.word:Key) :: q.names.map Sum.inr=Sum.inr a :: ks:=h
 injection h' with h1 _
 exact Sum.inr.inj h1
theorem Qcv (r:BR):r.cells.map kV=r.key.map kV ++ r.nums.map V.int:=by
 unfold BR.cells
 rw [xY,jKa]
 rfl
theorem Kn (r:BR):r.cells.map kV=.str r.word :: (r.names.map V.str ++ r.nums.map V.int):=by
 rw [Qcv]
 unfold BR.key
 rw [xZ,jKa]
 rfl
theorem cut1 {α:Type} (x:V) (xs:List V):cutV (x :: xs) (some 1) none=xs:=by
 unfold cutV
 rw [HT.sIx_none,show (1:Int)=((1:Nat):Int) from rfl,HT.sIx_nat,zJ,xK (by lia)]
 show List.take (xs.length + 1 - 1) xs=xs
 exact jYa (by lia)
def namesT:List (Str × TV):=[("days",.int 0),("bench",.int 1),("shut",.int 1),("store",.int 1),("work",.int 1),("way",.int 2),("uses",.int 3),("takes",.int 3),("gives",.int 3),("after",.int 2),("late",.int 1)]
def tvB (b:Int × Option Int):TV:=.tup [.int b.1,match b.2 with | none=>.non | some h=>.int h]
def bdsK:Nat->List (Int × Option Int)
 | 0=>[(1,some 12)]
 | 1=>[(0,some 99)]
 | 2=>[(0,none),(0,none)]
 | 3=>[(0,some 999),(0,some 999)]
 | 4=>[]
 | 5=>[(1,none),(0,some 999999)]
 | 6=>[(1,some 99)]
 | 7=>[(1,some 99)]
 | 8=>[(1,some 99)]
 | 9=>[(0,none)]
 | _=>[(0,none),(1,some 999999)]
def boundsT:List (Str × TV):=(List.range 11).map fun i=>(wordOf i,.tup ((bdsK i).map tvB))
def ndsK:Nat->List (Str × List Nat)
 | 0=>[]
 | 1=>[("days",[])]
 | 2=>[("bench",[1])]
 | 3=>[("days",[])]
 | 4=>[("days",[])]
 | 5=>[("work",[1])]
 | 6=>[("way",[1,2]),("bench",[3])]
 | 7=>[("way",[1,2]),("store",[3])]
 | 8=>[("way",[1,2]),("store",[3])]
 | 9=>[("work",[1]),("work",[2])]
 | _=>[("work",[1])]
def tvN (b:Str × List Nat):TV:=.tup (.str b.1 :: b.2.map fun (p:Nat)=>.int (p:Int))
def needsT:List (Str × TV):=(List.range 11).map fun i=>(wordOf i,.tup ((ndsK i).map tvN))
theorem Kg {f:Nat->TV}:∀ i,i < 11->((List.range 11).map fun i=>(wordOf i,f i)).lookup (wordOf i)=some (f i):=by
 have key:∀ (l:List Nat),(∀ i ∈ l,i < 11)->∀ i ∈ l,(l.map fun i=>(wordOf i,f i)).lookup (wordOf i)=some (f i):=by
  intro l
  induction l with
  | nil=>exact fun _ i hi=>nomatch hi
  | cons a l ih =>
   intro hl i hi
   rw [xZ,zW]
   by_cases e:wordOf i=wordOf a
   ·have e2:i=a:=Zo i (hl i hi) a (hl a jX) e
    rw [e2,beq_self_eq_true]
   ·rw [beq_false_of_ne e]
    refine ih (fun j hj=>hl j (jY _ hj)) i ?_
    rcases jJ.mp hi with z | z
    ·exact absurd (by rw [z]) e
    ·exact z
 intro i hi
 exact key (List.range 11) (fun j hj=>jKb.mp hj) i (jKb.mpr hi)
theorem Qdt (r:BR):boundsT.lookup r.word=some (.tup ((bdsK r.kind).map tvB)):=by rw [Yo];exact Kg (f:=fun i=>.tup ((bdsK i).map tvB)) _ (Yu r)
theorem Qgj (r:BR):needsT.lookup r.word=some (.tup ((ndsK r.kind).map tvN)):=by rw [Yo];exact Kg (f:=fun i=>.tup ((ndsK i).map tvN)) _ (Yu r)
theorem Qbi:namesT=(List.range 11).map fun i=>(wordOf i,.int (([0,1,1,1,1,2,3,3,3,2,1]:List Int).getD i 0)):=rfl
theorem Qah (r:BR):namesT.lookup r.word=some (.int ((r.names.length:Nat):Int)):=by
 rw [Qbi,Yo,Kg (f:=fun i=>.int (([0,1,1,1,1,2,3,3,3,2,1]:List Int).getD i 0)) _ (Yu r)]
 cases r with
 | use k w v t m=>match k with | 0=>rfl | 1=>rfl | 2=>rfl
 | _=>rfl
theorem Qeu (r:BR):r.needs=(ndsK r.kind).map fun b=>(Sum.inr b.1:Key) :: b.2.map fun p=>r.cells.getD p (Sum.inl 0):=by
 cases r with
 | use k w v t m=>match k with | 0=>rfl | 1=>rfl | 2=>rfl
 | _=>rfl
theorem Qlf (r:BR):∀ b ∈ ndsK r.kind,∀ p ∈ b.2,p < r.cells.length:=by
  cases r with
  | use k w v t m=>match k with
    | 0 =>
           intro b hb p hp;have:p=1\/p=2\/p=3:=(by
            rcases jJ.mp hb with e | e
            · rw [e] at hp;rcases jJ.mp hp with h | h
              · exact .inl h
              · exact .inr (.inl (jQ.mp h))
            · rw [jQ.mp e] at hp;exact .inr (.inr (jQ.mp hp)))
           show p < 5;lia
    | 1 =>
           intro b hb p hp;have:p=1\/p=2\/p=3:=(by
            rcases jJ.mp hb with e | e
            · rw [e] at hp;rcases jJ.mp hp with h | h
              · exact .inl h
              · exact .inr (.inl (jQ.mp h))
            · rw [jQ.mp e] at hp;exact .inr (.inr (jQ.mp hp)))
           show p < 5;lia
    | 2 =>
           intro b hb p hp;have:p=1\/p=2\/p=3:=(by
            rcases jJ.mp hb with e | e
            · rw [e] at hp;rcases jJ.mp hp with h | h
              · exact .inl h
              · exact .inr (.inl (jQ.mp h))
            · rw [jQ.mp e] at hp;exact .inr (.inr (jQ.mp hp)))
           show p < 5;lia
  | after w x g =>
                   intro b hb p hp;have:p=1\/p=2:=(by
            rcases jJ.mp hb with e | e
            · rw [e] at hp;exact .inl (jQ.mp hp)
            · rw [jQ.mp e] at hp;exact .inr (jQ.mp hp))
                   show p < 4;lia
  | days n=>exact fun b hb=>nomatch hb
  | bench b r=>intro b hb p hp;rw [jQ.mp hb] at hp;exact nomatch hp
  | store b r f=>intro b hb p hp;rw [jQ.mp hb] at hp;exact nomatch hp
  | work w=>intro b hb p hp;rw [jQ.mp hb] at hp;exact nomatch hp
  | shut b f t=>intro b hb p hp;rw [jQ.mp hb] at hp;rw [jQ.mp hp];show 1 < 4;decide
  | way w v l c=>intro b hb p hp;rw [jQ.mp hb] at hp;rw [jQ.mp hp];show 1 < 5;decide
  | late w d c=>intro b hb p hp;rw [jQ.mp hb] at hp;rw [jQ.mp hp];show 1 < 4;decide
theorem Kz (r:BR):r.cells ≠ []:=by cases r <;> exact List.cons_ne_nil _ _
end Nb
namespace L2
open PySem PySem.Spec PyProof.Rows
def TrG (h base:Heap) (e:Addr) (G:Obj->Prop) (fl:Value):Prop:=∃ oe vs T oT ts,h.get? e=some oe/\G oe/\oe.data=.fields vs/\vs[1]?=some (.ref T)/\base.get? T=none/\T ≠ e/\h.get? T=some oT/\oT.data=.fields ts/\ts[3]?=some fl
def Jk (G:Obj->Prop):Prop:=∀ o v,G o->G (o.mapFields (·.setIfInBounds 1 v))
section
variable {M:Model} {A:Around} {E:Value->Shared->Prop} {s:Shared} {base:Heap} {env:Env} {outer:List Env} {L e:Addr} {oe:Obj} {vs:Array Value} {G:Obj->Prop}
theorem Qmo {hd:Value} {nx:Bool} {Q:Unit->Shared->Prop} (u:Jk G) (fr:A.frames=some (env :: outer)) (fs:s.heap.FunFrames base (env :: outer)) (fm:env.frame=some L) (he:s.heap.get? e=some oe) (st:base.StaysIn s.heap) (new:base.get? e=none) (dt:oe.data=.fields vs) (two:1 < vs.size) (g:G oe)
  (q:∀ h',base.StaysIn h'->h'.FunFrames base (env :: outer)->TrG h' base e G (rawInt L)->s.heap.UpToSlots h'->Q () { s with heap:=h' }) :
  wpAny M A (do let a ← frameOf env;let pl ← entryPlaceOf L nx;let b ← EntryCells.newEntry hd a .none (rawInt L) .none pl;setField (.ref e) 1 b) Q E s:=by
 have out:e ∉ (env :: outer).filterMap (·.frame):=fun z=>by
  obtain ⟨_,o,ho,no⟩:=fs.mem z
  rw [he] at ho
  cases ho
  exact no vs dt
 refine jZ (wpAny_frameOf_fun fr fs fm fun h1 k1=>jZ (wpAny_entryPlaceOf fun pl hp=>?_))
 unfold EntryCells.newEntry newFields
 refine jZ (wpAny_newObj_type ?_ (hp.sizeOk5 _ _ _ _ _))
 have e1:h1.get? e=some oe:=(k1.2.1 e out).trans he
 have b1:base.StaysIn h1:=fun b o z=>(k1.2.1 b fun y=>by rw [(fs.mem y).1] at z;cases z).trans (st b o z)
 have ne:h1.objs.size ≠ e:=jJa (kX e1)
 obtain ⟨tb,etb⟩:∃ tb:Obj,tb={ cls:=.type "traceback",dict:=none,data:=.fields ([hd,.ref L,.none,rawInt L,.none] ++ (if pl.isEmpty then List.replicate 6 Value.none else pl)).toArray }:=⟨_,rfl⟩
 have tf:tb.isFreed=false:=by rw [etb];rfl
 have tdt:tb.data=.fields ([hd,.ref L,.none,rawInt L,.none] ++ (if pl.isEmpty then List.replicate 6 Value.none else pl)).toArray:=by rw [etb]
 rw [← etb]
 have e2:=jV tb e1
 have t2:=kW h1 tf
 obtain ⟨up,eup⟩:∃ f:Obj->Obj,f=Obj.mapFields (·.setIfInBounds 1 (Value.ref h1.objs.size)):=⟨_,rfl⟩
 refine wpAny_setField e2 dt two ?_
 show Q () { s with heap:=(h1.push tb).update e (Obj.mapFields (·.setIfInBounds 1 (Value.ref h1.objs.size))) }
 have d3:=Obj.data_mapFields dt (·.setIfInBounds 1 (Value.ref h1.objs.size))
 have e3:=jYf (Obj.mapFields (·.setIfInBounds 1 (Value.ref h1.objs.size))) e2 (Obj.isFreed_of_fields d3)
 have t3:=(jXe (h1.push tb) (Obj.mapFields (·.setIfInBounds 1 (Value.ref h1.objs.size))) (Ne.symm ne)).trans t2
 have keep:∀ b o,b ≠ e->h1.get? b=some o->((h1.push tb).update e (Obj.mapFields (·.setIfInBounds 1 (Value.ref h1.objs.size)))).get? b=some o:=fun b o nb z=>(jXe _ _ (Ne.symm nb)).trans (jV _ z)
 have apart:∀ b o,s.heap.get? b=some o->(∀ ws,o.data ≠ .fields ws)->b ≠ e:=fun b o z no y=>by
  rw [y,he] at z
  cases z
  exact no vs dt
 refine q _ (fun b o z=>keep b o (fun y=>by rw [y,new] at z;cases z) (b1 b o z)) (fs.of_keeps fun b o z no=>?_) ⟨_,_,_,tb,_,e3,u _ _ g,d3,by rw [kXb two],b1.fresh,ne,t3,tdt,?_⟩ fun b o z no=>?_
 ·obtain ⟨sl,y⟩:=k1.2.2 b o z
  exact ⟨_,keep b _ (apart b o z no) y,rfl⟩
 ·rw [List.getElem?_toArray];rfl
 ·obtain ⟨sl,y⟩:=k1.2.2 b o z
  exact ⟨sl,keep b _ (apart b o z no) y⟩
theorem Qdu {Q:Unit->Shared->Prop} (u:Jk G) (fr:A.frames=some (env :: outer)) (fs:s.heap.FunFrames base (env :: outer)) (fm:env.frame=some L) (he:s.heap.get? e=some oe) (st:base.StaysIn s.heap) (new:base.get? e=none) (dt:oe.data=.fields vs) (one:vs[1]?=some .none) (g:G oe)
  (q:∀ h',base.StaysIn h'->h'.FunFrames base (env :: outer)->TrG h' base e G (rawInt L)->s.heap.UpToSlots h'->Q () { s with heap:=h' }):wpAny M A (noteFrame (.ref e) env) Q E s:=by
 unfold noteFrame
 simp only [fm]
 refine jZ (wpAny_field he dt one ?_)
 rw [if_neg (by decide)]
 exact Qmo u fr fs fm he st new dt (jZb.mp one).1 g q
theorem Ko {Q:Unit->Shared->Prop} (u:Jk G) (fr:A.frames=some (env :: outer)) (fs:s.heap.FunFrames base (env :: outer)) (fm:env.frame=some L) (t:TrG s.heap base e G .none) (st:base.StaysIn s.heap) (new:base.get? e=none)
  (q:∀ h',base.StaysIn h'->h'.FunFrames base (env :: outer)->TrG h' base e G (rawInt L)->s.heap.UpToSlots h'->Q () { s with heap:=h' }):wpAny M A (noteFrame (.ref e) env) Q E s:=by
 obtain ⟨oe,vs,T,oT,ts,he,g,dt,one,nT,Te,hT,dT,four⟩:=t
 have other:∀ b,b ≠ T->(s.heap.update T (Obj.mapFields (·.setIfInBounds 3 Value.none))).get? b=s.heap.get? b:=fun b z=>jXe _ _ (Ne.symm z)
 have apart:∀ b o,s.heap.get? b=some o->(∀ ws,o.data ≠ .fields ws)->b ≠ T:=fun b o z no y=>by
  rw [y,hT] at z
  cases z
  exact no ts dT
 unfold noteFrame
 simp only [fm]
 refine jZ (wpAny_field he dt one ?_)
 rw [if_pos (show (Value.ref T != Value.none)=true from rfl)]
 refine jZ (wpAny_field hT dT four ?_)
 rw [if_neg (show ¬ ((Value.none == rawInt L)=true) by unfold rawInt;exact kK)]
 refine jZ (wpAny_setField hT dT (jZb.mp four).1 ?_)
 refine Qmo u fr (fs.of_keeps fun b o z no=>⟨o,(other b (apart b o z no)).trans z,rfl⟩) fm ((other e (Ne.symm Te)).trans he) (fun b o z=>(other b fun y=>by rw [y,nT] at z;cases z).trans (st b o z)) new dt (jZb.mp one).1 g fun h' z1 z2 z3 z4=>?_
 exact q h' z1 z2 z3 fun b o z no=>z4 b o ((other b (apart b o z no)).trans z) no
theorem Kp {l:List Env} {fl:Value} {Q:Unit->Shared->Prop} (st:base.StaysIn s.heap) (fs:s.heap.FunFrames base l) (t:TrG s.heap base e G fl)
  (q:∀ h',base.StaysIn h'->h'.FunFrames base l->TrG h' base e G .none->s.heap.UpToSlots h'->Q () { s with heap:=h' }):wpAny M A (setFlight (.ref e) none) Q E s:=by
 obtain ⟨oe,vs,T,oT,ts,he,g,dt,one,nT,Te,hT,dT,four⟩:=t
 have sz:=(jZb.mp four).1
 have other:∀ b,b ≠ T->(s.heap.update T (Obj.mapFields (·.setIfInBounds 3 Value.none))).get? b=s.heap.get? b:=fun b z=>jXe _ _ (Ne.symm z)
 have apart:∀ b o,s.heap.get? b=some o->(∀ ws,o.data ≠ .fields ws)->b ≠ T:=fun b o z no y=>by
  rw [y,hT] at z
  cases z
  exact no ts dT
 unfold setFlight
 refine jZ (wpAny_field he dt one ?_)
 rw [if_pos (show (Value.ref T != Value.none)=true from rfl)]
 refine wpAny_setField hT dT sz (q (s.heap.update T (Obj.mapFields (·.setIfInBounds 3 Value.none))) (fun b o z=>(other b fun y=>by rw [y,nT] at z;cases z).trans (st b o z)) (fs.of_keeps fun b o z no=>⟨o,(other b (apart b o z no)).trans z,rfl⟩) ?_ fun b o z no=>⟨o.slots,(other b (apart b o z no)).trans z⟩)
 exact ⟨oe,vs,T,_,_,(other e (Ne.symm Te)).trans he,g,dt,one,nT,Te,jYf _ hT (Obj.isFreed_of_fields (Obj.data_mapFields dT _)),Obj.data_mapFields dT _,by rw [kXb sz]⟩
def FlyG (base:Heap) (l:List Env) (e:Addr) (G:Obj->Prop) (h:Heap):Prop:=base.StaysIn h/\base.get? e=none/\h.FunFrames base l/\TrG h base e G .none
theorem FlyG.there {l:List Env} {h:Heap} (x:FlyG base l e G h):∃ ob vs,h.get? e=some ob/\G ob/\ob.data=.fields vs:=by obtain ⟨_,_,_,oe,vs,_,_,_,he,g,d,_⟩:=x;exact ⟨oe,vs,he,g,d⟩
theorem Qgk {Q:Unit->Shared->Prop} (u:Jk G) (fr:A.frames=some (env :: outer)) (fm:env.frame=some L) (x:FlyG base (env :: outer) e G s.heap) (q:∀ h',FlyG base outer e G h'->s.heap.UpToSlots h'->Q () { s with heap:=h' }):wpAny M A (leaving env (.ref e)) Q E s:=by
 obtain ⟨f1,f2,f3,f4⟩:=x
 unfold leaving
 refine jZ (Ko u fr f3 fm f4 f1 f2 fun h1 a1 a2 a3 a4=>Kp a1 a2 a3 fun h2 b1 b2 b3 b4=>?_)
 exact q h2 ⟨b1,f2,b2.2.2,b3⟩ (a4.trans b4)
theorem Qbj {Q:Unit->Shared->Prop} (u:Jk G) (fr:A.frames=some (env :: outer)) (fm:env.frame=some L) (fs:s.heap.FunFrames base (env :: outer)) (he:s.heap.get? e=some oe) (st:base.StaysIn s.heap) (new:base.get? e=none) (dt:oe.data=.fields vs) (one:vs[1]?=some .none) (g:G oe) (q:∀ h',FlyG base outer e G h'->s.heap.UpToSlots h'->Q () { s with heap:=h' }):wpAny M A (leaving env (.ref e)) Q E s:=by
 unfold leaving
 refine jZ (Qdu u fr fs fm he st new dt one g fun h1 a1 a2 a3 a4=>Kp a1 a2 a3 fun h2 b1 b2 b3 b4=>?_)
 exact q h2 ⟨b1,new,b2.2.2,b3⟩ (a4.trans b4)
end
abbrev exT (us:List Value):Obj:=⟨.type "tuple",none,.seq us.toArray,#[]⟩
abbrev exE (C n:Addr):Obj:=⟨.ref C,none,.fields #[.ref n,.none,.none,.none,.bool false,.none],#[]⟩
abbrev exH (h:Heap) (C:Addr) (us:List Value):Heap:=(h.push (exT us)).push (exE C h.objs.size)
theorem Wj {h:Heap} {C b:Addr} {us:List Value} {o:Obj} (e:h.get? b=some o):(exH h C us).get? b=some o:=jV _ (jV _ e)
theorem Qig {h:Heap} {C:Addr} {us:List Value}:(exH h C us).get? (h.objs.size + 1)=some (exE C h.objs.size):=Heap.get?_push_at (by simp) rfl
section
variable {P:Program} {w:World} {A:Around} {E:Value->Shared->Prop} {s:Shared} {a:Str} {b:Str} {C N f:Addr} {x1 x2 x3:List Value} {x4:Bool} {x5:List Str} {x6:List Value} {x7:Bool} {x8:Option Bool} {x9:Option Addr} {y0 y1 y2 y3 y5:Option Value} {T nw ini:String} {m:Str->Option Value} {us:List Value} {fo:Obj}
theorem Qih {Q:Fin->Shared->Prop} (F:ExcBaseFacts T nw ini x3) (tl:OwnTail s.heap x3 x2) (hC:s.heap.get? C=some (excClassObj a b C N x1 x2 x4 x5 x6 x7 x8 x9 y0 y1 y2 y3 y5 nw)) (hN:s.heap.Ns N m) (hm:m "__init__"=some (.ref f)) (hf:s.heap.get? f=some fo) (ht:fo.cls=.type "function") (hu:us.length<=sizeLine)
  (q:wpAny (model P w) A (call (.ref f) (.ref (s.heap.objs.size + 1) :: us)) (fun r s'=>r=.none/\Q (.done (.ret (.ref (s.heap.objs.size + 1)))) s') E { s with heap:=exH s.heap C us }):wpAny (model P w) A (Builtin.«type.__call__» ⟨.ref C :: us,[]⟩) Q E s:=by
 obtain ⟨h,g,d,k,os⟩:=s
 dsimp only at *
 repeat first
  | with_reducible refine wpAny_loadPart_at hC ?_
  | with_reducible refine wpAny_madeBy_exc hC ?_
  | wp_step
 refine codeAny_call_builtin_code (Code.quiet_builtin _ F.quiet) (wpAny_check_new_subT F tl hC (codeAny_exc_new_subT F tl hC ?_ hu))
 show wpAny (model P w) A _ _ E ⟨exH h C us,g,d,k,os⟩
 have one:=Qig (h:=h) (C:=C) (us:=us)
 have cls:=Wj (C:=C) (us:=us) hC
 have mine:(Value.ref C :: x2).contains (.ref C)=true:=by rw [jZe,beq_self_eq_true,Bool.true_or]
 unfold isInstance
 repeat first
  | with_reducible refine wpAny_loadPart_at one ?_
  | (with_reducible refine wpAny_isSubtype_exc cls ?_;rw [mine])
  | wp_step
 refine wpAny_typeLookup_tail cls (let ⟨o,es,ep,e,r⟩:=hN;⟨o,es,ep,Wj e,r⟩) (tl.keeps fun _ _ e=>Wj e) F.mroIs F.init.lookup ?_
 rw [hm]
 refine wpAny_holding (jZ ?_)
 unfold bindSpecial
 refine jZ (wpAny_typeOf (T:="function") ⟨_,Wj hf,ht⟩ ?_)
 rw [if_pos (by decide)]
 refine kJ (jZ (wpAny_mono q (fun r s' z=>?_) fun _ _ z=>z))
 obtain ⟨rfl,z⟩:=z
 wp_walk
 exact z
theorem Qii {Q:Value->Shared->Prop} (F:ExcBaseFacts T nw ini x3) (tl:OwnTail s.heap x3 x2) (hC:s.heap.get? C=some (excClassObj a b C N x1 x2 x4 x5 x6 x7 x8 x9 y0 y1 y2 y3 y5 nw)) (hN:s.heap.Ns N m) (hm:m "__init__"=some (.ref f)) (hf:s.heap.get? f=some fo) (ht:fo.cls=.type "function") (hu:us.length<=sizeLine)
  (q:wpAny (model P w) (A.under (.builtin "type.__call__" ⟨.ref C :: us,[]⟩)) (call (.ref f) (.ref (s.heap.objs.size + 1) :: us)) (fun r s'=>r=.none/\Q (.ref (s.heap.objs.size + 1)) s') E { s with heap:=exH s.heap C us }):wpAny (model P w) A (call (.ref C) us) Q E s:=by
 have z1:=tc_lookup
 have z2:=tc_bind (.ref C)
 have z3:s.TypeIs (.ref C) "type":=⟨_,hC,rfl⟩
 obtain ⟨h,g,d,k,os⟩:=s
 dsimp only at *
 refine wpAny_call (codeAny_of_tree ?_)
 show wpAny _ _ (callAny (.ref C) _) _ _ _
 repeat any_goals first
  | assumption
  | with_reducible refine wpAny_loadPart_at hC ?_
  | wp_step
 exact ⟨rfl,codeAny_call_builtin_at (Code.quiet_builtin _ (by decide +kernel)) entry_typeCall (wpAny_check_type_call_sub hC (Qih F tl hC hN hm hf ht hu q))⟩
end
inductive TailN (h:Heap) (ns:List Str) (z:List Value):List Value->Prop
 | base:TailN h ns z z
 | own {a:Addr} {c:Value} {dd:Option Addr} {cd:ClassData} {sl:Array (Option Value)} {m:Str->Option Value} {l:List Value} (e:h.get? a=some ⟨c,dd,.cls cd,sl⟩) (hN:h.Ns cd.ns m) (no:∀ n ∈ ns,m n=none) (t:TailN h ns z l):TailN h ns z (.ref a :: l)
theorem TailN.own_tail {h:Heap} {ns:List Str} {z l:List Value} (t:TailN h ns z l) (hi:("__init__":Str) ∈ ns):OwnTail h z l:=by
 induction t with
 | base=>exact .base
 | own e hN no _ ih=>exact .own e hN (no _ hi) ih
theorem TailN.has {h:Heap} {ns:List Str} {z l:List Value} (t:TailN h ns z l) {X:String} (hb:z.contains (.type X)=true):l.contains (.type X)=true:=by
 induction t with
 | base=>exact hb
 | own _ _ _ _ ih=>rw [jZe,ih,Bool.or_true]
theorem TailN.refuse {h:Heap} {ns:List Str} {z l:List Value} (t:TailN h ns z l) {v:Value} {n:Str} (hz:refuseLoop v n z=pure ()):refuseLoop v n l=pure ():=by
 induction t with
 | base=>exact hz
 | own _ _ _ _ ih=>rw [refuseLoop_ref];exact ih
section
variable {M:Model} {P:Program} {w:World} {A:Around} {E:Value->Shared->Prop} {s:Shared} {a:Str} {b:Str} {C N x:Addr} {x1 x2 x3:List Value} {x4:Bool} {x5:List Str} {x6:List Value} {x7:Bool} {x8:Option Bool} {x9:Option Addr} {y0 y1 y2 y3 y5:Option Value} {T nw sa ow:String} {m:Str->Option Value} {ns:List Str} {n:Str} {v:Value}
theorem Qdv {l z:List Value} {y:Option Value} {Q:Option Value->Shared->Prop} (t:TailN s.heap ns z l) (hn:n ∈ ns) (hz:lookupAlong z n=pure y) (q:Q y s):wpAny M A (lookupAlong l n) Q E s:=by
 induction t with
 | base=>rw [hz];exact kJ q
 | own e hN no _ ih =>
  rw [lookupAlong_cons]
  refine jZ (wpAny_classOwn_cls e hN ?_)
  rw [no _ hn]
  exact ih
theorem Va {y:Option Value} {Q:Option Value->Shared->Prop} (hC:s.heap.get? C=some (excClassObj a b C N x1 x2 x4 x5 x6 x7 x8 x9 y0 y1 y2 y3 y5 nw)) (hN:s.heap.Ns N m) (t:TailN s.heap ns x3 x2) (hn:n ∈ ns) (hT:mroOf (.type T)=pure x3) (hy:typeLookup (.type T) n=pure y) (q:Q (match m n with | some u=>some u | none=>y) s):wpAny M A (typeLookup (.ref C) n) Q E s:=by
 rw [typeLookup_eq,hT] at hy
 rw [typeLookup_eq]
 refine jZ (wpAny_mroOf_exc hC ?_)
 rw [lookupAlong_cons]
 refine jZ (wpAny_classOwn_exc hC hN ?_)
 revert q
 cases m n with
 | some u=>exact fun q=>kJ q
 | none=>exact fun q=>Qdv t hn hy q
theorem Qij {o:Obj} {nv:Value} {Q:Unit->Shared->Prop} (F:StoreFacts T x3 sa ow) (hC:s.heap.get? C=some (excClassObj a b C N x1 x2 x4 x5 x6 x7 x8 x9 y0 y1 y2 y3 y5 nw)) (t:TailN s.heap ns x3 x2) (hx:s.heap.get? x=some o) (hc:o.cls=.ref C) (q:Q () s):wpAny M A (checkBuiltinCall sa ⟨[.ref x,nv,v],[]⟩) Q E s:=by
 have yes:(Value.ref C :: x2).contains (.type ow)=true:=by rw [jZe,t.has F.hasOwner,Bool.or_true]
 have fit:=F.args (.ref x) nv v
 simp only [checkBuiltinCall,F.kind,F.split]
 refine jZ ?_
 unfold isInstance
 repeat first
  | (with_reducible refine wpAny_loadPart_at hx ?_;rw [hc])
  | (with_reducible refine wpAny_isSubtype_exc hC ?_;rw [yes])
  | wp_step
 revert fit
 unfold argsOk
 cases Manifest.signature? sa with
 | none=>exact fun _=>kJ q
 | some sg=>exact fun fit=>wpAny_of_eq fit q
abbrev wD (h:Heap) (x:Addr):Heap:=(h.push ⟨.type "dict",none,.dict #[],#[]⟩).update x fun o=>{ o with dict:=some h.objs.size }
theorem wD_new {h:Heap} {o:Obj} (hx:h.get? x=some o):(wD h x).Ns1 h.objs.size fun _=>none :=
 Heap.Ns1.of_empty ⟨_,#[],_,(Heap.get?_update_ne _ _ _ _ (jJa (kX hx))).trans (Heap.get?_push_at rfl rfl),rfl,fun e he=>absurd he (by simp),fun _=>rfl⟩
theorem Qcw {tk:Tok} {fs:Array Value} {sl:Array (Option Value)} {Q:Fin->Shared->Prop} (F:StoreFacts T x3 sa ow) (hC:s.heap.get? C=some (excClassObj a b C N x1 x2 true x5 x6 x7 x8 x9 y0 y1 y2 y3 y5 nw)) (t:TailN s.heap ns x3 x2) (hN:s.heap.Ns N m) (hn:n ∈ ns) (hm:m n=none) (hT:typeLookup (.type T) n=pure none) (hx:s.heap.get? x=some ⟨.ref C,none,.fields fs,sl⟩)
  (q:∀ h tk,h.Ns1 s.heap.objs.size (fun y=>if y=n then some v else none)->h.get? x=some ⟨.ref C,some s.heap.objs.size,.fields fs,sl⟩->(∀ c o,c ≠ x->s.heap.get? c=some o->h.get? c=some o)->Q (.done (.ret .none)) { s with heap:=h,toks:=tk }) :
  wpAny (model P w) A (Builtin.«object.__setattr__» ⟨[.ref x,.str n tk,v],[]⟩) Q E s:=by
 have pass:=t.refuse (F.passes (.ref x))
 obtain ⟨h,g,d,k,os⟩:=s
 dsimp only at *
 have emp:=wD_new hx
 unfold Builtin.«object.__setattr__»
 repeat first
  | with_reducible refine wpAny_nsSet1 emp fun h1 k1 s1=>?_
  | rw [refuse_eq]
  | rw [refuseLoop_ref,pass]
  | with_reducible refine wpAny_loadPart_at hx ?_
  | with_reducible refine wpAny_mroOf_exc hC ?_
  | (with_reducible refine Va (s:=⟨h,g,d,_,os⟩) hC hN t hn F.mro hT ?_;rw [hm])
  | wp_step
 obtain ⟨oD,eD,pD,z1,z2,z3⟩:=k1.count (Within.cons n v Within.nil)
 refine wpAny_loadPart_at z1 ?_
 rw [z2,pastItsLine_dict (xW z3 (by rw [zJ,jZd,sizeLine_eq];lia))]
 have up:=jV ⟨.type "dict",none,.dict #[],#[]⟩ hx
 have lt:=kX hx
 refine kJ ?_
 wp_walk
 exact q h1 _ k1 ((s1.2 x (yJ lt)).trans (jYf _ up rfl)) fun c o hc e=>(s1.2 c (yJ (kX e))).trans ((Heap.get?_update_ne _ _ _ _ hc).trans (jV _ e))
theorem Qcx {fs:Array Value} {sl:Array (Option Value)} {Q:Unit->Shared->Prop} (F:StoreFacts T x3 sa ow) (hC:s.heap.get? C=some (excClassObj a b C N x1 x2 true x5 x6 x7 x8 x9 y0 y1 y2 y3 y5 nw)) (t:TailN s.heap ns x3 x2) (hN:s.heap.Ns N m) (hn:n ∈ ns) (hm:m n=none) (hs:("__setattr__":Str) ∈ ns) (hms:m "__setattr__"=none) (hT:typeLookup (.type T) n=pure none) (hx:s.heap.get? x=some ⟨.ref C,none,.fields fs,sl⟩)
  (q:∀ h tk,h.Ns1 s.heap.objs.size (fun y=>if y=n then some v else none)->h.get? x=some ⟨.ref C,some s.heap.objs.size,.fields fs,sl⟩->(∀ c o,c ≠ x->s.heap.get? c=some o->h.get? c=some o)->Q () { s with heap:=h,toks:=tk }) :
  wpAny (model P w) A (setAttr (.ref x) n v) Q E s:=by
 have bd:=F.slot.bind (.ref x)
 obtain ⟨h,g,d,k,os⟩:=s
 dsimp only at *
 unfold setAttr callSpecial? specialOf
 repeat any_goals first
  | assumption
  | with_reducible refine wpAny_loadPart_at hx ?_
  | (with_reducible refine Va (s:=⟨h,g,d,_,os⟩) hC hN t hs F.mro F.slot.lookup ?_;rw [hms])
  | wp_step
 refine codeAny_call_builtin F.slot.plain F.entry (Qij F hC t hx rfl (Qcw (s:=⟨h,g,d,_,os⟩) F hC t hN hn hm hT hx fun h' tk' z1 z2 z3=>?_))
 repeat any_goals first
  | assumption
  | wp_step
 exact q h' tk' z1 z2 z3
end
end L2
namespace L2
open PySem PySem.Spec PySem.Calls PyProof.Rows PySem.W
structure ExcFld (K:Frag) (C:Addr) (n:Str):Prop where
 ga:findIn K (.ref C) "__getattribute__"=some (some (.builtin "BaseException.__getattribute__"))
 gn:findIn K (.ref C) "__getattr__"=some none
 fn:findIn K (.ref C) n=some none
 mb:mroIn K C (.type "BaseException")=some true
 hd:∃ c dd cd sl,K.lookup C=some ⟨c,dd,.cls cd,sl⟩/\cd.hasDict=true
section
variable {prog:Program} {w:World} {A:Around} {E:Value->Shared->Prop} {h:Heap} {g:Array GenState} {d:Drawn} {t:Nat} {os:OsState} {a C dx:Addr} {fs:Array Value} {sl:Array (Option Value)} {K:Frag} {n:Str} {v:Value} {mA:Str->Option Value}
theorem Qlg {tk:Tok} {Q:Fin->Shared->Prop} (X:K.In h) (Z:ExcFld K C n) (hx:h.get? a=some ⟨.ref C,some dx,.fields fs,sl⟩) (hN:h.Ns dx mA) (hv:mA n=some v) (hh:handedOut v=pure v) (hq:Q (.done (.ret v)) ⟨h,g,d,t,os⟩) :
  wpAny (model prog w) A (Builtin.«object.__getattribute__» ⟨[.ref a,.str n tk],[]⟩) Q E ⟨h,g,d,t,os⟩:=by
 have L0:=Zu (M:=model prog w) hx rfl
 have L1:=looks_findIn (M:=model prog w) X Z.fn
 obtain ⟨c,dd,cd,sl',lk,hd⟩:=Z.hd
 have hC:=X _ _ lk
 unfold Builtin.«object.__getattribute__»
 repeat (any_goals (first | assumption | with_reducible refine wpAny_loadPart_at hx ?_ | with_reducible refine Looks.at (by assumption) ?_ | (with_reducible refine wpAny_nsGet hN ?_;rw [hv]) | with_reducible refine wpAny_loadPart_at hC ?_ | wp_step))
theorem Qoe {tk:Tok} {R:Result->Shared->Prop} (X:K.In h) (Z:ExcFld K C n) (hx:h.get? a=some ⟨.ref C,some dx,.fields fs,sl⟩) (hN:h.Ns dx mA) (hv:mA n=some v) (hh:handedOut v=pure v) (hq:R (.ok (.ret v)) ⟨h,g,d,t,os⟩) :
  codeAny (model prog w) A (.call (.builtin "BaseException.__getattribute__") ⟨[.ref a,.str n tk],[]⟩) R ⟨h,g,d,t,os⟩:=by
 refine codeAny_call_builtin F.excAttr_ValueError.ga.plain F.entry_bexc_ga ?_
 have b1:builtinKind "BaseException.__getattribute__"=some .slot:=by decide +kernel
 have b5:splitId "BaseException.__getattribute__"=some ("BaseException","__getattribute__"):=by decide +kernel
 have ha:=F.args_bexc_ga (.ref a) (.str n tk)
 have L0:=Zu (M:=model prog w) hx rfl
 have L1:=looks_mroIn (M:=model prog w) X Z.mb
 have L2:Looks (model prog w) h (isInstance (.ref a) (.type "BaseException")) true:=L0.andThen L1
 simp only [checkBuiltinCall,b1,b5]
 refine jZ (L2.at ?_)
 repeat (first | exact Qlg X Z hx hN hv hh hq | wp_step)
theorem Qof {expr:Bool} {Q:Value->Shared->Prop} (X:K.In h) (Z:ExcFld K C n) (hx:h.get? a=some ⟨.ref C,some dx,.fields fs,sl⟩) (hN:h.Ns dx mA) (hv:mA n=some v) (hh:handedOut v=pure v) (hq:Q v ⟨h,g,d,t + 1,os⟩) :
  wpAny (model prog w) A (getAttr (.ref a) n expr) Q E ⟨h,g,d,t,os⟩:=by
 have L0:=Zu (M:=model prog w) hx rfl
 have L1:=looks_findIn (M:=model prog w) X Z.ga
 have L2:=looks_findIn (M:=model prog w) X Z.gn
 have f3:=F.excAttr_ValueError.ga.bind (.ref a)
 have b2:(expr && onTheHeap (Value.builtin "BaseException.__getattribute__"))=false:=by cases expr <;> rfl
 have b3:(Value.builtin "BaseException.__getattribute__" == Value.builtin "object.__getattribute__")=false:=by decide +kernel
 have b4:(onTheHeap (Value.ref C) && Value.builtin "BaseException.__getattribute__" == Value.builtin "object.__getattribute__")=false:=by rw [b3];rfl
 unfold getAttr
 repeat (any_goals (first | assumption | with_reducible refine Looks.at (by assumption) ?_ | wp_step))
 refine Qoe X Z hx hN hv hh ?_
 repeat (any_goals (first | assumption | wp_step))
end
def exG (C dx:Addr):Obj->Prop:=fun o=>o.cls=.ref C/\o.dict=some dx
theorem Qev {C dx:Addr}:Jk (exG C dx):=fun o v g=>by
 obtain ⟨c,d,dt,sl⟩:=o
 obtain ⟨g1,g2⟩:=g
 cases dt <;> exact ⟨g1,g2⟩
def CXg (P:Program) (w:World) (C:Addr):CXT:=fun outer H s E ev s'=>∃ (e dx:Addr) (H':Hp) (B:Heap),ev=.ref e/\E (.ref C) (some dx) H'/\s'.os=s.os/\AllBare s'.gens/\Un (frs outer) [] H H' s.heap s'.heap/\HOk P w H' s'.heap /\
 (∀ b,b ∉ frs outer->((∃ o,s.heap.get? b=some o)\/H' b ≠ none)->∃ o,B.get? b=some o)/\FlyG B outer e (exG C dx) s'.heap
section
variable {P:Program} {w:World} {K:Fg} {mg:Str->Option Value} {base:Heap} {N:List Str} {qual:Str} {scope:Scope} {f:Addr} {cd:Value} {A:Around} {outer:List Env} {s₀:Shared} {H₀:Hp} {E:XK} {C:Addr}
 {pins:List (Addr × Obj)} {σ:St} {H:Hp} {s:Shared}
abbrev cxG (P:Program) (w:World) (C:Addr) (K:Fg) (mg:Str->Option Value) (base:Heap) (N:List Str) (qual:Str) (scope:Scope) (f:Addr) (cd:Value) (A:Around) (outer:List Env) (s:Shared) (H:Hp) (E:XK):Cx:=cxOf (CXg P w C) P w K mg base N qual scope f cd A outer s H E
theorem Qdw (I:Inv (cxG P w C K mg base N qual scope f cd A outer s₀ H₀ E) pins σ H s) {b:Addr} {o:Obj} (e:s₀.heap.get? b=some o) (hb:b ∉ frs outer):b ∉ frs (envOfC qual scope s₀.heap.objs.size f cd :: outer):=fun z=>by
 have z':b ∈ (envOfC qual scope s₀.heap.objs.size f cd :: outer).filterMap (·.frame):=z
 obtain ⟨env,he,hf⟩:=zV.mp z'
 rcases jJ.mp he with rfl | he
 ·have:s₀.heap.objs.size=b:=Option.some.inj hf
  exact absurd (kX e) (by rw [← this];exact jQc _)
 ·exact hb (zV.mpr ⟨env,he,hf⟩)
theorem Qbk:Jw (CXg P w C) (cxG P w C K mg base N qual scope f cd A outer s₀ H₀ E) E:=by
 intro pins σ H s ev s' I h
 obtain ⟨e,dx,H',B,rfl,q,os,bare,un,hok,hc,fl⟩:=h
 show wpAny _ _ (leaving (envOfC qual scope s₀.heap.objs.size f cd) (.ref e)) _ _ _
 refine Qgk (M:=model P w) Qev I.ok.frames rfl fl fun h'' fl2 up=>?_
 have un':Un (frs (envOfC qual scope s₀.heap.objs.size f cd :: outer)) [] H H' s.heap s'.heap:=un
 have sub:∀ b ∈ frs outer,b ∈ frs (envOfC qual scope s₀.heap.objs.size f cd :: outer):=fun b hb=>zV.mpr (let ⟨env,he,hf⟩:=zV.mp hb;⟨env,jY _ he,hf⟩)
 have hc':∀ b,b ∉ frs outer->((∃ o,s₀.heap.get? b=some o)\/H' b ≠ none)->∃ o,B.get? b=some o:=fun b hb z=>by
  rcases z with ⟨o,e0⟩ | z
  ·obtain ⟨o',e1⟩:=I.base.there b o e0 (by intro z;cases z)
   exact hc b (Qdw I e0 hb) (.inl ⟨o',e1⟩)
  ·refine hc b (fun y=>?_) (.inr z)
   obtain ⟨o1,e1,_⟩:=Qw (show s.heap.FunFrames base (envOfC qual scope s₀.heap.objs.size f cd :: outer) from I.stack) b y
   exact z (un'.free b o1 e1 (I.stkFree b y) (by intro z;cases z))
 have big:Un (frs outer) [] H₀ H' s₀.heap s'.heap:=by
  refine ⟨fun b o e0 n hb hx=>?_,fun b o e0 n hb hx=>?_,fun b o e0 n hx=>?_,fun b o e0 hx=>?_,fun b xs e0=>un'.tups b xs (I.base.tups b xs e0),fun b o u e0=>un'.frzs b o u (I.base.frzs b o u e0),fun b ps e0=>?_⟩
  ·exact un'.keep b o (I.base.keep b o e0 n hb hx) (I.base.free b o e0 n hx) (Qdw I e0 hb) hx
  ·obtain ⟨sl,e1⟩:=I.base.slot b o e0 n hb hx
   obtain ⟨sl2,e2⟩:=un'.slot b _ e1 (I.base.free b o e0 n hx) (sub b hb) hx
   exact ⟨sl2,e2⟩
  ·obtain ⟨o',e1⟩:=I.base.there b o e0 hx
   exact un'.free b o' e1 (I.base.free b o e0 n hx) hx
  ·obtain ⟨o',e1⟩:=I.base.there b o e0 hx
   exact un'.there b o' e1 hx
  ·obtain ⟨m1,e1⟩:=I.base.tbls b ps e0
   obtain ⟨m2,e2⟩:=un'.tbls b _ e1
   exact ⟨m1 ++ m2,by rw [e2,Array.append_assoc]⟩
 refine ⟨e,dx,H',B,rfl,q,os.trans I.os,bare,Qaz big hc' fl.1 fl2.1 up fun b hb=>Qw fl.2.2.1 b (sub b hb),Jy hok hc' fl.1 fl2.1 fun b hb=>?_,hc',fl2⟩
 obtain ⟨o1,e1,_⟩:=Qw (show s.heap.FunFrames base (envOfC qual scope s₀.heap.objs.size f cd :: outer) from I.stack) b (sub b hb)
 exact un'.free b o1 e1 (I.stkFree b (sub b hb)) (by intro z;cases z)
end
def excN (e C:Addr):HO:=.ext fun h=>∃ t,h.get? e=some (exE C t)
def excM (e C dx:Addr):HO:=.ext fun h=>∃ t,h.get? e=some { exE C t with dict:=some dx }
def excD (e C dx:Addr):HO:=.ext fun h=>∃ fs sl,h.get? e=some ⟨.ref C,some dx,.fields fs,sl⟩
theorem Qog {P:Program} {w:World} {H:Hp} {h:Heap} {e C dx t:Addr} (he:h.get? e=some { exE C t with dict:=some dx }):ObjOk P w H h e (excM e C dx):=⟨⟨t,he⟩,⟨_,he⟩,fun _ _ ⟨t,z⟩ k=>⟨t,k _ z⟩⟩
theorem Qik {P:Program} {w:World} {H:Hp} {h:Heap} {e C dx:Addr} {fs:Array Value} {sl:Array (Option Value)} (he:h.get? e=some ⟨.ref C,some dx,.fields fs,sl⟩):ObjOk P w H h e (excD e C dx):=⟨⟨fs,sl,he⟩,⟨_,he⟩,fun _ _ ⟨fs,sl,z⟩ k=>⟨fs,sl,k _ z⟩⟩
theorem Qoh {P:Program} {w:World} {H:Hp} {h:Heap} {e C t:Addr} (he:h.get? e=some (exE C t)):ObjOk P w H h e (excN e C):=⟨⟨t,he⟩,⟨_,he⟩,fun _ _ ⟨t,z⟩ k=>⟨t,k _ z⟩⟩
section
variable {X:Cx} {pins:List (Addr × Obj)} {σ:St} {H:Hp} {s:Shared} {e C:Addr} {n:Str} {y:V} {u:Value}
theorem Inv.excAt (I:Inv X pins σ H s) (hx:H e=some (excN e C)):∃ t,s.heap.get? e=some (exE C t):=(I.hok e _ hx).1
theorem Inv.fieldX {h':Heap} {tk:Nat} {t:Addr} (I:Inv X pins σ H s) (hx:H e=some (excN e C)) (ry:RelV y u) (a1:h'.Ns1 s.heap.objs.size (fun z=>if z=n then some u else none)) (a2:h'.get? e=some { exE C t with dict:=some s.heap.objs.size }) (a3:∀ c o,c ≠ e->s.heap.get? c=some o->h'.get? c=some o) :
  H s.heap.objs.size=none/\Inv X pins σ (upd (upd H e (excM e C s.heap.objs.size)) s.heap.objs.size (.xd [(n,y)])) { s with heap:=h',toks:=tk }:=by
 have mu:Mut (H e):=by rw [hx];exact True.intro
 have fr:=I.hok.fresh (kQ s.heap.objs.size)
 obtain ⟨t0,e0⟩:=I.excAt hx
 have ne:s.heap.objs.size ≠ e:=jJa (kX e0)
 have fr2:upd H e (excM e C s.heap.objs.size) s.heap.objs.size=none:=by rw [Ql ne];exact fr
 refine ⟨fr,I.un (Un.track (Un.write mu (.inl rfl) a3 ⟨_,a2⟩) (kXc (kQ _)) fr2) (HOk.track (I.hok.write mu (.inl rfl) a3 ⟨_,a2⟩ (Qog a2)) fr2 ⟨_,a1,fun g=>?_⟩)⟩
 show RelO ([(n,y)].lookup g) (if g=n then some u else none)
 by_cases z:g=n
 ·subst z
  rw [if_pos rfl,zW,beq_self_eq_true]
  exact ry
 ·rw [if_neg z,zW,show (g == n)=false from beq_false_of_ne z]
  exact True.intro
end
open PySem.W in
theorem Qoi {K:Frag} {h:Heap} {N:Addr} {m:Str->Option Value} {n:Str} {v:Value} (X:K.In h) (g:h.Ns N m) (e:nsIn K N n=some (some v)):m n=some v:=by
 obtain ⟨o,es,ep,ho,hd,_,hf⟩:=g
 unfold nsIn at e
 split at e
 ·rename_i q
  have z:=X _ _ q
  rw [ho] at z
  cases z
  cases hd
  rw [← hf]
  unfold nsFind findBy
  rw [← jKd]
  split at e
  ·rename_i he
   rw [he]
   exact Option.some.inj e
  ·split at e <;> cases e
 ·cases e
structure ErrI (K:Fg) (mg:Str->Option Value) (x:Str) (C D f:Addr) (n:Str):Prop where
 bound:mg x=some (.ref C)
 cls:∃ a b N x1 x5 x6 x7 x8 x9 y0 y1 y2 y3 y5,K.lookup C=some (excClassObj a b C N x1 (.ref D :: vErr) true x5 x6 x7 x8 x9 y0 y1 y2 y3 y5 "ValueError.__new__")/\PySem.W.nsOkIn K N=true/\PySem.W.nsIn K N "__init__"=some (some (.ref f))/\PySem.W.nsIn K N n=some none/\PySem.W.nsIn K N "__setattr__"=some none
 mid:∃ c dd cd sl,K.lookup D=some ⟨c,dd,.cls cd,sl⟩/\PySem.W.nsOkIn K cd.ns=true/\PySem.W.nsIn K cd.ns "__init__"=some none/\PySem.W.nsIn K cd.ns n=some none/\PySem.W.nsIn K cd.ns "__setattr__"=some none
 none':typeLookup (.type "ValueError") n=pure none
theorem ErrI.tail {K:Fg} {mg:Str->Option Value} {x:Str} {C D f:Addr} {n:Str} {h:Heap} (F:ErrI K mg x C D f n) (X:K.In h):TailN h ["__init__",n,"__setattr__"] vErr (.ref D :: vErr):=by
 obtain ⟨c,dd,cd,sl,lk,ok,z1,z2,z3⟩:=F.mid
 refine .own (X _ _ lk) (.of_isNs (PySem.W.isNs_of_in X ok)) (fun m hm=>?_) .base
 rcases jJ.mp hm with rfl | hm
 ·exact PySem.W.nsMap_none_of_in X ok z1
 rcases jJ.mp hm with rfl | hm
 ·exact PySem.W.nsMap_none_of_in X ok z2
 ·rw [jQ.mp hm];exact PySem.W.nsMap_none_of_in X ok z3
section
variable {X:Cx} {pins:List (Addr × Obj)} {σ:St} {H:Hp} {s:Shared} {e C D f:Addr} {x n:Str} {y:V} {u:Value} {A:Around} {E:Value->Shared->Prop}
theorem Qdx {Q:Unit->Shared->Prop} (F:ErrI X.K X.mg x C D f n) (I:Inv X pins σ H s) (hx:H e=some (excN e C)) (ry:RelV y u) (q:∀ s' dx,H dx=none->Inv X pins σ (upd (upd H e (excM e C dx)) dx (.xd [(n,y)])) s'->Q () s'):wpAny (model X.prog X.w) A (setAttr (.ref e) n u) Q E s:=by
 obtain ⟨a,b,N,x1,x5,x6,x7,x8,x9,y0,y1,y2,y3,y5,lk,ok,z1,z2,z3⟩:=F.cls
 obtain ⟨t,e0⟩:=I.excAt hx
 have kin:=I.kIn
 refine Qcx PySem.F.store_ValueError (kin _ _ lk) (F.tail kin) (.of_isNs (PySem.W.isNs_of_in kin ok)) (jY _ jX) (PySem.W.nsMap_none_of_in kin ok z2) (jY _ (jY _ jX)) (PySem.W.nsMap_none_of_in kin ok z3) F.none' e0 fun h' tk a1 a2 a3=>?_
 obtain ⟨fr,J⟩:=I.fieldX (tk:=tk) hx ry a1 a2 a3
 exact q _ _ fr J
theorem Qoj {o value:Expr} {ta tv:TE} {pos pos':Pos} (F:ErrI X.K X.mg x C D f n) (ha:PE X o ta) (hv:PE X value tv) (hs:swapsWith value (some (.Attribute o n pos')) pos.line X.env=pure false) :
  PS X (.Assign [.Attribute o n pos'] value pos) (fun D' σ H=>tv σ H fun y H1=>ta σ H1 fun z H2=>∃ e,z=.ref e/\H2 e=some (excN e C)/\∀ dx,H2 dx=none->D'.nx σ (upd (upd H2 e (excM e C dx)) dx (.xd [(n,y)]))):=by
 intro pins s σ H D' I h
 refine plainObj_wpAny_Assign_Attribute (thn (hv pins s σ H _ I h) fun u s1 ⟨y,H1,I1,ry,q⟩=>thn (ha pins s1 σ H1 _ I1 q) fun ov s2 hqP=>?_) hs
 obtain ⟨z,H2,I2,rz,e,ez,ee,q2⟩:=hqP
 subst ez
 obtain rfl:ov=Value.ref e:=rz
 exact Qdx F I2 ee ry fun s3 dx fr I3=>⟨σ,_,I3,q2 dx fr⟩
def spXI (C:Addr) (n:Str):Sp:=fun vs H Q _=>∃ (e:Addr) (y:V),vs=[.ref e,y]/\H e=some (excN e C)/\∀ dx,H dx=none->Q .non (upd (upd H e (excM e C dx)) dx (.xd [(n,y)]))
theorem Qok {k:Nat} {fd:FuncData} {p:Str} {Q:Value->Shared->Prop} {fo:Obj} (F:ErrI X.K X.mg x C D f n) (G:FnOk X.prog X.w X.K X.mg X.base CX0 k f fd ["self",p] (spXI C n)) (hr:Room (k + 1) X.A) (hb:Binds X.K fd ["self",p] []) (hf:X.K.lookup f=some fo) (hc:fo.cls=.type "function") (I:Inv X pins σ H s) (r:RelV y u)
  (h:∀ dx s',H dx=none->dx ≠ s.heap.objs.size + 1->Inv X pins σ (upd (upd H (s.heap.objs.size + 1) (excM (s.heap.objs.size + 1) C dx)) dx (.xd [(n,y)])) s'->Q (.ref (s.heap.objs.size + 1)) s'):wpAny (model X.prog X.w) X.A (call (.ref C) [u]) Q X.xe s:=by
 obtain ⟨a,b,N,x1,x5,x6,x7,x8,x9,y0,y1,y2,y3,y5,lk,ok,z1,z2,z3⟩:=F.cls
 have kin:=I.kIn
 have I2:=I.laid (a:=s.heap.objs.size + 1) (o:=excN (s.heap.objs.size + 1) C) (h':=exH s.heap C [u]) (t':=s.toks) (fun _ _ z=>Wj z) (jZa _) (Qoh Qig)
 have ns:s.heap.Ns N _:=.of_isNs (PySem.W.isNs_of_in kin ok)
 have r2:Vals [V.ref (s.heap.objs.size + 1),y] [Value.ref (s.heap.objs.size + 1),u]:=.cons rfl (.cons r .nil)
 refine Qii PySem.F.excBase_ValueError ((F.tail kin).own_tail jX) (kin _ _ lk) ns (Qoi kin ns z1) (kin _ _ hf) hc (by show 1<=sizeLine;decide) ?_
 refine wpAny_call (codeAny_mono (G.run _ X.stack _ _ ⟨[Value.ref (s.heap.objs.size + 1),u],[]⟩ _ _ (fun v H2=>v=.non/\∃ dx,H dx=none/\dx ≠ s.heap.objs.size + 1/\H2=upd (upd H (s.heap.objs.size + 1) (excM (s.heap.objs.size + 1) C dx)) dx (.xd [(n,y)])) E0 (hr.make C [u] []) (I2.env0.make C [u] []) (hb _ [Value.ref (s.heap.objs.size + 1),u] I2.kIn rfl) r2 ⟨_,_,rfl,Qd,fun dx hdx=>⟨rfl,dx,?_⟩⟩) fun r s' hq'=>?_)
 ·have ne:dx ≠ s.heap.objs.size + 1:=fun z=>by rw [z,Qd] at hdx;cases hdx
  rw [Ql ne] at hdx
  exact ⟨hdx,ne,by rw [Qnb]⟩
 cases r with
 | error e=>exact hq'.elim
 | ok fl =>
  cases fl with
  | ret v =>
   obtain ⟨v',H',I3,rv,ev,dx,q1,q2,rfl⟩:=I2.after hq'
   subst ev
   exact ⟨rv,h dx s' q1 q2 I3⟩
  | next=>exact False.elim hq'
  | brk=>exact False.elim hq'
  | cont=>exact False.elim hq'
end
theorem Qgl {M:Model} {A:Around} {E:Value->Shared->Prop} {s:Shared} {env:Env} {go:Sem Value} {Q:Flow->Shared->Prop} {a b:Str} {C N:Addr} {x1 x2:List Value} {x4:Bool} {x5:List Str} {x6:List Value} {x7:Bool} {x8:Option Bool} {x9:Option Addr} {y0 y1 y2 y3 y5:Option Value} {nw:String} (hb:x2.contains (.type "BaseException")=true) (hh:A.handled=none)
  (h:wpAny M A go (fun v s1=>∃ e t dx,v=.ref e/\s1.heap.get? C=some (excClassObj a b C N x1 x2 x4 x5 x6 x7 x8 x9 y0 y1 y2 y3 y5 nw)/\s1.heap.get? e=some { exE C t with dict:=dx }/\E (.ref e) s1) E s):wpAny M A (raiseStmt env (some go) none) Q E s:=by
 have yes:(Value.ref C :: x2).contains (.type "BaseException")=true:=by rw [jZe,hb,Bool.or_true]
 unfold raiseStmt
 refine jZ (wpAny_mono h (fun v s1 z=>?_) fun _ _ z=>z)
 obtain ⟨e,t,dx,rfl,hC,he,z⟩:=z
 obtain ⟨h1,g,d,k,os⟩:=s1
 dsimp only at *
 repeat first
  | with_reducible refine wpAny_loadPart_at he ?_
  | with_reducible refine wpAny_loadPart_at hC ?_
  | (with_reducible refine wpAny_isSubtype_exc hC ?_;rw [yes])
  | wp_step
 exact wpAny_raiseNew_none hh z
def rm (H:Hp) (e:Addr):Hp:=fun b=>if b=e then none else H b
theorem Wk {H:Hp} {e:Addr}:rm H e e=none:=if_pos rfl
theorem Wz {H:Hp} {e b:Addr} (h:b ≠ e):rm H e b=H b:=if_neg h
section
variable {P:Program} {w:World} {K:Fg} {mg:Str->Option Value} {base:Heap} {N:List Str} {qual:Str} {scope:Scope} {f:Addr} {cd:Value} {A:Around} {outer:List Env} {s₀:Shared} {H₀:Hp} {E:XK} {C D f2:Addr}
 {pins:List (Addr × Obj)} {σ:St} {H:Hp} {s:Shared} {n:Str}
theorem Un.rm {fs:List Addr} {h h':Heap} {e:Addr} {φ:Heap->Prop} (u:Un fs [] H₀ H h h') (hx:H e=some (.ext φ)):Un fs [] H₀ (L2.rm H e) h h' where
 keep:=u.keep
 slot:=u.slot
 free:=fun b o e1 z nx=>by
  by_cases c:b=e
  ·rw [c];exact Wk
  ·rw [Wz c];exact u.free b o e1 z nx
 there:=u.there
 tups:=fun b xs z=>by
  have t:=u.tups b xs z
  rw [Wz fun c=>by rw [c,hx] at t;cases t];exact t
 frzs:=fun b o v z=>by
  have t:=u.frzs b o v z
  rw [Wz fun c=>by rw [c,hx] at t;cases t];exact t
 tbls:=fun b ps z=>by
  obtain ⟨m,t⟩:=u.tbls b ps z
  exact ⟨m,by rw [Wz fun c=>by rw [c,hx] at t;cases t];exact t⟩
theorem HOk.rm {h:Heap} {e:Addr} {φ:Heap->Prop} (x:HOk P w H h) (hx:H e=some (.ext φ)):HOk P w (L2.rm H e) h:=fun b o z=>by
 have nb:b ≠ e:=fun c=>by rw [c,Wk] at z;cases z
 rw [Wz nb] at z
 exact (x b o z).stay (fun _ _ _ q=>q) (fun c q=>by rw [Wz fun y=>by rw [y,hx] at q;cases q];exact q) fun c xs q=>by rw [Wz fun y=>by rw [y,hx] at q;cases q];exact q
theorem Qol {e dx:Addr} (I:Inv (cxG P w C K mg base N qual scope f cd A outer s₀ H₀ E) pins σ H s) (new:s₀.heap.get? e=none) (hx:H e=some (excM e C dx)) (q:E (.ref C) (some dx) (L2.rm H e)):(cxG P w C K mg base N qual scope f cd A outer s₀ H₀ E).xe (.ref e) s:=by
 obtain ⟨t,he⟩:=(I.hok e _ hx).1
 show wpAny _ _ (leaving (envOfC qual scope s₀.heap.objs.size f cd) (.ref e)) _ _ _
 have ff:s.heap.FunFrames base (envOfC qual scope s₀.heap.objs.size f cd :: outer):=I.stack
 have sf:∀ b ∈ frs (envOfC qual scope s₀.heap.objs.size f cd :: outer),H b=none:=I.stkFree
 have st:(hideAll s.heap (e :: frs (envOfC qual scope s₀.heap.objs.size f cd :: outer))).StaysIn s.heap:=fun b o z=>of_hideAll _ z
 refine Qbj (base:=hideAll s.heap (e :: frs (envOfC qual scope s₀.heap.objs.size f cd :: outer))) (G:=exG C dx) Qev I.ok.frames rfl (funFrames_hide ff fun env he b hb=>jY _ (zV.mpr ⟨env,he,hb⟩)) he st (hideAll_none _ jX) rfl rfl ⟨rfl,rfl⟩ fun h2 fl up=>?_
 have sub:∀ b ∈ frs outer,b ∈ frs (envOfC qual scope s₀.heap.objs.size f cd :: outer):=fun b hb=>zV.mpr (let ⟨env,he,hf⟩:=zV.mp hb;⟨env,jY _ he,hf⟩)
 have hc:∀ b,b ∉ frs outer->((∃ o,s₀.heap.get? b=some o)\/L2.rm H e b ≠ none)->∃ o,(hideAll s.heap (e :: frs (envOfC qual scope s₀.heap.objs.size f cd :: outer))).get? b=some o:=fun b hb z=>by
  rcases z with ⟨o,e0⟩ | z
  ·obtain ⟨o',e1⟩:=I.base.there b o e0 (by intro z;cases z)
   refine ⟨o',hideAll_get _ e1 fun y=>?_⟩
   rcases jJ.mp y with y | y
   ·rw [y,new] at e0;cases e0
   ·exact Qdw I e0 hb y
  ·have nb:b ≠ e:=fun c=>z (by rw [c];exact Wk)
   rw [Wz nb] at z
   cases eH:H b with
   | none=>exact absurd eH z
   | some ob =>
    obtain ⟨o',e1⟩:=(I.hok b ob eH).ex
    refine ⟨o',hideAll_get _ e1 fun y=>?_⟩
    rcases jJ.mp y with y | y
    ·exact nb y
    ·exact z (sf b y)
 refine ⟨e,dx,L2.rm H e,_,rfl,q,I.os,I.bare,Qaz (Un.rm I.base hx) hc st fl.1 up fun b hb=>Qw ff b (sub b hb),Jy (HOk.rm I.hok hx) hc st fl.1 fun b hb=>?_,hc,fl⟩
 by_cases c:b=e
 ·rw [c];exact Wk
 ·rw [Wz c];exact sf b (sub b hb)
theorem Kh {k:Nat} {fd:FuncData} {p x:Str} {fo:Obj} {np cpos pos:Pos} {a:Expr} {ta:TA} (F:ErrI K mg x C D f2 n) (G:FnOk P w K mg base CX0 k f2 fd ["self",p] (spXI C n)) (hb:Binds K fd ["self",p] []) (hf:K.lookup f2=some fo) (hl:fo.cls=.type "function") (kp:keepIn K (.ref C)=true)
  (hr:Room (k + 1) (A.deeper (envOfC qual scope s₀.heap.objs.size f cd))) (ha:PA (cxG P w C K mg base N qual scope f cd A outer s₀ H₀ E) [a] ta) (hg:autoParam (Gl (cxG P w C K mg base N qual scope f cd A outer s₀ H₀ E) x) L2.aRfl._auto_1) (hd:autoParam ((x == ("__debug__":Str))=false) L2.aDec._auto_1)
  (he:autoParam (starEach [a] (envOfC qual scope s₀.heap.objs.size f cd)=(false,eval a (envOfC qual scope s₀.heap.objs.size f cd)) :: starEach [] (envOfC qual scope s₀.heap.objs.size f cd)) L2.aRfl._auto_1) :
  PS (cxG P w C K mg base N qual scope f cd A outer s₀ H₀ E) (.Raise (some (.Call (.Name x np) [a] [] cpos)) none pos) (fun _ σ H=>ta σ H fun vs H1=>∃ y,vs=[y]/\∀ dx,H1 dx=none->E (.ref C) (some dx) (upd H1 dx (.xd [(n,y)]))):=by
 intro pins s σ H D' I h
 obtain ⟨c1,c2,N',c3,c4,c5,c6,c7,c8,c9,d1,d2,d3,d4,lk,ok,z1,z2,z3⟩:=F.cls
 rw [arm_exec_Raise]
 refine jZ (wpAny_standAt (Qgl (C:=C) (a:=c1) (b:=c2) (N:=N') (x1:=c3) (x2:=.ref D :: vErr) (x4:=true) (x5:=c4) (x6:=c5) (x7:=c6) (x8:=c7) (x9:=c8) (y0:=c9) (y1:=d1) (y2:=d2) (y3:=d3) (y5:=d4) (nw:="ValueError.__new__") (by rw [jZe];exact Bool.or_eq_true_iff.mpr (.inr (by decide +kernel))) (I.ok.hd rfl) (jZ (wpAny_mono (wpAny_Call_Name_kw (Zi I hg F.bound ?_ hd)) (fun v s3 z=>jZ (wpAny_standAt (kJ z))) fun _ _ z=>z))))
 refine callWith_K (h₀:=base) I.ok.mod.kin kp (thn (ha cpos pins s σ H _ I h) fun us s1 ⟨vs,H1,I1,r,y,ey,q⟩=>⟨I1.kIn,?_⟩) he rfl
 subst ey
 cases r with
 | cons r0 rr =>
  cases rr
  have big:s₀.heap.objs.size<=s1.heap.objs.size + 1:=by
   obtain ⟨m,⟨o,_,_,ho,_⟩,_⟩:=I1.loc
   exact kQc (wW (kX ho))
  refine Qok F G hr hb hf hl I1 r0 fun dx s' q1 q2 J=>?_
  have hx:upd (upd H1 (s1.heap.objs.size + 1) (excM (s1.heap.objs.size + 1) C dx)) dx (.xd [(n,y)]) (s1.heap.objs.size + 1)=some (excM (s1.heap.objs.size + 1) C dx):=by rw [Ql (Ne.symm q2)];exact Qd
  obtain ⟨t,e1⟩:=(J.hok _ _ hx).1
  refine ⟨_,t,some dx,rfl,J.kIn _ _ lk,e1,Qol J (kXc big) hx ?_⟩
  have eq:L2.rm (upd (upd H1 (s1.heap.objs.size + 1) (excM (s1.heap.objs.size + 1) C dx)) dx (.xd [(n,y)])) (s1.heap.objs.size + 1)=upd H1 dx (.xd [(n,y)]):=by
   funext b
   by_cases c:b=s1.heap.objs.size + 1
   ·rw [c,Wk,Ql (Ne.symm q2)]
    exact (I1.hok.fresh (jZa _)).symm
   ·rw [Wz c]
    by_cases c':b=dx
    ·rw [c',Qd,Qd]
    ·rw [Ql c',Ql c',Ql c]
  rw [eq]
  exact q dx q1
end
section
variable {X:Cx} {k:Nat} {f C D:Addr} {fd:FuncData} {ps:List Str} {sp:Sp} {g x n c:Str} {p np pc pn cpos epos hpos apos pos:Pos} {a:Expr} {es:List Expr} {t:TA} {i j:Nat}
theorem Qil (hxe:X.xe=fun _ _=>False) (hst:X.stack=X.env :: X.outer) (hfm:X.env.frame=some X.env.locals) (F:FnOk X.prog X.w X.K X.mg X.base (CXg X.prog X.w C) k f fd ps sp) (hr:Room k X.A) (hm:X.mg g=some (.ref f)) (hk:PySem.W.keepIn X.K (.ref f)=true) (hb:Binds X.K fd ps [])
  (hmx:X.mg x=some (.ref D)) (hCD:IsA X.K C D) (hN:X.N.Nodup) (ha:PA X (a :: es) t) (hi:X.N[i]?=some c) (hj:X.N[j]?=some n) (hij:i ≠ j) (hic:X.env.scope.names.lookup c=some .local) (hjn:X.env.scope.names.lookup n=some .local)
  (hg:autoParam (Gl X g) L2.aRfl._auto_1) (hgx:autoParam (Gl X x) L2.aRfl._auto_1) (hdb:autoParam ((g == ("__debug__":Str))=false) L2.aDec._auto_1) (hdx:autoParam ((x == ("__debug__":Str))=false) L2.aDec._auto_1) (hdn:autoParam ((n == ("__debug__":Str))=false) L2.aDec._auto_1) (hcd:autoParam ((n == ("__classdict__":Str))=false) L2.aDec._auto_1)
  (he:autoParam (starEach (a :: es) X.env=(false,eval a X.env) :: starEach es X.env) L2.aRfl._auto_1) (hpl:autoParam ((backTo cpos (starEach es X.env)).any (·.1)=false) L2.aRfl._auto_1) (hs:autoParam (swapsWith (.Call (.Name g p) (a :: es) [] cpos) none epos.line X.env=pure false) L2.aRfl._auto_1) :
  PS X (.Try [.Expr (.Call (.Name g p) (a :: es) [] cpos) epos] [.ExceptHandler (some (.Name x np)) (some n) [.Assign [.Name c pc] (.Name n pn) apos] hpos] [] [] pos)
   (fun D σ H=>t σ H fun vs H1=>sp vs H1 (fun _ H2=>D.nx σ H2) (fun _ od H2=>∀ e dx,od=some dx->H2 e=none->D.nx (((σ.set j (some (.ref e))).set i (some (.ref e))).set j none) (upd H2 e (excD e C dx)))):=by
 intro pins s σ H Ds I h
 refine wpAny_Try_except (wpAny_execs_cons (wpAny_Expr_any ?_ I.quiet hs))
 refine wpAny_Call_Name_kw (Zi I hg hm ?_ hdb)
 refine PySem.W.callWith_K (h₀:=X.base) I.ok.mod.kin hk (wpAny_mono (ha cpos pins s σ H _ I h) (fun us s1 ⟨vs,H1,I1,r,q⟩=>⟨I1.kIn,?_⟩) fun ev s1 z=>by rw [hxe] at z;exact z.elim) he hpl
 have hl:us.length=ps.length:=by rw [← r.length];exact F.len _ _ _ _ q
 have bd:=hb s1 us I1.kIn (by rw [jJe];exact hl)
 rw [jJe] at bd
 refine wpAny_call (codeAny_mono (F.run X.A X.stack s1 H1 ⟨us,[]⟩ us vs _ _ hr I1.env0 bd r q) fun rr s' hq=>?_)
 cases rr with
 | ok fl =>
  cases fl with
  | ret u =>
   obtain ⟨v,H',I',r',q'⟩:=I1.after hq
   exact wpAny_execs_nil (wpAny_execs_nil ⟨σ,H',I',q'⟩)
  | next=>exact False.elim hq
  | brk=>exact False.elim hq
  | cont=>exact False.elim hq
 | error ev =>
  obtain ⟨e,dx,H',B,rfl,q,os,bare,un,hok,hc,fl⟩:=hq
  have fr1:=Qw I1.stack
  have fH':∀ b ∈ frs X.stack,H' b=none:=fun b hb=>by
   obtain ⟨o1,e1,_⟩:=fr1 b hb
   exact un.free b o1 e1 (I1.stkFree b hb) (by intro z;cases z)
  have inv_at:∀ h2:Heap,B.StaysIn h2->s'.heap.UpToSlots h2->Inv X pins σ H' { s' with heap:=h2 }:=fun h2 b2 up =>
   I1.call' (ch:=[]) os (Qaz un hc fl.1 b2 up (Qw fl.2.2.1)) (Jy hok hc fl.1 b2 fH') bare (fun b z=>absurd z (by simp))
  have fl':FlyG B (X.env :: X.outer) e (exG C dx) s'.heap:=hst ▸ fl
  have hfr:X.A.frames=some (X.env :: X.outer):=hst ▸ I.ok.frames
  refine Ko Qev hfr fl'.2.2.1 hfm fl'.2.2.2 fl'.1 fl'.2.1 fun h4 k1 k2 k3 up4=>?_
  refine Kp k1 k2 k3 fun h5 j1 j2 j3 up5=>?_
  have fl5:FlyG B (X.env :: X.outer) e (exG C dx) h5:=⟨j1,fl'.2.1,j2,j3⟩
  have I5:=inv_at h5 fl5.1 (up4.trans up5)
  refine wpAny_handleBy_cons (codeAny_handlers_test (Zi (I5.suite e) hgx hmx ?_ hdx)) (by intro z;cases z)
  obtain ⟨ob,_,hob,⟨hobc,_⟩,_⟩:=fl5.there
  refine hCD _ _ _ { s' with heap:=h5 } e ob _ I5.kIn hob hobc (codeAny_handlers_suite_as ?_)
  refine Kp fl5.1 fl5.2.2.1 fl5.2.2.2 fun h6 i1 i2 i3 up6=>?_
  have fl6:FlyG B (X.env :: X.outer) e (exG C dx) h6:=⟨i1,fl'.2.1,i2,i3⟩
  have hBe:B.get? e=none:=fl.2.1
  have oldE:s1.heap.get? e=none:=by
   cases q1:s1.heap.get? e with
   | none=>rfl
   | some o =>
    exfalso
    by_cases hf:e ∈ frs X.stack
    ·obtain ⟨o1,e1,nf⟩:=Qw fl.2.2.1 e hf
     obtain ⟨oe,ws,he1,_,hed⟩:=fl.there
     rw [e1] at he1
     cases he1
     exact nf _ hed
    ·obtain ⟨o2,e2⟩:=hc e hf (.inl ⟨o,q1⟩)
     rw [hBe] at e2
     cases e2
  have newE:H' e=none:=by
   cases q1:H' e with
   | none=>rfl
   | some o =>
    exfalso
    obtain ⟨o2,e2⟩:=hc e (fun z=>by rw [fH' e z] at q1;cases q1) (.inr (by rw [q1];simp))
    rw [hBe] at e2
    cases e2
  have I6:Inv X pins σ (upd H' e (excD e C dx)) { s' with heap:=h6 }:=I1.call' (ch:=[]) os (Un.track (Qaz un hc fl.1 fl6.1 ((up4.trans up5).trans up6) (Qw fl.2.2.1)) oldE newE)
   (HOk.track (Jy hok hc fl.1 fl6.1 fH') newE (by
    obtain ⟨ob6,ws6,g1,⟨g2,g3⟩,g4⟩:=fl6.there
    obtain ⟨p1,p2,p3,p4⟩:=ob6
    dsimp only at g2 g3 g4
    subst g2 g3 g4
    exact Qik g1)) bare (fun b z=>absurd z (by simp))
  have hjσ:j < σ.length:=by rw [I.len];exact (kZ.mp hj).1
  refine Zf I6 hN hj (.inl hjn) (v:=.ref e) rfl (fun s7 I7'=>?_) (.inr hjn)
  have I7:=I7'.suite e
  have P:=Qi (Qs (X:=X.suite e) (i:=i) (pos:=apos) (pos':=pc) hN hi (.inl hic) (Qeg (pos:=pn) hj (.inl hjn) hdn hcd) rfl (.inr hic))
  refine wpAny_mono (P pins s7 _ _ { nx:=fun σ' H2=>σ'=(σ.set j (some (.ref e))).set i (some (.ref e))/\H2=upd H' e (excD e C dx),rt:=fun _ _=>False } I7 ⟨.ref e,by rw [wQ hjσ],rfl,rfl⟩) (fun fl8 s8 h8=>?_) (fun _ _ z=>z.elim)
  cases fl8 with
  | ret u=>obtain ⟨_,_,_,_,_,z⟩:=h8;exact z.elim
  | brk=>obtain ⟨_,_,_,z⟩:=h8;exact z.elim
  | cont=>obtain ⟨_,_,_,z⟩:=h8;exact z.elim
  | next =>
   obtain ⟨σ8,H8,I8,rfl,rfl⟩:=h8
   have I8':=I8.unsuite I.ok
   show wpAny _ _ (bindName X.env n Value.none >>= fun _=>unbindBehindTheSuite X.env n hpos) _ _ _
   refine jZ ?_
   unfold bindName
   refine jZ (wpAny_holding (wpAny_point ?_))
   refine jZ (Zf I8' hN hj (.inl hjn) (v:=.non) rfl (fun s9 I9=>wpAny_point ?_) (.inr hjn))
   unfold unbindBehindTheSuite
   have hjσ':j < (((σ.set j (some (.ref e))).set i (some (.ref e))).set j (some V.non)).length:=by simp;exact hjσ
   refine wpAny_onRaise (Vy I9 hN hj hjn (v:=.non) (by rw [wQ (by simp;exact hjσ)]) fun s10 I10=>?_)
   rw [List.set_set] at I10
   exact ⟨_,_,I10,q e dx rfl newE⟩
end
section
variable {X:Cx}
theorem Ki:Jm X (.builtin "isinstance") (fun xs H Q=>∃ (e C dx:Addr),H e=some (excD e C dx)/\ExcIn X.K C/\((∃ D b,xs=[.ref e,.ref D]/\kitOne X.K (.ref C) (.ref D)=some b/\Q (.bl b) H)\/(∃ T b,xs=[.ref e,.ty T]/\kitOne X.K (.ref C) (.type T)=some b/\Q (.bl b) H) \/
  ∃ (p:Addr) (Ds:List Addr) (b:Bool),xs=[.ref e,.ref p]/\H p=some (.tup (Ds.map V.ref))/\kitAny X.K (.ref C) (Ds.map Value.ref)=some b/\Q (.bl b) H)):=by
 intro pins s σ H xs us Q I rv h
 obtain ⟨e,C,dx,he,Z,h⟩:=h
 have φ:∃ o,s.heap.get? e=some o/\o.cls=.ref C:=(let ⟨fs,sl,z⟩:=(I.hok e _ he).1;⟨_,z,rfl⟩)
 rcases h with ⟨D,b,rfl,hk,q⟩ | ⟨T,b,rfl,hk,q⟩ | ⟨p,Ds,b,rfl,hp,hk,q⟩
 ·obtain ⟨u,v,rfl,ru,rT⟩:=rv.two
  cases ru
  cases rT
  exact kia_one (Je Z) I.kIn φ hk (fun z=>nomatch z) fun tk=>⟨.bl b,H,I.tok tk,rfl,q⟩
 ·obtain ⟨u,v,rfl,ru,rT⟩:=rv.two
  cases ru
  cases rT
  exact kia_one (Je Z) I.kIn φ hk (fun z=>nomatch z) fun tk=>⟨.bl b,H,I.tok tk,rfl,q⟩
 ·obtain ⟨u,v,rfl,ru,rT⟩:=rv.two
  cases ru
  cases rT
  obtain ⟨_,its,r,ob,e1,e2,e3⟩:=(show ObjOk X.prog X.w H s.heap p (.tup (Ds.map V.ref)) from I.hok p _ hp)
  have ei:=Qdo r
  subst ei
  obtain ⟨n,e3⟩:=e3
  obtain ⟨cls,dct,dat,sl⟩:=ob
  simp only at e2 e3
  subst e2 e3
  exact kia_tup (Je Z) I.kIn φ e1 hk (fun z=>nomatch z) fun tk=>⟨.bl b,H,I.tok tk,rfl,q⟩
def tFldD (K:Fg) (ta:TE) (n:Str):TE:=fun σ H Q=>ta σ H fun z H1=>∃ (e C dx:Addr) (fs:List (Str × V)) (v:V),z=.ref e/\H1 e=some (excD e C dx)/\H1 dx=some (.xd fs)/\ExcFld K C n/\fs.lookup n=some v/\Q v H1
theorem Qbl {o:Expr} {n:Str} {pos:Pos} {ta:TE} (ho:PE X o ta) (hb:attributeBase o n X.env (eval o X.env)=eval o X.env):PE X (.Attribute o n pos) (tFldD X.K ta n):=by
 intro pins s σ H Q I h
 refine Qhe hb (thn (ho pins s σ H _ I h) fun u s1 hqP=>?_)
 obtain ⟨z,H1,I1,rz,e,C,dx,fs,v,ez,ee,ed,Z,l,q⟩:=hqP
 subst ez
 obtain rfl:u=Value.ref e:=rz
 obtain ⟨fs0,sl,e1⟩:=(I1.hok e _ ee).1
 obtain ⟨mA,N1,r⟩:=(show ObjOk X.prog X.w H1 s1.heap dx (.xd fs) from I1.hok dx _ ed)
 obtain ⟨u',hu,ru⟩:=RelO.some_of (v:=v) (o:=mA n) (by rw [← l];exact r n)
 exact Qof I1.kIn Z e1 N1.ns hu (handedOut_of (Qbz ru)) ⟨v,H1,I1.tok _,ru,q⟩
end
section
variable {P:Program} {w:World} {K:Fg} {mg:Str->Option Value} {base:Heap} {N:List Str} {qual:Str} {scope:Scope} {f:Addr} {cd:Value} {A:Around} {outer:List Env} {s₀:Shared} {H₀:Hp} {E:XK} {C:Addr}
theorem Fun.okG {x qual:Str} {st:Stmt} {f:Addr} {fd:FuncData} {N ps:List Str} {k:Nat} {sp:Sp} (F:Fun K x qual st f fd) (S:FnScope N ps (Qh st)) (len:∀ vs H Q E,sp vs H Q E->vs.length=ps.length)
  (hbody:∀ (cdv:Value) (A:Around) (outer:List Env) (s:Shared) (H:Hp) (vs:List V) (Q:VK) (E:XK),Room k (A.deeper (envOfC qual (Qh st) s.heap.objs.size f cdv))->sp vs H Q E ->
   ∃ t,PSs (cxG P w C K mg base N qual (Qh st) f cdv A outer s H E) (Qz st) t/\t { nx:=fun _ H'=>Q .non H',rt:=Q } (start N vs) H):FnOk P w K mg base (CXg P w C) (k + 1) f fd ps sp:=by
 obtain ⟨oc,od,kV,doc,pm,an,cdv,ct,osl,rfl,lk,hcd⟩:=F.ex
 exact Qni lk hcd S len fun A outer s H vs Q E hr hsp=>hbody cdv A outer s H vs Q E hr hsp
structure CalG (P:Program) (w:World) (K:Fg) (mg:Str->Option Value) (base:Heap) (C:Addr) (k:Nat) (x:Str) (ps:List Str) (sp:Sp):Prop where
 ex:∃ f fd,FnOk P w K mg base (CXg P w C) k f fd ps sp/\mg x=some (.ref f)/\PySem.W.keepIn K (.ref f)=true/\Binds K fd ps []
theorem Qom {k:Nat} {x:Str} {st:Stmt} {N ps:List Str} {sp:Sp} (F:Fn K mg x st) (S:FnScope N ps (Qh st))
  (hb:∀ (kV doc pm:Value) (an:Option Addr) (cdv ct:Value) (us:List Value),us.length=ps.length->bindArgs (PySem.W.fnOf x x (Xd st) (Qz st) (Qh st) .none kV doc pm an cdv ct) ⟨us,[]⟩=pure (ps.zip us)) (len:∀ vs H Q E,sp vs H Q E->vs.length=ps.length)
  (hbody:∀ (f:Addr) (cdv:Value) (A:Around) (outer:List Env) (s:Shared) (H:Hp) (vs:List V) (Q:VK) (E:XK),Room k (A.deeper (envOfC x (Qh st) s.heap.objs.size f cdv))->sp vs H Q E ->
   ∃ t,PSs (cxG P w C K mg base N x (Qh st) f cdv A outer s H E) (Qz st) t/\t { nx:=fun _ H'=>Q .non H',rt:=Q } (start N vs) H):CalG P w K mg base C (k + 1) x ps sp:=by
 obtain ⟨f,fd,F,m⟩:=F
 exact ⟨f,fd,Fun.okG F S len fun cdv=>hbody f cdv,m,F.kp,F.binds hb⟩
theorem pe_fnG {A:Around} {k:Nat} {x:Str} {ps:List Str} {sp:Sp} {e:Expr} {es:List Expr} {t:TA} {p pos:Pos} (c:CalG P w K mg base C k x ps sp) (hr:Room k (A.deeper (envOfC qual scope s₀.heap.objs.size f cd))) (ha:PA (cxG P w C K mg base N qual scope f cd A outer s₀ H₀ E) (e :: es) t)
  (hg:autoParam (Gl (cxG P w C K mg base N qual scope f cd A outer s₀ H₀ E) x) L2.aRfl._auto_1) (hdb:autoParam ((x == ("__debug__":Str))=false) L2.aDec._auto_1) (he:autoParam (starEach (e :: es) (cxG P w C K mg base N qual scope f cd A outer s₀ H₀ E).env=(false,eval e (cxG P w C K mg base N qual scope f cd A outer s₀ H₀ E).env) :: starEach es (cxG P w C K mg base N qual scope f cd A outer s₀ H₀ E).env) L2.aRfl._auto_1)
  (hpl:autoParam ((backTo pos (starEach es (cxG P w C K mg base N qual scope f cd A outer s₀ H₀ E).env)).any (·.1)=false) L2.aRfl._auto_1):PE (cxG P w C K mg base N qual scope f cd A outer s₀ H₀ E) (.Call (.Name x p) (e :: es) [] pos) (Qnh sp [] E t):=by
 obtain ⟨f',fd,F,m,kp,b⟩:=c.ex
 exact Qhg F hr hg m kp b .nil Qbk ha hdb he hpl
end
end L2
namespace Nb
open PySem L2
abbrev sIN:Stmt:=top 14
abbrev Qlh:Stmt:=top 17
abbrev sNee:Stmt:=top 18
def Plain (x:Str):Prop:=x.cps.all (· < 128)=true/\x.length<=100000
def Qaa:Key->Prop
 | .inl _=>True
 | .inr x=>Plain x
def isInt:Key->Bool
 | .inl _=>true
 | .inr _=>false
def IsNm (k:Key):Prop:=∃ x,k=.inr x/\NmOk x
open Classical in
open Classical in
theorem Qon {b c:Bool} {P:Prop} (h1:b=true ↔ P) (h2:c=true ↔ P):b=c:=by
 cases b <;> cases c
 ·rfl
 ·exact absurd (h1.mpr (h2.mp rfl)) kK
 ·exact absurd (h2.mpr (h1.mp rfl)) kK
 ·rfl
theorem Qim {x:Str} {lo hi:Nat}:(((sg x).map fun c=>decide (lo<=c) && decide (c<=hi)).all id=true) ↔ ∀ c ∈ sg x,lo<=c/\c<=hi:=by
 rw [List.all_map,wJ]
 constructor
 ·intro h c hc
  have:=h c hc
  simp only [Function.comp,id,xQ,decide_eq_true_eq] at this
  exact this
 ·intro h c hc
  simp only [Function.comp,id,xQ,decide_eq_true_eq]
  exact h c hc
theorem Wl (r:BR):r.key.length=1 + r.names.length:=by
 unfold BR.key
 rw [zJ,jK]
 lia
theorem Qoo (r:BR):cutV (r.cells.map kV) none (some (1 + ((r.names.length:Nat):Int)))=r.key.map kV:=by
 unfold cutV
 have h1:(1:Int) + ((r.names.length:Nat):Int)=((r.key.length:Nat):Int):=by rw [Wl];lia
 have h2:r.key.length<=r.cells.length:=by unfold BR.cells;rw [jW];lia
 rw [HT.sIx_none,List.drop_zero,Nat.sub_zero,h1,HT.sIx_nat,jK,xK h2,← List.map_take]
 unfold BR.cells
 rw [List.take_left']
 rfl
theorem Qli (r:BR):cutV (r.cells.map kV) (some (1 + ((r.names.length:Nat):Int))) none=r.nums.map V.int:=by
 unfold cutV
 have h1:(1:Int) + ((r.names.length:Nat):Int)=((r.key.length:Nat):Int):=by rw [Wl];lia
 have h2:r.key.length<=r.cells.length:=by unfold BR.cells;rw [jW];lia
 rw [HT.sIx_none,h1,HT.sIx_nat,jK,xK h2,← List.map_drop]
 unfold BR.cells
 rw [List.drop_left',jW,Nat.add_sub_cancel_left,jKa,jYa (by rw [jK,jK];exact kQ _)]
 ·rfl
 ·rfl
def Qin:Sp:=fun vs H Q _=>∃ (l:Addr) (r:BR),vs=[.ref l]/\H l=some (.lst (r.cells.map kV))/\∀ (t:Addr) (H':Hp),Same H H'->H t=none->H' t=some (.tup (r.key.map kV))->Q (.ref t) H'
theorem not_true {b:Bool} (h:(!b)=true):¬ b=true:=by cases b <;> simp_all
theorem Vh {x:Str} (h:NmOk x):Plain x:=by
 refine ⟨?_,by have:=h.2.1;lia⟩
 rw [← Array.all_toList,wJ]
 intro c hc
 have:=h.2.2 c hc
 exact yV (by lia)
theorem Qbm (r:BR):(bdsK r.kind).length=r.nums.length:=by
 cases r with
 | use k w v t m=>match k with | 0=>rfl | 1=>rfl | 2=>rfl
 | _=>rfl
theorem Vb (r:BR):(r.cells.map kV).length=1 + r.names.length + r.nums.length:=by
 rw [Qcv,jW,jK,jK,Wl]
theorem Wm {r:BR} (h:r.kind=2):∃ b f t,r=.shut b f t:=by
 cases r with
 | shut b f t=>exact ⟨b,f,t,rfl⟩
 | use k _ _ _ _=>exact absurd (show 6 + k.val=2 from h) (by lia)
 | _=>exact nomatch h
theorem Zp {r:BR} (h:r.kind=3):∃ b m f,r=.store b m f:=by
 cases r with
 | store b m f=>exact ⟨b,m,f,rfl⟩
 | use k _ _ _ _=>exact absurd (show 6 + k.val=3 from h) (by lia)
 | _=>exact nomatch h
theorem Qio {r:BR} (h:r.word="shut"):∃ b f t,r=.shut b f t:=Wm ((Jh r (k:=2) (by decide)).mp h)
theorem Qgm {r:BR} (h:r.word="store"):∃ b m f,r=.store b m f:=Zp ((Jh r (k:=3) (by decide)).mp h)
def Qew (H:Hp):List V->List (List Key)->Prop:=Paired fun v k=>∃ t,v=.ref t/\H t=some (.tup (k.map kV))
def Qex:Sp:=fun vs H Q _=>∃ (l:Addr) (r:BR),vs=[.ref l]/\H l=some (.lst (r.cells.map kV))/\∀ (g:Addr) (ys:List V) (H':Hp),Same H H'->H' g=some (.lst ys)->Qew H' ys r.needs->Q (.ref g) H'
theorem Qey {K:Fg}:∀ {ys:List V} {ps:List Nat},Paired (fun x t=>TvAt K 1 t x) ys (ps.map fun (p:Nat)=>TV.int (p:Int))->ys=ps.map fun (p:Nat)=>V.int (p:Int)
 | _,[],.nil=>rfl
 | _,q :: ps,.cons h t=>by
  cases h
  rw [Qey t]
  rfl
theorem Qez {K:Fg}:∀ {xs:List V} {nds:List (Str × List Nat)},Paired (fun x t=>TvAt K 2 t x) xs (nds.map tvN)->∃ zs:List (Addr × Str × List Nat),xs=zs.map (fun z=>V.ref z.1)/\zs.map (·.2)=nds/\∀ z ∈ zs,∀ H,SqT K H z.1 (V.str z.2.1 :: z.2.2.map fun (p:Nat)=>V.int (p:Int))
 | _,[],.nil=>⟨[],rfl,rfl,fun _ h=>nomatch h⟩
 | _,b :: nds,.cons h t=>by
  obtain ⟨zs,e1,e2,hz⟩:=Qez t
  obtain ⟨a,ys,rfl,hy,hp⟩:=h
  have ey:ys=V.str b.1 :: b.2.map fun (p:Nat)=>V.int (p:Int):=by
   cases hp with
   | cons h1 h2 =>
    cases h1
    rw [Qey h2]
  subst ey
  refine ⟨(a,b) :: zs,by rw [e1];rfl,by rw [xZ,e2],fun z h5=>?_⟩
  rcases jJ.mp h5 with e | e
  ·rw [e];exact hy
  ·exact hz z e
theorem Qlj {X:Cx} {K:Fg} (hK:X.K=K):OpR X (binaryOp .Add) (rCatT K):=by subst hK;exact Qnk
theorem tvB_at {K:Fg} {x:V} {b:Int × Option Int} (h:TvAt K 2 (tvB b) x):∃ a,x=.ref a/\∀ H,SqT K H a [.int b.1,match b.2 with | none=>V.non | some z=>V.int z]:=by
 obtain ⟨a,ys,rfl,hy,hp⟩:=h
 refine ⟨a,rfl,?_⟩
 have ey:ys=[.int b.1,match b.2 with | none=>V.non | some z=>V.int z]:=by
  cases hp with
  | cons h1 h2 =>
   cases h1
   cases h2 with
   | cons h3 h4 =>
    cases h4
    cases e:b.2 with
    | none=>rw [e] at h3;cases h3;rfl
    | some z=>rw [e] at h3;cases h3;rfl
 rw [← ey]
 exact hy
theorem Qop {X:Cx} {K:Fg} (hK:X.K=K):SlR X (rSlT K):=by subst hK;exact sl_tup
theorem cut1' (x:V) (xs:List V):cutV (x :: xs) (some 1) none=xs:=cut1 (α:=V) x xs
theorem Qcy (r:BR):(ndsK r.kind).length<=2/\∀ b ∈ ndsK r.kind,b.2.length<=2:=by
 have:∀ i,i < 11->(ndsK i).length<=2/\∀ b ∈ ndsK i,b.2.length<=2:=by decide +kernel
 exact this _ (Yu r)
theorem getD_at {ks:List Key} {p:Nat} (h:p < ks.length):atI (ks.map kV) (p:Int)=some (kV (ks.getD p (Sum.inl 0))):=by
 refine Zn ?_
 rw [xJ,gE h,List.getD_eq_getElem?_getD,gE h]
 rfl
def BR.ext:BR->Prop
 | .shut _ f t=>f < t
 | .store _ m f=>f<=m
 | .after w x _=>w ≠ x
 | _=>True
def InB (d:Int) (z:Int) (b:Int × Option Int):Prop:=b.1<=z/\z<=b.2.getD d
def BR.inn (d:Int) (r:BR):Prop:=Paired (InB d) r.nums (bdsK r.kind)/\r.ext
def Zh:List BR->Int
 | .days n :: _=>n
 | _=>0
structure Fit (A:List BR) (ks:List Key) (r:BR):Prop where
 eq:ks=r.cells
 gn:r.gn
 inn:r.inn (Zh A)
 nw:r.word ≠ "shut"->¬ Said A r.key
 nd:∀ k ∈ r.needs,Said A k
def Good (A:List BR):Prop:=∀ i r,A[i]?=some r->Fit (A.take i) r.cells r
theorem Qip {r:BR} (h:r.kind=0):∃ n,r=.days n:=by
 cases r with
 | days n=>exact ⟨n,rfl⟩
 | use k _ _ _ _=>exact absurd (show 6 + k.val=0 from h) (by lia)
 | _=>exact nomatch h
theorem Jl {r:BR} (h:r.kind=1):∃ b n,r=.bench b n:=by
 cases r with
 | bench b n=>exact ⟨b,n,rfl⟩
 | use k _ _ _ _=>exact absurd (show 6 + k.val=1 from h) (by lia)
 | _=>exact nomatch h
theorem Qbn {r:BR} (k:Fin 3) (h:r.kind=6 + k.val):∃ w v t m,r=.use k w v t m:=by
 have hk:=k.isLt
 cases r with
 | use j w v t m =>
  have e:j=k:=Fin.ext (by have:6 + j.val=6 + k.val:=h;lia)
  exact ⟨w,v,t,m,by rw [e]⟩
 | days n=>have:0=6 + k.val:=h;lia
 | bench b n=>have:1=6 + k.val:=h;lia
 | shut b f t=>have:2=6 + k.val:=h;lia
 | store b f t=>have:3=6 + k.val:=h;lia
 | work w=>have:4=6 + k.val:=h;lia
 | way w v l c=>have:5=6 + k.val:=h;lia
 | after w x g=>have:9=6 + k.val:=h;lia
 | late w d c=>have:10=6 + k.val:=h;lia
theorem Qai {r:BR} {a:Str} {ks:List Key} (h:r.cells=.inr a :: ks):r.word=a:=by
 have h':(Sum.inr r.word:Key) :: (r.names.map Sum.inr ++ r.nums.map Sum.inl)=.inr a :: ks:=h
 injection h' with h1 _
 exact Sum.inr.inj h1
theorem Qcz {r q:BR} (h:r.word=q.word):r.kind=q.kind:=Zo _ (Yu r) _ (Yu q) (by rw [← Yo,← Yo];exact h)
theorem Qgn {r q:BR} (h:r.cells=q.cells):r.kind=q.kind:=Qcz (Qai (h.trans (show q.cells=.inr q.word :: (q.names.map Sum.inr ++ q.nums.map Sum.inl) from rfl)))
theorem Zq (r:BR):r.names.length=([0,1,1,1,1,2,3,3,3,2,1]:List Nat).getD r.kind 0:=by
 cases r with
 | use k w v t m=>match k with | 0=>rfl | 1=>rfl | 2=>rfl
 | _=>rfl
theorem Qdy {r q:BR} (h:r.cells=q.cells):r.kind=q.kind/\r.names=q.names/\r.nums=q.nums:=by
 have hk:=Qgn h
 have h':r.key ++ r.nums.map Sum.inl=q.key ++ q.nums.map Sum.inl:=h
 have hl:r.key.length=q.key.length:=by rw [Wl,Wl,Zq,Zq,hk]
 obtain ⟨h1,h2⟩:=List.append_inj h' hl
 have h1':(Sum.inr r.word:Key) :: r.names.map Sum.inr=Sum.inr q.word :: q.names.map Sum.inr:=h1
 injection h1' with _ h3
 exact ⟨hk,(List.map_inj_right fun x y e=>Sum.inr.inj e).mp h3,(List.map_inj_right fun x y e=>Sum.inl.inj e).mp h2⟩
theorem br_ext {r q:BR} (hk:r.kind=q.kind) (hn:r.names=q.names) (hz:r.nums=q.nums):r=q:=by
 cases r with
 | days n =>
  obtain ⟨m,rfl⟩:=Qip hk.symm
  have:[n]=[m]:=hz
  injection this with e
  rw [e]
 | bench b n =>
  obtain ⟨c,m,rfl⟩:=Jl hk.symm
  have h1:[b]=[c]:=hn
  have h2:[n]=[m]:=hz
  injection h1 with e1
  injection h2 with e2
  rw [e1,e2]
 | shut b f t =>
  obtain ⟨c,f',t',rfl⟩:=Wm hk.symm
  have h1:[b]=[c]:=hn
  have h2:[f,t]=[f',t']:=hz
  injection h1 with e1
  injection h2 with e2 h3
  injection h3 with e3
  rw [e1,e2,e3]
 | store b m f =>
  obtain ⟨c,m',f',rfl⟩:=Zp hk.symm
  have h1:[b]=[c]:=hn
  have h2:[m,f]=[m',f']:=hz
  injection h1 with e1
  injection h2 with e2 h3
  injection h3 with e3
  rw [e1,e2,e3]
 | work w =>
  obtain ⟨c,rfl⟩:=Ke hk.symm
  have h1:[w]=[c]:=hn
  injection h1 with e1
  rw [e1]
 | way w v l c =>
  obtain ⟨w',v',l',c',rfl⟩:=Qbb hk.symm
  have h1:[w,v]=[w',v']:=hn
  have h2:[l,c]=[l',c']:=hz
  injection h1 with e1 h3
  injection h3 with e2
  injection h2 with e3 h4
  injection h4 with e4
  rw [e1,e2,e3,e4]
 | use k w v t m =>
  obtain ⟨w',v',t',m',rfl⟩:=Qbn k hk.symm
  have h1:[w,v,t]=[w',v',t']:=hn
  have h2:[m]=[m']:=hz
  injection h1 with e1 h3
  injection h3 with e2 h4
  injection h4 with e3
  injection h2 with e4
  rw [e1,e2,e3,e4]
 | after w x g =>
  obtain ⟨w',x',g',rfl⟩:=Ji hk.symm
  have h1:[w,x]=[w',x']:=hn
  have h2:[g]=[g']:=hz
  injection h1 with e1 h3
  injection h3 with e2
  injection h2 with e3
  rw [e1,e2,e3]
 | late w d c =>
  obtain ⟨w',d',c',rfl⟩:=Wf hk.symm
  have h1:[w]=[w']:=hn
  have h2:[d,c]=[d',c']:=hz
  injection h1 with e1
  injection h2 with e2 h3
  injection h3 with e3
  rw [e1,e2,e3]
theorem Kj {r q:BR} (h:r.cells=q.cells):r=q:=let ⟨a,b,c⟩:=Qdy h;br_ext a b c
def nmK (i:Nat):Nat:=([0,1,1,1,1,2,3,3,3,2,1]:List Nat).getD i 0
theorem l0 {α:Type} {l:List α} (h:l.length=0):l=[]:=jQa.mp h
theorem l1 {α:Type} {l:List α} (h:l.length=1):∃ a,l=[a]:=List.length_eq_one_iff.mp h
theorem l2 {α:Type} {l:List α} (h:l.length=2):∃ a b,l=[a,b]:=by
 match l,h with
 | [a,b],_=>exact ⟨a,b,rfl⟩
theorem l3 {α:Type} {l:List α} (h:l.length=3):∃ a b c,l=[a,b,c]:=by
 match l,h with
 | [a,b,c],_=>exact ⟨a,b,c,rfl⟩
theorem mk_row {i:Nat} (hi:i < 11) {xs:List Str} {zs:List Int} (hx:xs.length=nmK i) (hz:zs.length=(bdsK i).length):∃ r:BR,r.kind=i/\r.names=xs/\r.nums=zs:=by
 rcases (show i=0\/i=1\/i=2\/i=3\/i=4\/i=5\/i=6\/i=7\/i=8\/i=9\/i=10 by lia) with rfl | rfl | rfl | rfl | rfl | rfl | rfl | rfl | rfl | rfl | rfl
 ·obtain rfl:=l0 hx;obtain ⟨a,rfl⟩:=l1 hz;exact ⟨.days a,rfl,rfl,rfl⟩
 ·obtain ⟨x,rfl⟩:=l1 hx;obtain ⟨a,rfl⟩:=l1 hz;exact ⟨.bench x a,rfl,rfl,rfl⟩
 ·obtain ⟨x,rfl⟩:=l1 hx;obtain ⟨a,b,rfl⟩:=l2 hz;exact ⟨.shut x a b,rfl,rfl,rfl⟩
 ·obtain ⟨x,rfl⟩:=l1 hx;obtain ⟨a,b,rfl⟩:=l2 hz;exact ⟨.store x a b,rfl,rfl,rfl⟩
 ·obtain ⟨x,rfl⟩:=l1 hx;obtain rfl:=l0 hz;exact ⟨.work x,rfl,rfl,rfl⟩
 ·obtain ⟨x,y,rfl⟩:=l2 hx;obtain ⟨a,b,rfl⟩:=l2 hz;exact ⟨.way x y a b,rfl,rfl,rfl⟩
 ·obtain ⟨x,y,w,rfl⟩:=l3 hx;obtain ⟨a,rfl⟩:=l1 hz;exact ⟨.use 0 x y w a,rfl,rfl,rfl⟩
 ·obtain ⟨x,y,w,rfl⟩:=l3 hx;obtain ⟨a,rfl⟩:=l1 hz;exact ⟨.use 1 x y w a,rfl,rfl,rfl⟩
 ·obtain ⟨x,y,w,rfl⟩:=l3 hx;obtain ⟨a,rfl⟩:=l1 hz;exact ⟨.use 2 x y w a,rfl,rfl,rfl⟩
 ·obtain ⟨x,y,rfl⟩:=l2 hx;obtain ⟨a,rfl⟩:=l1 hz;exact ⟨.after x y a,rfl,rfl,rfl⟩
 ·obtain ⟨x,rfl⟩:=l1 hx;obtain ⟨a,b,rfl⟩:=l2 hz;exact ⟨.late x a b,rfl,rfl,rfl⟩
theorem Qgo {f:Nat->TV} {w:Str} (h:∀ i,i < 11->w ≠ wordOf i):((List.range 11).map fun i=>(wordOf i,f i)).lookup w=none:=by
 have key:∀ l:List Nat,(∀ i ∈ l,i < 11)->(l.map fun i=>(wordOf i,f i)).lookup w=none:=by
  intro l
  induction l with
  | nil=>exact fun _=>rfl
  | cons a l ih =>
   intro hl
   rw [xZ,zW,beq_false_of_ne (h a (hl a jX))]
   exact ih fun j hj=>hl j (jY _ hj)
 exact key _ fun i hi=>jKb.mp hi
theorem Qgp {w:Str} (h:∀ i,i < 11->w ≠ wordOf i):namesT.lookup w=none:=by rw [Qbi];exact Qgo h
theorem Qfa {i:Nat} (hi:i < 11):namesT.lookup (wordOf i)=some (.int ((nmK i:Nat):Int)):=by
 rw [Qbi,Kg (f:=fun i=>.int (([0,1,1,1,1,2,3,3,3,2,1]:List Int).getD i 0)) _ hi]
 rcases (show i=0\/i=1\/i=2\/i=3\/i=4\/i=5\/i=6\/i=7\/i=8\/i=9\/i=10 by lia) with rfl | rfl | rfl | rfl | rfl | rfl | rfl | rfl | rfl | rfl | rfl <;> rfl
theorem Qiq {i:Nat} (hi:i < 11):boundsT.lookup (wordOf i)=some (.tup ((bdsK i).map tvB)):=Kg (f:=fun i=>.tup ((bdsK i).map tvB)) _ hi
theorem Qir {r:BR} (h:r.needs=[]):∃ n,r=.days n:=by
 cases r with
 | days n=>exact ⟨n,rfl⟩
 | use k w v t m=>match k,h with | 0,h=>exact nomatch h | 1,h=>exact nomatch h | 2,h=>exact nomatch h
 | _=>exact nomatch h
theorem Good.head {A:List BR} (h:Good A) {r:BR} (e:A[0]?=some r):∃ n,r=.days n/\1<=n/\n<=12:=by
 have f:=h 0 r e
 obtain ⟨n,rfl⟩:=Qir (r:=r) (by
  cases hn:r.needs with
  | nil=>rfl
  | cons k ks =>
   obtain ⟨q,hq,_⟩:=f.nd k (by rw [hn];exact jX)
   exact nomatch hq)
 cases f.inn.1 with
 | cons z _=>exact ⟨n,rfl,z.1,z.2⟩
theorem Good.days {A:List BR} (h:Good A):(A=[]/\Zh A=0)\/∃ n B,A=.days n :: B/\Zh A=n/\1<=n/\n<=12:=by
 cases A with
 | nil=>exact .inl ⟨rfl,rfl⟩
 | cons r B =>
  obtain ⟨n,rfl,h1,h2⟩:=h.head (r:=r) rfl
  exact .inr ⟨n,B,rfl,rfl,h1,h2⟩
theorem Good.nil:Good []:=fun _ _ h=>nomatch h
theorem Good.snoc {A:List BR} {ks:List Key} {r:BR} (h:Good A) (f:Fit A ks r):Good (A ++ [r]):=fun i q e=>by
 by_cases hi:i < A.length
 ·rw [jYc hi] at e
  rw [List.take_append_of_le_length (by lia)]
  exact h i q e
 ·have hi2:=(kZ.mp e).1
  rw [jW] at hi2
  have ei:i=A.length:=by
   have:i < A.length + 1:=hi2
   lia
  subst ei
  rw [jQd (kQ _),Nat.sub_self] at e
  cases e
  rw [List.take_left]
  have:=f.eq
  subst this
  exact f
section
variable {P:Program} {w:World} {K:Fg} {mg:Str->Option Value} {base:Heap}
theorem scIN:FnScope ["thing"] ["thing"] (Qh sIN):=⟨rfl,rfl,rfl,by decide +kernel,rfl,by decide +kernel,by decide +kernel⟩
theorem scSaid:FnScope ["row"] ["row"] (Qh Qlh):=⟨rfl,rfl,rfl,by decide +kernel,rfl,by decide +kernel,by decide +kernel⟩
theorem okSaid {aN:Addr} {fN:Str->Option Value} (TN:TvTab w K mg "NAMES" 1 namesT aN fN) (F:Fn K mg "said_by" Qlh) (M:Mg mg):Cal P w K mg base 1 "said_by" ["row"] (Qin):=by
 refine Xv F scSaid (fun _ _ _ _ _ _=>bind1 (fun _=>rfl)) (fun vs H Q E h=>?_) (fun f cdv A outer s H vs Q E hr h=>?_)
 ·obtain ⟨l,r,rfl,_⟩:=h
  rfl
 obtain ⟨l,r,rfl,hl,q⟩:=h
 refine ⟨_,(Qi (Xa (Yc Zr rfl M.tuple_ Qaw (Qa (Xu Yn (pv 0) Ym (Yf (Qj Qo Qb (Qp (Qgi TN) (Zj (v:=.ref aN) rfl TN.tab.bound rfl) (Qp Qk (pv 0) Qb (fun _ _=>rfl)) (fun _ _=>rfl))))) Qg)))),?_⟩
 refine ⟨_,rfl,_,rfl,l,_,_,_,rfl,rfl,Qc hl,Km r,_,_,rfl,rfl,Qah r,fun v hv=>?_⟩
 cases hv
 refine ⟨_,_,rfl,rfl,_,rfl,l,_,rfl,Qc hl,fun p1 hp1=>?_⟩
 rw [Qoo]
 have s1:=Qf hp1 (.lst (r.key.map kV))
 refine ⟨p1,_,rfl,.inl ⟨Qc Qd,fun t1 ht1=>?_⟩⟩
 refine q t1 _ (s1.trans (Qf ht1 _)) ?_ Qd
 cases e5:H t1 with
 | none=>rfl
 | some o=>rw [s1 _ _ e5] at ht1;cases ht1
theorem scNee:FnScope ["row"] ["row"] (Qh sNee):=⟨rfl,rfl,rfl,by decide +kernel,rfl,by decide +kernel,by decide +kernel⟩
theorem okNee {aD:Addr} {fD:Str->Option Value} (TD:TvTab w K mg "NEEDS" 3 needsT aD fD) (F:Fn K mg "needed_by" sNee) (M:Mg mg):Cal P w K mg base 1 "needed_by" ["row"] (Qex):=by
 refine Xv F scNee (fun _ _ _ _ _ _=>bind1 (fun _=>rfl)) (fun vs H Q E h=>?_) (fun f cdv A outer s H vs Q E hr h=>?_)
 ·obtain ⟨l,r,rfl,_⟩:=h
  rfl
 obtain ⟨l,r,rfl,hl,q⟩:=h
 refine ⟨_,(Qi (Xa (Qfx ["need","row"] [none,some 0] rfl (Qly (Qp (Qgi TD) (Zj (v:=.ref aD) rfl TD.tab.bound rfl) (Qp Qk (pv 0) Qb (fun _ _=>rfl)) (fun _ _=>rfl))) (fun _ _ _=>(Xb (i:=0) (show (["need","row"]:List Str).Nodup by decide +kernel) rfl (Or.inl rfl) (Or.inr rfl))) (fun _ _ _=>Zd) (fun _ _ _=>(Qj (Qlj (K:=K) rfl) (Qae (Qa (Qp (Qnr (K:=K) rfl) (pv 0) Qb (fun _ _=>rfl)) Qg)) (Yc (Wy (K:=K) rfl) rfl M.tuple_ Qaw (Qa (Qfx ["place","row"] [none,some 1] rfl (Qnu (K:=K) rfl (Xu (Qop (K:=K) rfl) (pv 0) (Yf Qb) Ym)) (fun _ _ _=>(Xb (i:=0) (show (["place","row"]:List Str).Nodup by decide +kernel) rfl (Or.inl rfl) (Or.inr rfl))) (fun _ _ _=>Zd) (fun _ _ _=>(Qp (Zg (K:=K) rfl) (pv 1) (pv 0) (fun _ _=>rfl)))) Qg))))))),?_⟩
 have hz:(2000000:Nat) < sizeLine:=by decide
 refine ⟨_,rfl,l,_,_,_,rfl,rfl,Qc hl,Km r,_,_,rfl,rfl,Qgj r,fun v hv=>?_⟩
 obtain ⟨a,xs,rfl,hx,hp⟩:=hv
 obtain ⟨zs,rfl,e2,hzs⟩:=Qez hp
 obtain ⟨few1,few2⟩:=Qcy r
 have lz:zs.length<=2:=by rw [← e2,jK] at few1;exact few1
 refine ⟨a,rfl,⟨_,hx _⟩,fun D hD=>?_⟩
 refine Qbg (fun H v (k:List Key)=>∃ t,v=.ref t/\t ≠ D/\H t=some (.tup (k.map kV))) (fun z:Addr × Str × List Nat=>(Sum.inr z.2.1:Key) :: z.2.2.map fun p=>r.cells.getD p (Sum.inl 0)) rfl (Qes (val:=fun z:Addr × Str × List Nat=>V.ref z.1) (hx H)) (by lia) hD (fun _ s2 h=>?_) (fun h=>?_) (fun z hz' H1 s1 nD P h=>?_) fun H1 ys s1 h1 h2=>?_
 ·obtain ⟨t,e,nt,h⟩:=h
  exact ⟨t,e,nt,s2 _ _ h⟩
 ·obtain ⟨t,e,nt,h⟩:=h
  exact ⟨t,e,nt,by rw [Ql nt];exact h⟩
 ·obtain ⟨za,zw,zp⟩:=z
  have hq:∀ H,SqT K H za (V.str zw :: zp.map fun (p:Nat)=>V.int (p:Int)):=hzs _ hz'
  have mz:(zw,zp) ∈ ndsK r.kind:=by rw [← e2];exact jJf hz'
  have pz:=Qlf r _ mz
  have lp:zp.length<=2:=few2 _ mz
  have hl1:=s1 _ _ hl
  refine ⟨_,rfl,za,_,_,_,rfl,rfl,hq _,(show atI (V.str zw :: zp.map fun (p:Nat)=>V.int (p:Int)) 0=some (.str zw) from Zn (k:=0) rfl),by show 1<=sizeLine;decide,fun p1 hp1=>?_⟩
  have s2:=Qf hp1 (.tup [.str zw])
  have hp11:upd H1 p1 (.tup [.str zw]) p1=some (.tup [.str zw]):=Qd
  have n1D:p1 ≠ D:=fun e=>nD (by rw [← e];exact hp1)
  generalize upd H1 p1 (.tup [.str zw])=H2 at s2 hp11 ⊢
  refine ⟨_,rfl,_,rfl,za,_,rfl,hq _,fun e=>?_,fun p2 hp2=>?_⟩
  ·have e1:=e.1
   rw [show (1:Int)=((1:Nat):Int) from rfl,HT.sIx_nat,zJ,xK (by lia)] at e1
   exact absurd e1 (by decide)
  rw [cut1']
  have s3:=Qf hp2 (.tup (zp.map fun (p:Nat)=>V.int (p:Int)))
  have hp22:upd H2 p2 (.tup (zp.map fun (p:Nat)=>V.int (p:Int))) p2=some (.tup (zp.map fun (p:Nat)=>V.int (p:Int))):=Qd
  generalize upd H2 p2 (.tup (zp.map fun (p:Nat)=>V.int (p:Int)))=H3 at s3 hp22 ⊢
  refine ⟨p2,rfl,⟨_,Yb hp22⟩,fun D2 hD2=>?_⟩
  have hl3:=(s2.trans s3) _ _ hl1
  refine Wi kV (fun p:Nat=>r.cells.getD p (Sum.inl 0)) rfl (Qes (val:=fun (p:Nat)=>V.int (p:Int)) (Yb hp22)) (by lia) hD2 (fun x hx' H4 s4 P' h'=>?_) fun H4 s4 h4=>?_
  ·exact ⟨_,rfl,_,rfl,l,_,_,_,rfl,rfl,Qc (s4 _ _ hl3),getD_at (pz x hx'),h' H4 (Same.refl _)⟩
  refine ⟨D2,_,rfl,.inl ⟨Qc h4,fun t ht=>?_⟩⟩
  have s34:=s3.trans s4
  have s5:=Qf ht (.tup ((zp.map fun p:Nat=>r.cells.getD p (Sum.inl 0)).map kV))
  have sA:=(s2.trans s34).trans s5
  refine ⟨p1,t,_,_,rfl,rfl,Yb (s5 _ _ (s34 _ _ hp11)),Yb Qd,List.cons_ne_nil _ _,by rw [jK,jK];show 1 + zp.length<=_;lia,fun e=>?_,fun _ p6 hp6=>?_⟩
  ·refine h _ _ sA ⟨p1,rfl,n1D,?_⟩
   rw [s5 _ _ (s34 _ _ hp11),xZ,e]
   rfl
  ·refine h _ _ (sA.trans (Qf hp6 _)) ⟨p6,rfl,fun e=>?_,?_⟩
   ·rw [e] at hp6
    cases e7:H1 D with
    | none=>exact nD e7
    | some o=>rw [sA _ _ e7] at hp6;cases hp6
   ·rw [Qd]
    rfl
 ·refine q D ys H1 s1 h1 ?_
  have e3:zs.map (fun z:Addr × Str × List Nat=>(Sum.inr z.2.1:Key) :: z.2.2.map fun p=>r.cells.getD p (Sum.inl 0))=r.needs:=by
   rw [Qeu,← e2,jKa]
   rfl
  rw [e3] at h2
  unfold Qew
  clear e3
  generalize r.needs=ks at h2
  clear h1
  induction h2 with
  | nil=>exact .nil
  | cons z _ ih=>exact .cons (let ⟨t,e,_,h⟩:=z;⟨t,e,h⟩) ih
abbrev sIWi:Stmt:=top 16
def Formed (ks:List Key):Prop:=∃ r:BR,ks=r.cells/\r.gn
def Qda:Sp:=fun vs H Q _=>∃ (l:Addr) (d:Int) (r:BR),vs=[.ref l,.int d]/\H l=some (.lst (r.cells.map kV))/\∀ (b:Bool) (H':Hp),Same H H'->(b=true ↔ r.inn d)->Q (.bl b) H'
theorem all_f {α:Type} {f:α->Bool} {xs:List α}:((xs.map f).all id=true) ↔ ∀ x ∈ xs,f x=true:=by
 rw [List.all_map,wJ]
 exact Iff.rfl
theorem Qmp:∀ {ks:List Key},(∀ k ∈ ks,IsNm k)->∃ xs:List Str,ks=xs.map Sum.inr/\∀ x ∈ xs,NmOk x
 | [],_=>⟨[],rfl,fun _ h=>nomatch h⟩
 | k :: ks,h=>by
  obtain ⟨xs,e,hx⟩:=Qmp fun j hj=>h j (jY _ hj)
  obtain ⟨x,rfl,h1⟩:=h k jX
  refine ⟨x :: xs,by rw [e];rfl,fun y hy=>?_⟩
  rcases jJ.mp hy with e | e
  ·rw [e];exact h1
  ·exact hx y e
theorem Qis:∀ {ks:List Key},(∀ k ∈ ks,isInt k=true)->∃ zs:List Int,ks=zs.map Sum.inl
 | [],_=>⟨[],rfl⟩
 | .inl z :: ks,h=>by
  obtain ⟨zs,e⟩:=Qis fun j hj=>h j (jY _ hj)
  exact ⟨z :: zs,by rw [e];rfl⟩
 | .inr x :: ks,h=>nomatch h _ jX
theorem Qit {i:Nat} (hi:i < 11) {ks:List Key} (hl:ks.length=nmK i + (bdsK i).length) (h1:∀ k ∈ ks.take (nmK i),IsNm k) (h2:∀ k ∈ ks.drop (nmK i),isInt k=true):Formed (.inr (wordOf i) :: ks):=by
 obtain ⟨xs,e1,hx⟩:=Qmp h1
 obtain ⟨zs,e2⟩:=Qis h2
 have lx:xs.length=nmK i:=by rw [← jK (f:=(Sum.inr:Str->Key)),← e1,yW];lia
 have lz:zs.length=(bdsK i).length:=by rw [← jK (f:=(Sum.inl:Int->Key)),← e2,zK];lia
 obtain ⟨r,hk,hn,hz⟩:=mk_row hi lx lz
 refine ⟨r,?_,by unfold BR.gn;rw [hn];exact hx⟩
 have:r.cells=.inr r.word :: (r.names.map Sum.inr ++ r.nums.map Sum.inl):=rfl
 rw [this,Yo,hk,hn,hz,← e1,← e2,List.take_append_drop]
theorem Qdb {α β:Type} {R:α->β->Prop}:∀ {xs:List α} {ys:List β},xs.length=ys.length->(∀ (i:Nat) x y,xs[i]?=some x->ys[i]?=some y->R x y)->Paired R xs ys
 | [],[],_,_=>.nil
 | x :: xs,y :: ys,hl,h=>.cons (h 0 x y rfl rfl) (Qdb (by simpa using hl) fun i a b ea eb=>h (i + 1) a b ea eb)
 | [],_ :: _,hl,_=>nomatch hl
 | _ :: _,[],hl,_=>nomatch hl
theorem Qiu {α β:Type} {R:α->β->Prop} {xs:List α} {ys:List β} (h:Paired R xs ys) {i:Nat} {x:α} {y:β} (e1:xs[i]?=some x) (e2:ys[i]?=some y):R x y:=by
 obtain ⟨y',e3,hr⟩:=paired_get h e1
 rw [e2] at e3
 cases e3
 exact hr
theorem scIWi:FnScope ["row","days","word","number","bounds","most"] ["row","days"] (Qh sIWi):=⟨rfl,rfl,rfl,by decide +kernel,rfl,by decide +kernel,by decide +kernel⟩
theorem okIWi {aN aB:Addr} {fN fB:Str->Option Value} (TN:TvTab w K mg "NAMES" 1 namesT aN fN) (TB:TvTab w K mg "BOUNDS" 3 boundsT aB fB) (F:Fn K mg "is_within" sIWi) (M:Mg mg):Cal P w K mg base 1 "is_within" ["row","days"] (Qda):=by
 refine Xv F scIWi (fun _ _ _ _ _ _=>We (fun _ _=>rfl)) (fun vs H Q E h=>?_) (fun f cdv A outer s H vs Q E hr h=>?_)
 ·obtain ⟨l,d,r,rfl,_⟩:=h
  rfl
 obtain ⟨l,d,r,rfl,hl,q⟩:=h
 refine ⟨_,(Qe (Qs (i:=2) scIWi.nd rfl (Or.inl rfl) (Qp Qk (pv 0) Qb (fun _ _=>rfl)))
  (Qe (Yz PassesOwn.never rfl (pi_zip true false rfl M.zip_ (Qa (Xu Yn (pv 0) (Yf (Qj Qo Qb (Qp (Qgi TN) (Zj (v:=.ref aN) rfl TN.tab.bound rfl) (pv 2) (fun _ _=>rfl)))) Ym) (Qa (Qp (Qgi TB) (Zj (v:=.ref aB) rfl TB.tab.bound rfl) (pv 2) (fun _ _=>rfl)) Qg))) (Vx (K:=K) (i:=3) (j:=4) rfl rfl scIWi.nd rfl rfl rfl rfl) (Qe (Qs (i:=5) scIWi.nd rfl (Or.inl rfl) (Qjx (Qr Qej (Qp Yg (pv 4) Qb (fun _ _=>rfl)) Zy (Qu _)) (pv 1) (Qp Yg (pv 4) Qb (fun _ _=>rfl))))
  (Qi (Xm (Zx (Qka Qfm Qfm (Qp Yg (pv 4) Qb (fun _ _=>rfl)) (pv 3) (pv 5))) (Qi (Xa Jr)) Qt))))
  (Qe (Xm (Qr Xy (pv 2) Qx (Qu _)) (Qi (Xa (Zk Qhc (Qp Qk (pv 0) Qb (fun _ _=>rfl)) (Qp Qk (pv 0) Qb (fun _ _=>rfl)) (Qu _)))) Qt)
  (Qe (Xm (Qr Xy (pv 2) Qx (Qu _)) (Qi (Xa (Zk Qfm (Qp Qk (pv 0) Qb (fun _ _=>rfl)) (Qp Qk (pv 0) Qb (fun _ _=>rfl)) (Qu _)))) Qt)
  (Qi (Xa (pe_or (Zk Qjz (pv 2) Qx (Qu _)) (Kv (Zk Qjz (Qp Qk (pv 0) Qb (fun _ _=>rfl)) (Qp Qk (pv 0) Qb (fun _ _=>rfl)) (Qu _)))))))))),?_⟩
 refine Kd ?_
 intro rT5 rT4 rT3 rT2
 have hz:(2000000:Nat) < sizeLine:=by decide
 refine ⟨_,rfl,l,_,_,_,rfl,rfl,Qc hl,Km r,?_⟩
 refine ⟨_,rfl,_,rfl,_,_,rfl,rfl,Qah r,fun v hv=>?_⟩
 cases hv
 refine ⟨_,_,rfl,rfl,_,rfl,l,_,rfl,Qc hl,fun p1 hp1=>?_⟩
 rw [Qli]
 have s1:=Qf hp1 (.lst (r.nums.map V.int))
 have hp11:upd H p1 (.lst (r.nums.map V.int)) p1=some (.lst (r.nums.map V.int)):=Qd
 generalize upd H p1 (.lst (r.nums.map V.int))=H1 at s1 hp11 ⊢
 refine ⟨_,rfl,_,_,rfl,rfl,Qdt r,fun v hv=>?_⟩
 obtain ⟨a,xs,rfl,hx,hp⟩:=hv
 have lx:=Paired.length hp
 rw [jK,Qbm] at lx
 let Pv6:Nat->St->Hp->Prop:=fun i σ H2=>∃ u1 u2 u3:Option V,σ=[some (.ref l),some (.int d),some (.str r.word),u1,u2,u3]/\(∀ j z b,j < i->r.nums[j]?=some z->(bdsK r.kind)[j]?=some b->InB d z b)/\Same H1 H2
 refine ⟨p1,a,rfl,⟨_,Qc hp11⟩,⟨_,hx _⟩,Qnq (K:=K) (m1:=true) (m2:=false) (a:=p1) (b:=a) (xs:=r.nums.map V.int) (ys:=xs) Pv6 ⟨none,none,none,rfl,fun _ _ _ h=>absurd h (Nat.not_lt_zero _),Same.refl _⟩ (fun i σ H2 _ h=>?_) ?_ ?_⟩
 ·obtain ⟨u1,u2,u3,rfl,_,s2⟩:=h
  exact ⟨s2.seq (Qc hp11),hx _⟩
 ·rintro i x y σ H2 T' e1 e2 ⟨u1,u2,u3,rfl,hj,s2⟩ hT'
  rw [xJ] at e1
  obtain ⟨z,ez,rfl⟩:=jXf.mp e1
  obtain ⟨t,et,ht⟩:=paired_get hp e2
  rw [xJ] at et
  obtain ⟨b,eb,rfl⟩:=jXf.mp et
  obtain ⟨c,rfl,hc⟩:=tvB_at ht
  have s3:=Qf hT' (.tup [.int z,.ref c])
  refine ⟨T',_,rfl,Yb Qd,rfl,_,_,rfl,_,_,rfl,rfl,?_⟩
  generalize upd H2 T' (.tup [.int z,.ref c])=H3 at s3 ⊢
  have no:(¬ InB d z b)->Q (.bl false) H3:=fun h=>q false H3 (s1.trans (s2.trans s3)) ⟨fun e=>(nomatch e),fun hi=>absurd (Qiu hi.1 ez eb) h⟩
  have yes:InB d z b->∀ j z' b',j < i + 1->r.nums[j]?=some z'->(bdsK r.kind)[j]?=some b'->InB d z' b':=fun h j z' b' hj1 e5 e6=>by
   by_cases hj2:j < i
   ·exact hj j z' b' hj2 e5 e6
   ·have:j=i:=by lia
    subst this
    rw [ez] at e5
    rw [eb] at e6
    cases e5
    cases e6
    exact h
  obtain ⟨lo,hi⟩:=b
  cases hi with
  | none =>
   refine ⟨_,rfl,c,_,_,_,rfl,rfl,hc _,at1,rfl,_,rfl,iteT ⟨_,rfl,?_⟩⟩
   refine ⟨_,rfl,c,_,_,_,rfl,rfl,hc _,at0,_,rfl,_,_,rfl,rfl,_,rfl,ite2 (fun c1=>?_) (fun c1=>⟨false,rfl,iteT (no fun h=>c1 (yV h.1))⟩)⟩
   refine ⟨_,rfl,_,_,rfl,rfl,_,rfl,ite2 (fun c2=>no fun h=>not_true c2 (yV h.2)) (fun c2=>?_)⟩
   exact ⟨_,_,_,rfl,yes ⟨yK c1,by
    by_cases e:z<=d
    ·exact e
    ·exact absurd (by rw [zY e];rfl) c2⟩,s2.trans s3⟩
  | some hi =>
   refine ⟨_,rfl,c,_,_,_,rfl,rfl,hc _,at1,rfl,_,rfl,ite2 (fun c0=>absurd (yK c0) (fun e=>nomatch e)) (fun _=>⟨_,rfl,c,_,_,_,rfl,rfl,hc _,at1,?_⟩)⟩
   refine ⟨_,rfl,c,_,_,_,rfl,rfl,hc _,at0,_,rfl,_,_,rfl,rfl,_,rfl,ite2 (fun c1=>?_) (fun c1=>⟨false,rfl,iteT (no fun h=>c1 (yV h.1))⟩)⟩
   refine ⟨_,rfl,_,_,rfl,rfl,_,rfl,ite2 (fun c2=>no fun h=>not_true c2 (yV h.2)) (fun c2=>?_)⟩
   exact ⟨_,_,_,rfl,yes ⟨yK c1,by
    by_cases e:z<=hi
    ·exact e
    ·exact absurd (by rw [zY e];rfl) c2⟩,s2.trans s3⟩
 ·rintro σ H2 ⟨u1,u2,u3,rfl,hj,s2⟩
  have sH:=s1.trans s2
  have hl2:=sH _ _ hl
  have hp2:Paired (InB d) r.nums (bdsK r.kind):=Qdb (Qbm r).symm fun i z b e1 e2=>hj i z b (by
   rw [jK,lx,Nat.min_self]
   exact (kZ.mp e1).1) e1 e2
  have fin:∀ b:Bool,(b=true ↔ r.ext)->Q (.bl b) H2:=fun b hb=>q b H2 sH ⟨fun h=>⟨hp2,hb.mp h⟩,fun h=>hb.mpr h.2⟩
  refine ⟨_,rfl,rfl,_,rfl,ite2 (fun c=>?_) (fun n1=>?_)⟩
  ·obtain ⟨b,f,t,rfl⟩:=Qio (eqS c)
   refine ⟨_,rfl,l,_,_,_,rfl,rfl,Qc hl2,(show atI ((BR.shut b f t).cells.map kV) 2=some (.int f) from rfl),_,rfl,l,_,_,_,rfl,rfl,Qc hl2,(show atI ((BR.shut b f t).cells.map kV) 3=some (.int t) from rfl),_,_,rfl,rfl,?_⟩
   exact fin _ ⟨fun h=>yK (p:=f < t) h,fun h=>yV (p:=f < t) h⟩
  refine ⟨_,rfl,rfl,_,rfl,ite2 (fun c=>?_) (fun n2=>?_)⟩
  ·obtain ⟨b,m,f,rfl⟩:=Qgm (eqS c)
   refine ⟨_,rfl,l,_,_,_,rfl,rfl,Qc hl2,(show atI ((BR.store b m f).cells.map kV) 3=some (.int f) from rfl),_,rfl,l,_,_,_,rfl,rfl,Qc hl2,(show atI ((BR.store b m f).cells.map kV) 2=some (.int m) from rfl),_,_,rfl,rfl,?_⟩
   exact fin _ ⟨fun h=>yK (p:=f<=m) h,fun h=>yV (p:=f<=m) h⟩
  refine ⟨_,rfl,rfl,_,rfl,ite2 (fun c=>?_) (fun c=>?_)⟩
  ·refine fin true ⟨fun _=>?_,fun _=>rfl⟩
   cases r with
   | shut b f t=>exact absurd (yesS _) n1
   | store b m f=>exact absurd (yesS _) n2
   | after x y g=>exact absurd (yesS _) (not_true c)
   | _=>exact True.intro
  have hw:r.word="after":=by
   by_cases e:r.word="after"
   ·exact e
   ·exact absurd (show (!decide (V.str r.word=V.str "after"))=true by rw [jJb,decide_eq_false_iff_not];exact fun z=>e (V.str.inj z)) c
  obtain ⟨x,y,g,rfl⟩:=Qgg hw
  refine ⟨_,rfl,l,_,_,_,rfl,rfl,Qc hl2,(show atI ((BR.after x y g).cells.map kV) 1=some (.str x) from rfl),_,rfl,l,_,_,_,rfl,rfl,Qc hl2,(show atI ((BR.after x y g).cells.map kV) 2=some (.str y) from rfl),rfl,?_⟩
  refine fin _ ⟨fun h e=>not_true h (by rw [show x=y from e];exact yesS _),fun h=>?_⟩
  rw [jJb,decide_eq_false_iff_not]
  exact fun z=>h (V.str.inj z)
abbrev sNBI:Stmt:=inClass (top 5) 0
def RE (C:Addr) (H:Hp) (z:Int) (E:XK):Prop:=∀ dx H',Same H H'->H' dx=some (.xd [("row",.int z)])->E (.ref C) (some dx) H'
theorem RE.same {C:Addr} {H H':Hp} {z:Int} {E:XK} (h:RE C H z E) (s:Same H H'):RE C H' z E:=fun dx H2 s2 e=>h dx H2 (s.trans s2) e
theorem RE.raise {C:Addr} {H H1:Hp} {z:Int} {E:XK} (h:RE C H z E) (s:Same H H1):∀ dx,H1 dx=none->E (.ref C) (some dx) (upd H1 dx (.xd [("row",.int z)])):=fun dx hdx=>h dx _ (s.trans (Qf hdx _)) Qd
structure NBk (P:Program) (w:World) (K:Fg) (mg:Str->Option Value) (base:Heap) (C D f:Addr) (fd:FuncData) (fo:Obj):Prop where
 ei:ErrI K mg "NoBook" C D f "row"
 gi:FnOk P w K mg base CX0 1 f fd ["self","row"] (spXI C "row")
 bi:Binds K fd ["self","row"] []
 lk:K.lookup f=some fo
 fc:fo.cls=.type "function"
 kc:PySem.W.keepIn K (.ref C)=true
theorem Qiv {H:Hp}:∀ {ys:List V} {ks:List (List Key)},Qew H ys ks->∃ zs:List (Addr × List Key),ys=zs.map (fun z=>V.ref z.1)/\zs.map (·.2)=ks/\∀ z ∈ zs,H z.1=some (.tup (z.2.map kV)):=by
 intro ys ks h
 unfold Qew at h
 induction h with
 | nil=>exact ⟨[],rfl,rfl,fun _ h=>nomatch h⟩
 | cons z _ ih =>
  obtain ⟨t,rfl,ht⟩:=z
  obtain ⟨zs,e1,e2,hz⟩:=ih
  refine ⟨(t,_) :: zs,by rw [e1];rfl,by rw [xZ,e2],fun z h5=>?_⟩
  rcases jJ.mp h5 with e | e
  ·rw [e];exact ht
  ·exact hz z e
theorem scNBI:FnScope ["self","row"] ["self","row"] (Qh sNBI):=⟨rfl,rfl,rfl,by decide +kernel,rfl,by decide +kernel,by decide +kernel⟩
theorem Qoq {f C D:Addr} {fd:FuncData} (F:Fun K "__init__" "NoBook.__init__" sNBI f fd) (EI:ErrI K mg "NoBook" C D f "row"):FnOk P w K mg base CX0 1 f fd ["self","row"] (spXI C "row"):=by
 refine F.ok scNBI (fun vs H Q E h=>?_) (fun cdv A outer s H vs Q E hr h=>?_)
 ·obtain ⟨e,y,rfl,_⟩:=h
  rfl
 obtain ⟨e,y,rfl,he,q⟩:=h
 refine ⟨_,(Qi (Qoj EI (pv 0) (pv 1) rfl)),?_⟩
 exact ⟨_,rfl,_,rfl,e,rfl,he,q⟩
end
end Nb
namespace L2
open PySem PySem.Spec PyProof.Rows PySem.SeqAt
inductive SmD (K:Fg) (H:Hp):Nat->V->V->Prop
 | flat {n v}:Qcf v=true->SmD K H n v v
 | tup {n a b xs ys}:SqT K H a xs->SqT K H b ys->xs.length=ys.length->(∀ (i:Nat) x y,xs[i]?=some x->ys[i]?=some y->SmD K H n x y)->SmD K H (n + 1) (.ref a) (.ref b)
 | lst {n a b xs ys}:SqL K H a xs->SqL K H b ys->xs.length=ys.length->(∀ (i:Nat) x y,xs[i]?=some x->ys[i]?=some y->SmD K H n x y)->SmD K H (n + 1) (.ref a) (.ref b)
section
variable {X:Cx} {pins:List (Addr × Obj)} {σ:St} {H:Hp} {s:Shared}
theorem Qor {n:Nat} {x y:V} (h:SmD X.K H n x y):∀ {A:Around} {u v:Value},A.units + n < cLine->Inv X pins σ H s->RelV x u->RelV y v ->
  EqAt A s u v true/\(∀ a c,u=.ref a->v=.ref c->RcAt A s u v true/\RcNeAt A s u v false):=by
 induction h with
 | @flat n x hf =>
  intro A u v hu I ru rv
  have:=eqAt_V (A:=A) (s:=s) ru rv hf hf
  rw [Qlc hf] at this
  refine ⟨this,fun a c e _=>?_⟩
  subst e
  cases x with
  | non=>cases ru
  | bl b=>cases ru
  | int i=>obtain ⟨_,h⟩:=ru;cases h
  | str z=>obtain ⟨_,h⟩:=ru;cases h
  | _=>exact nomatch hf
 | @tup m p q xs ys hq hq' hl hs ih =>
  intro A u v hu I ru rv
  cases ru
  cases rv
  obtain ⟨its,r,pt,_⟩:=I.tuple hq
  obtain ⟨its',r',pt',_⟩:=I.tuple hq'
  have l1:=r.length
  have l2:=r'.length
  have key:∀ j (h1:j < its.toArray.size) (h2:j < its'.toArray.size),EqAt A.in1 s its.toArray[j] its'.toArray[j] ((fun _=>true) j):=fun j h1 h2=>by
   rw [kY] at h1 h2
   have j1:j < xs.length:=by lia
   have j2:j < ys.length:=by lia
   obtain ⟨u1,e1,ru1⟩:=r.get (gE j1)
   obtain ⟨u2,e2,ru2⟩:=r'.get (gE j2)
   have eq:=(ih j _ _ (gE j1) (gE j2) (A:=A.in1) (by show A.units + 1 + m < cLine;lia) I ru1 ru2).1
   have z1:its.toArray[j]=u1:=by rw [gE (by lia)] at e1;simpa using e1
   have z2:its'.toArray[j]=u2:=by rw [gE (by lia)] at e2;simpa using e2
   rw [z1,z2]
   exact eq
  have hb:((List.range (min its.toArray.size its'.toArray.size)).all (fun _=>true) && its.toArray.size == its'.toArray.size)=true:=by
   rw [xQ,Qem,kY,kY,beq_iff_eq]
   exact ⟨fun _ _=>rfl,by lia⟩
  have t1:=RcAt.tuples pt pt' (by lia) key
  have t2:=RcNeAt.tuples pt pt' (by lia) key
  rw [hb] at t1 t2
  refine ⟨?_,fun a c _ _=>⟨t1,t2⟩⟩
  by_cases hpq:p=q
  ·subst hpq
   exact EqAt.same _
  ·exact EqAt.of_refs hpq t1
 | @lst m p q xs ys hq hq' hl hs ih =>
  intro A u v hu I ru rv
  cases ru
  cases rv
  obtain ⟨its,r,pt,_⟩:=I.list hq
  obtain ⟨its',r',pt',_⟩:=I.list hq'
  have l1:=r.length
  have l2:=r'.length
  have key:∀ j (h1:j < its.toArray.size) (h2:j < its'.toArray.size),EqAt A.in1 s its.toArray[j] its'.toArray[j] ((fun _=>true) j):=fun j h1 h2=>by
   rw [kY] at h1 h2
   have j1:j < xs.length:=by lia
   have j2:j < ys.length:=by lia
   obtain ⟨u1,e1,ru1⟩:=r.get (gE j1)
   obtain ⟨u2,e2,ru2⟩:=r'.get (gE j2)
   have eq:=(ih j _ _ (gE j1) (gE j2) (A:=A.in1) (by show A.units + 1 + m < cLine;lia) I ru1 ru2).1
   have z1:its.toArray[j]=u1:=by rw [gE (by lia)] at e1;simpa using e1
   have z2:its'.toArray[j]=u2:=by rw [gE (by lia)] at e2;simpa using e2
   rw [z1,z2]
   exact eq
  have hsz:its.toArray.size=its'.toArray.size:=by rw [kY,kY];lia
  have hb:((List.range its.toArray.size).all (fun _=>true))=true:=by
   rw [Qem]
   exact fun _ _=>rfl
  have t1:=RcAt.lists pt.isList pt'.isList hsz (by lia) key
  have t2:=RcNeAt.lists pt.isList pt'.isList hsz (by lia) key
  rw [hb] at t1 t2
  refine ⟨?_,fun a c _ _=>⟨t1,t2⟩⟩
  by_cases hpq:p=q
  ·subst hpq
   exact EqAt.same _
  ·exact EqAt.of_refs hpq t1
theorem Qbo {n:Nat} (hu:X.A.units + n < cLine):OpR X (compareOp .NotEq) (fun x y H Q=>∃ a b,x=.ref a/\y=.ref b/\SmD X.K H n x y/\Q (.bl false) H):=by
 intro pins s σ H x y v u Q I rx ry h
 obtain ⟨a,b,rfl,rfl,al,q⟩:=h
 cases rx
 cases ry
 exact ((Qor al (A:=X.A) (u:=.ref a) (v:=.ref b) hu I rfl rfl).2 a b rfl rfl).2 _ _ _ _ ⟨.bl false,H,I,rfl,q⟩
end
def OdV (K:Fg) (H:Hp) (v:V):Prop:=Qcf v=true\/∃ a xs,v=.ref a/\(SqL K H a xs\/SqT K H a xs)
end L2
namespace Nb
open PySem L2
abbrev sIWv:Stmt:=top 7
def CellV (K:Fg) (H:Hp) (v:V):Prop:=OdV K H v/\∀ x,v=.str x->Plain x
def Qfb:V->Bool
 | .int _=>true
 | _=>false
def Qiw (v:V):Prop:=∃ x,v=.str x/\NmOk x
def Qix (K:Fg):Sp:=fun vs H Q _=>∃ v:V,vs=[v]/\OdV K H v/\Q (.bl (Qfb v)) H
def Qiy (K:Fg):Sp:=fun vs H Q _=>∃ v:V,vs=[v]/\CellV K H v/\∀ (b:Bool) (H':Hp),Same H H'->(b=true ↔ Qiw v)->Q (.bl b) H'
theorem Qiz {K:Fg} {H H':Hp} {v:V} (h:OdV K H v) (s:Same H H'):OdV K H' v:=by
 rcases h with h | ⟨a,xs,rfl,h | h⟩
 ·exact .inl h
 ·exact .inr ⟨a,xs,rfl,.inl (s.seq h)⟩
 ·exact .inr ⟨a,xs,rfl,.inr (s.tup h)⟩
theorem CellV.same {K:Fg} {H H':Hp} {v:V} (h:CellV K H v) (s:Same H H'):CellV K H' v:=⟨Qiz h.1 s,h.2⟩
theorem Qja {K:Fg} {H:Hp} {k:Key} (h:Qaa k):CellV K H (kV k):=by
 cases k with
 | inl z=>exact ⟨.inl rfl,fun x e=>nomatch e⟩
 | inr x=>exact ⟨.inl rfl,fun y e=>by cases e;exact h⟩
section
variable {P:Program} {w:World} {K:Fg} {mg:Str->Option Value} {base:Heap}
theorem scIWv:FnScope ["thing"] ["thing"] (Qh sIWv):=⟨rfl,rfl,rfl,by decide +kernel,rfl,by decide +kernel,by decide +kernel⟩
theorem okIWv  (F:Fn K mg "is_whole" sIWv) (M:Mg mg):Cal P w K mg base 1 "is_whole" ["thing"] (Qix K):=by
 refine Xv F scIWv (fun _ _ _ _ _ _=>bind1 (fun _=>rfl)) (fun vs H Q E h=>?_) (fun f cdv A outer s H vs Q E hr h=>?_)
 ·obtain ⟨v,rfl,_⟩:=h
  rfl
 obtain ⟨v,rfl,hv,q⟩:=h
 refine ⟨_,(Qi (Xa (Vn (Qm Yq rfl M.isinstance Xe (Qa (pv 0) (Qa (Qav M.int_ Qmg) Qg))) (Kv (Qlv (Qm Yq rfl M.isinstance Xe (Qa (pv 0) (Qa (Qav M.bool_ Qht) Qg)))))))),?_⟩
 rcases hv with hf | ⟨a,xs,rfl,hq⟩
 ·cases v with
  | int i =>
   refine ⟨_,rfl,_,"int",true,rfl,.int,rfl,true,rfl,iteT ?_⟩
   exact ⟨_,rfl,_,"bool",false,rfl,.bool,rfl,false,rfl,q⟩
  | bl i =>
   refine ⟨_,rfl,_,"int",true,rfl,.int,rfl,true,rfl,iteT ?_⟩
   exact ⟨_,rfl,_,"bool",true,rfl,.bool,rfl,true,rfl,q⟩
  | str x=>exact ⟨_,rfl,_,"int",false,rfl,.int,rfl,false,rfl,iteF q⟩
  | non=>exact ⟨_,rfl,_,"int",false,rfl,.int,rfl,false,rfl,iteF q⟩
  | _=>exact nomatch hf
 ·rcases hq with hq | hq
  ·exact ⟨_,rfl,_,"int",false,rfl,.int,.inr ⟨⟨_,hq⟩,rfl⟩,false,rfl,iteF q⟩
  ·exact ⟨_,rfl,_,"int",false,rfl,.int,.inl ⟨⟨_,hq⟩,rfl⟩,false,rfl,iteF q⟩
theorem okINv (F:Fn K mg "is_name" sIN) (M:Mg mg):Cal P w K mg base 1 "is_name" ["thing"] (Qiy K):=by
 refine Xv F scIN (fun _ _ _ _ _ _=>bind1 (fun _=>rfl)) (fun vs H Q E h=>?_) (fun f cdv A outer s H vs Q E hr h=>?_)
 ·obtain ⟨v,rfl,_⟩:=h
  rfl
 obtain ⟨v,rfl,⟨hv,hp⟩,q⟩:=h
 refine ⟨_,(Qi (Xa (Vn (Qm Yq rfl M.isinstance Xe (Qa (pv 0) (Qa (Qav M.str_ Qmj) Qg))) (Vn (Qao Qfm Qfm Qb (Qm Qcg rfl M.len Xp (Qa (pv 0) Qg)) Qb) (Kv (Qm (Jx rfl) rfl M.all Qen (Qa (Qfx ["sign"] [none] rfl (pi_str (pv 0)) (fun _ _ _=>(Xb (i:=0) (show (["sign"]:List Str).Nodup by decide +kernel) rfl (Or.inl rfl) (Or.inr rfl))) (fun _ _ _=>Zd) (fun _ _ _=>(Qao Qcu Qcu Qx (pv 0) Qx))) Qg))))))),?_⟩
 have no:(∀ x,v ≠ .str x)->Q (.bl false) H:=fun h=>q false H (Same.refl _) ⟨fun z=>(nomatch z),fun ⟨x,e,_⟩=>absurd e (h x)⟩
 rcases hv with hf | ⟨a,xs,rfl,hq⟩
 ·cases v with
  | str x =>
   obtain ⟨pl,pz⟩:=hp x rfl
   have q:∀ (b:Bool) (H':Hp),Same H H'->(b=true ↔ NmOk x)->Q (.bl b) H':=fun b H' s' hb=>q b H' s' (hb.trans ⟨fun h=>⟨x,rfl,h⟩,fun ⟨y,e,h⟩=>by cases e;exact h⟩)
   have hz:(2000000:Nat) < sizeLine:=by decide
   refine ⟨_,rfl,_,"str",true,rfl,.str,rfl,true,rfl,iteT ?_⟩
   refine ⟨_,rfl,x,rfl,by lia,_,_,rfl,rfl,_,rfl,ite2 (fun c1=>?_) (fun c1=>?_)⟩
   ·refine ⟨_,_,rfl,rfl,_,rfl,ite2 (fun c2=>?_) (fun c2=>?_)⟩
    ·refine ⟨_,rfl,x,rfl,pl,fun D hD=>?_⟩
     refine Wi V.bl (fun c=>decide (97<=c) && decide (c<=122)) rfl Qld (by rw [jQf];show x.length < _;lia) hD (fun c hc H1 s1 P h=>?_) fun H1 s1 h1=>?_
     ·refine ⟨_,rfl,_,_,rfl,rfl,_,rfl,?_⟩
      rw [show (!decide ((⟨#[c]⟩:Str).cps.toList < ("a":Str).cps.toList))=decide (97<=c) from le1 97 c]
      refine ite2 (fun c1=>⟨_,_,rfl,rfl,?_⟩) (fun c1=>?_)
      ·dsimp only
       rw [show (!decide (("z":Str).cps.toList < (⟨#[c]⟩:Str).cps.toList))=decide (c<=122) from le1 c 122]
       have h5:=h H1 (Same.refl _)
       rw [c1,Bool.true_and] at h5
       exact h5
      ·have h5:=h H1 (Same.refl _)
       rw [Bool.eq_false_iff.mpr c1,jKc] at h5
       exact h5
     ·have c1':=yK c1
      have c2':=yK c2
      refine ⟨D,_,rfl,Qc h1,q _ H1 s1 ?_⟩
      rw [Qim]
      exact ⟨fun h=>⟨by lia,by lia,h⟩,fun h=>h.2.2⟩
    ·refine q false H (Same.refl _) ⟨fun h=>(nomatch h),fun h=>absurd ?_ c2⟩
     have h2:=h.2.1
     exact yV (by show ((x.length:Nat):Int)<=12;lia)
   ·refine ⟨false,rfl,iteF (q false H (Same.refl _) ⟨fun h=>(nomatch h),fun h=>absurd ?_ c1⟩)⟩
    have h1:=h.1
    exact yV (by show (1:Int)<=((x.length:Nat):Int);lia)
  | int i=>exact ⟨_,rfl,_,"str",false,rfl,.str,rfl,false,rfl,iteF (no fun x e=>nomatch e)⟩
  | bl i=>exact ⟨_,rfl,_,"str",false,rfl,.str,rfl,false,rfl,iteF (no fun x e=>nomatch e)⟩
  | non=>exact ⟨_,rfl,_,"str",false,rfl,.str,rfl,false,rfl,iteF (no fun x e=>nomatch e)⟩
  | _=>exact nomatch hf
 ·rcases hq with hq | hq
  ·exact ⟨_,rfl,_,"str",false,rfl,.str,.inr ⟨⟨_,hq⟩,rfl⟩,false,rfl,iteF (no fun x e=>nomatch e)⟩
  ·exact ⟨_,rfl,_,"str",false,rfl,.str,.inl ⟨⟨_,hq⟩,rfl⟩,false,rfl,iteF (no fun x e=>nomatch e)⟩
end
abbrev sIFv:Stmt:=top 15
def RowV (K:Fg) (H:Hp) (v:V):Prop:=Qcf v=true\/(∃ l xs,v=.ref l/\H l=some (.tup xs))\/∃ l xs,v=.ref l/\H l=some (.lst xs)/\xs.length<=1000/\∀ c ∈ xs,CellV K H c
theorem RowV.same {K:Fg} {H H':Hp} {v:V} (h:RowV K H v) (s:Same H H'):RowV K H' v:=by
 rcases h with h | ⟨l,xs,rfl,h⟩ | ⟨l,xs,rfl,h,hl,hc⟩
 ·exact .inl h
 ·exact .inr (.inl ⟨l,xs,rfl,s _ _ h⟩)
 ·exact .inr (.inr ⟨l,xs,rfl,s _ _ h,hl,fun c hm=>(hc c hm).same s⟩)
def RowIs (H:Hp) (v:V) (r:BR):Prop:=∃ l,v=.ref l/\H l=some (.lst (r.cells.map kV))
theorem RowIs.same {H H':Hp} {v:V} {r:BR} (h:RowIs H v r) (s:Same H H'):RowIs H' v r:=by obtain ⟨l,e,h⟩:=h;exact ⟨l,e,s _ _ h⟩
def Qbp (H:Hp) (v:V):Prop:=∃ r:BR,RowIs H v r/\r.gn
def Wn (H:Hp) (A:List BR) (v:V):Prop:=∃ r,RowIs H v r/\Fit A r.cells r
def Qdc (K:Fg):Sp:=fun vs H Q _=>∃ v,vs=[v]/\RowV K H v/\∀ (b:Bool) (H':Hp),Same H H'->(b=true ↔ Qbp H v)->Q (.bl b) H'
theorem cutm {x:V} {xs:List V} {n:Nat} (h:n<=xs.length):cutV (x :: xs) (some 1) (some (1 + ((n:Nat):Int)))=xs.take n:=by
 have h1:(1:Int) + ((n:Nat):Int)=((1 + n:Nat):Int):=by lia
 rw [h1]
 unfold cutV
 rw [show (1:Int)=((1:Nat):Int) from rfl,HT.sIx_nat,HT.sIx_nat,zJ,xK (by lia),xK (by lia),Nat.add_sub_cancel_left]
 rfl
theorem cute {x:V} {xs:List V} {n:Nat} (h:n<=xs.length):cutV (x :: xs) (some (1 + ((n:Nat):Int))) none=xs.drop n:=by
 have h1:(1:Int) + ((n:Nat):Int)=((1 + n:Nat):Int):=by lia
 rw [h1]
 unfold cutV
 rw [HT.sIx_none,HT.sIx_nat,zJ,xK (by lia),Nat.add_comm 1 n]
 show List.take (xs.length + 1 - (n + 1)) (xs.drop n)=_
 rw [jYa (by rw [zK];lia)]
open Classical in
def nmBv (v:V):Bool:=decide (Qiw v)
open Classical in
theorem Vi (v:V):nmBv v=true ↔ Qiw v:=by unfold nmBv;exact decide_eq_true_iff
theorem Qfc:∀ {cs:List V},(∀ v ∈ cs,Qiw v\/Qfb v=true)->∃ ks:List Key,cs=ks.map kV
 | [],_=>⟨[],rfl⟩
 | v :: cs,h=>by
  obtain ⟨ks,e⟩:=Qfc fun u hu=>h u (jY _ hu)
  rcases h v jX with ⟨x,rfl,_⟩ | h1
  ·exact ⟨.inr x :: ks,by rw [e];rfl⟩
  ·cases v with
   | int z=>exact ⟨.inl z :: ks,by rw [e];rfl⟩
   | _=>exact nomatch h1
theorem nm_key {k:Key} (h:Qiw (kV k)):IsNm k:=by
 obtain ⟨x,e,h⟩:=h
 cases k with
 | inl z=>exact nomatch e
 | inr y=>cases e;exact ⟨_,rfl,h⟩
theorem Qos {k:Key} (h:Qfb (kV k)=true):isInt k=true:=by
 cases k with
 | inl z=>rfl
 | inr y=>exact nomatch h
theorem str_or (v:V):(∃ x,v=.str x)\/∀ x,v ≠ .str x:=by
 cases v with
 | str x=>exact .inl ⟨x,rfl⟩
 | _=>exact .inr fun x e=>nomatch e
theorem Qot {K:Fg} {H:Hp} {v:V} (h:OdV K H v) (hn:∀ x,v ≠ .str x):isiW K H v "str" false:=by
 rcases h with hf | ⟨a,xs,rfl,hq | hq⟩
 ·cases v with
  | str x=>exact absurd rfl (hn x)
  | non=>rfl
  | int i=>rfl
  | bl i=>rfl
  | _=>exact nomatch hf
 ·exact .inr ⟨⟨_,hq⟩,rfl⟩
 ·exact .inl ⟨⟨_,hq⟩,rfl⟩
section
variable {P:Program} {w:World} {K:Fg} {mg:Str->Option Value} {base:Heap}
theorem scIFv:FnScope ["row","behind"] ["row"] (Qh sIFv):=⟨rfl,rfl,rfl,by decide +kernel,rfl,by decide +kernel,by decide +kernel⟩
theorem okIFv {aN aB:Addr} {fN fB:Str->Option Value} (TN:TvTab w K mg "NAMES" 1 namesT aN fN) (TB:TvTab w K mg "BOUNDS" 3 boundsT aB fB) (F:Fn K mg "is_formed" sIFv) (M:Mg mg) (c_is_name:Cal P w K mg base 1 "is_name" ["thing"] (Qiy K)) (c_is_whole:Cal P w K mg base 1 "is_whole" ["thing"] (Qix K)):Cal P w K mg base 2 "is_formed" ["row"] (Qdc K):=by
 refine Xv F scIFv (fun _ _ _ _ _ _=>bind1 (fun _=>rfl)) (fun vs H Q E h=>?_) (fun f cdv A outer s H vs Q E hr h=>?_)
 ·obtain ⟨v,rfl,_⟩:=h
  rfl
 obtain ⟨v,rfl,hv,q⟩:=h
 refine ⟨_,(Qe (Xm (PW.pt (Wv (Zx (Zl (Qm Yq rfl M.isinstance Xe (Qa (pv 0) (Qa (Qav M.list_ Zt) Qg))))) (Wv (Qr Xy (Qm Qn rfl M.len Xp (Qa (pv 0) Qg)) Qb (Qu _)) (Wv (Zx (Zl (Qm Yq rfl M.isinstance Xe (Qa (Qp Qk (pv 0) Qb (fun _ _=>rfl)) (Qa (Qav M.str_ Qmj) Qg))))) (Vm (Qlu (Qic TN.tab (Qp Qk (pv 0) Qb (fun _ _=>rfl))) rfl)))))) (Qi (Xa Jr)) Qt)
  (Qe (Qs (i:=1) scIFv.nd rfl (Or.inl rfl) (Qj Qo Qb (Qp (Qgi TN) (Zj (v:=.ref aN) rfl TN.tab.bound rfl) (Qp Qk (pv 0) Qb (fun _ _=>rfl)) (fun _ _=>rfl))))
  (Qe (Xm (Qr Qjz (Qm Qn rfl M.len Xp (Qa (pv 0) Qg)) (Qj Qo (pv 1) (Qm Qn rfl M.len Xp (Qa (Qp (Qgi TB) (Zj (v:=.ref aB) rfl TB.tab.bound rfl) (Qp Qk (pv 0) Qb (fun _ _=>rfl)) (fun _ _=>rfl)) Qg))) (Qu _)) (Qi (Xa Jr)) Qt)
  (Qi (Xa (Vn (Qm (Jx rfl) rfl M.all Qen (Qa (Qfx ["name"] [none] rfl (Ye (Xu Yn (pv 0) (Yf Qb) (Yf (pv 1)))) (fun _ _ _=>(Xb (i:=0) (show (["name"]:List Str).Nodup by decide +kernel) rfl (Or.inl rfl) (Or.inr rfl))) (fun _ _ _=>Zd) (fun _ _ _=>(Xz c_is_name (hr.mono (by decide)) (Qa (pv 0) Qg)))) Qg)) (Kv (Qm (Jx rfl) rfl M.all Qen (Qa (Qfx ["number"] [none] rfl (Ye (Xu Yn (pv 0) (Yf (pv 1)) Ym)) (fun _ _ _=>(Xb (i:=0) (show (["number"]:List Str).Nodup by decide +kernel) rfl (Or.inl rfl) (Or.inr rfl))) (fun _ _ _=>Zd) (fun _ _ _=>(Xz c_is_whole (hr.mono (by decide)) (Qa (pv 0) Qg)))) Qg))))))))),?_⟩
 refine Qba ?_
 intro rT4 rT3 rT2
 have hz:(2000000:Nat) < sizeLine:=by decide
 have no:(¬ Qbp H v)->∀ H',Same H H'->Q (.bl false) H':=fun h H' s'=>q false H' s' ⟨fun z=>(nomatch z),fun z=>absurd z h⟩
 rcases hv with hf | ⟨l,xs,rfl,hl⟩ | ⟨l,xs,rfl,hl,hlen,hc⟩
 ·have nf:¬ Qbp H v:=fun ⟨r,⟨l,e,_⟩,_⟩=>by rw [e] at hf;exact nomatch hf
  cases v with
  | str x=>exact ⟨_,rfl,_,"list",false,rfl,.list,rfl,false,rfl,iteT (iteT (no nf H (Same.refl _)))⟩
  | non=>exact ⟨_,rfl,_,"list",false,rfl,.list,rfl,false,rfl,iteT (iteT (no nf H (Same.refl _)))⟩
  | int i=>exact ⟨_,rfl,_,"list",false,rfl,.list,rfl,false,rfl,iteT (iteT (no nf H (Same.refl _)))⟩
  | bl i=>exact ⟨_,rfl,_,"list",false,rfl,.list,rfl,false,rfl,iteT (iteT (no nf H (Same.refl _)))⟩
  | _=>exact nomatch hf
 ·have nf:¬ Qbp H (.ref l):=fun ⟨r,⟨l',e,h⟩,_⟩=>by cases e;rw [hl] at h;exact nomatch h
  exact ⟨_,rfl,_,"list",false,rfl,.list,.inl ⟨⟨_,Yb hl⟩,rfl⟩,false,rfl,iteT (iteT (no nf H (Same.refl _)))⟩
 have is:∀ r:BR,RowIs H (.ref l) r->xs=r.cells.map kV:=fun r ⟨l',e,h⟩=>by cases e;rw [hl] at h;exact HO.lst.inj (Option.some.inj h)
 refine ⟨_,rfl,_,"list",true,rfl,.list,.inr ⟨⟨_,Qc hl⟩,rfl⟩,true,rfl,iteF ?_⟩
 refine ⟨_,rfl,l,_,rfl,.inl (Qc hl),rfl,_,rfl,ite2 (fun c=>?_) (fun c=>?_)⟩
 ·have e:=yK c
  injection e with e
  have e0:xs=[]:=jQa.mp (by lia)
  exact no (fun ⟨r,h1,_⟩=>Kz r (List.map_eq_nil_iff.mp (by rw [← is r h1,e0]))) H (Same.refl _)
 cases xs with
 | nil=>exact absurd (yV rfl) c
 | cons c0 cs =>
  clear c
  have a0:atI (c0 :: cs) 0=some c0:=Zn (k:=0) rfl
  rcases str_or c0 with ⟨w,rfl⟩ | hn
  rotate_left
  ·refine ⟨_,rfl,l,_,_,_,rfl,rfl,Qc hl,a0,_,"str",false,rfl,.str,Qot (hc c0 jX).1 hn,false,rfl,iteT (iteT ?_)⟩
   exact no (fun ⟨r,h1,_⟩=>by
    have:=is r h1
    rw [Kn] at this
    exact hn _ (List.cons.inj this).1) H (Same.refl _)
  ·refine ⟨_,rfl,l,_,_,_,rfl,rfl,Qc hl,a0,_,"str",true,rfl,.str,rfl,true,rfl,iteF ?_⟩
   by_cases hw:∃ i,i < 11/\w=wordOf i
   ·obtain ⟨i,hi,rfl⟩:=hw
    obtain ⟨v0,y0,e0,_⟩:=TN.yes _ _ (Qfa hi)
    refine ⟨_,rfl,l,_,_,_,rfl,rfl,Qc hl,a0,_,rfl,_,rfl,ite2 (fun c=>?_) (fun _=>?_)⟩
    ·rw [e0] at c;exact absurd (show false=true from c) kK
    refine ⟨_,rfl,l,_,_,_,rfl,rfl,Qc hl,a0,_,_,rfl,rfl,Qfa hi,fun v hv=>?_⟩
    cases hv
    refine ⟨_,_,rfl,rfl,?_⟩
    refine ⟨_,rfl,l,_,rfl,.inl (Qc hl),_,rfl,_,rfl,l,_,_,_,rfl,rfl,Qc hl,a0,_,_,rfl,rfl,Qiq hi,fun v hv=>?_⟩
    obtain ⟨a,ys,rfl,hx,hpx⟩:=hv
    have lx:=Paired.length hpx
    rw [jK] at lx
    have kfr:∀ {r:BR},(V.str (wordOf i)) :: cs=r.cells.map kV->r.kind=i/\cs=r.names.map V.str ++ r.nums.map V.int:=fun {r} e1=>by
     rw [Kn] at e1
     have h1:=V.str.inj (List.cons.inj e1).1
     rw [Yo] at h1
     exact ⟨(Zo _ hi _ (Yu r) h1).symm,(List.cons.inj e1).2⟩
    refine ⟨a,ys,rfl,.inr (hx _),_,_,rfl,rfl,rfl,_,rfl,ite2 (fun c=>?_) (fun c=>?_)⟩
    ·refine no (fun ⟨r,h1,_⟩=>not_true c (yV ?_)) H (Same.refl _)
     have e1:=is r h1
     have hk:=(kfr e1).1
     rw [e1,Vb,lx,Zq,← Qbm,hk]
     congr 1
    have hlen2:cs.length=nmK i + (bdsK i).length:=by
     by_cases e:cs.length=nmK i + (bdsK i).length
     ·exact e
     ·refine absurd (show (!decide _)=true from ?_) c
      rw [jJb,decide_eq_false_iff_not]
      intro z
      injection z with z
      rw [zJ,lx] at z
      lia
    clear c
    have hl5:cs.length<=1000:=by rw [zJ] at hlen;lia
    refine ⟨_,rfl,_,rfl,_,rfl,_,rfl,l,_,rfl,Qc hl,fun p1 hp1=>?_⟩
    dsimp only
    rw [cutm (by lia)]
    have s1:=Qf hp1 (.lst (cs.take (nmK i)))
    have hp11:upd H p1 (.lst (cs.take (nmK i))) p1=some (.lst (cs.take (nmK i))):=Qd
    generalize upd H p1 (.lst (cs.take (nmK i)))=H1 at s1 hp11 ⊢
    refine ⟨p1,rfl,⟨_,Qc hp11⟩,fun D hD=>?_⟩
    refine Wi V.bl nmBv rfl (Ze (xs:=cs.take (nmK i)) (val:=id) (Qc (by rw [List.map_id];exact hp11))) (by rw [yW];lia) hD (fun x hx H2 s2 P h=>?_) fun H2 s2 h2=>?_
    ·exact ⟨_,rfl,x,rfl,(hc x (jY _ (wZ hx))).same (s1.trans s2),fun b H3 s3 hb=>by rw [Qon hb (Vi x)];exact h H3 s3⟩
    refine ⟨D,_,rfl,Qc h2,_,rfl,ite2 (fun c1=>?_) (fun c1=>?_)⟩
    ·have hl2:=(s1.trans s2) _ _ hl
     refine ⟨_,rfl,_,rfl,_,rfl,l,_,rfl,Qc hl2,fun p3 hp3=>?_⟩
     dsimp only
     rw [cute (by lia)]
     have s3:=Qf hp3 (.lst (cs.drop (nmK i)))
     have hp33:upd H2 p3 (.lst (cs.drop (nmK i))) p3=some (.lst (cs.drop (nmK i))):=Qd
     generalize upd H2 p3 (.lst (cs.drop (nmK i)))=H3 at s3 hp33 ⊢
     refine ⟨p3,rfl,⟨_,Qc hp33⟩,fun D2 hD2=>?_⟩
     refine Wi V.bl Qfb rfl (Ze (xs:=cs.drop (nmK i)) (val:=id) (Qc (by rw [List.map_id];exact hp33))) (by rw [zK];lia) hD2 (fun x hx H4 s4 P h=>?_) fun H4 s4 h4=>?_
     ·exact ⟨_,rfl,x,rfl,Qiz (hc x (jY _ (jQb hx))).1 (((s1.trans s2).trans s3).trans s4),h H4 (Same.refl _)⟩
     refine ⟨D2,_,rfl,Qc h4,q _ H4 (((s1.trans s2).trans s3).trans s4) ?_⟩
     constructor
     ·intro h
      obtain ⟨ks,rfl⟩:∃ ks:List Key,cs=ks.map kV:=Qfc fun v hv=>by
       rw [← List.take_append_drop (nmK i) cs] at hv
       rcases yQ.mp hv with hv | hv
       ·exact .inl ((Vi v).mp (all_f.mp c1 v hv))
       ·exact .inr (all_f.mp h v hv)
      rw [jK] at hlen2
      obtain ⟨r,e,hg⟩:=Qit hi hlen2 (fun k hk=>nm_key ((Vi _).mp (all_f.mp c1 _ (by rw [← List.map_take];exact jJf hk)))) (fun k hk=>Qos (all_f.mp h _ (by rw [← List.map_drop];exact jJf hk)))
      exact ⟨r,⟨l,rfl,by rw [hl,← e];rfl⟩,hg⟩
     ·rintro ⟨r,h1,hg⟩
      refine all_f.mpr fun k hk=>?_
      obtain ⟨hkd,e3⟩:=kfr (is r h1)
      have ln:(r.names.map V.str).length=nmK i:=by rw [jK,Zq,hkd];rfl
      rw [e3,List.drop_left' ln] at hk
      obtain ⟨z,_,rfl⟩:=jQe.mp hk
      rfl
    ·refine no (fun ⟨r,h1,hg⟩=>c1 (all_f.mpr fun k hk=>?_)) H2 (s1.trans s2)
     obtain ⟨hkd,e3⟩:=kfr (is r h1)
     have ln:(r.names.map V.str).length=nmK i:=by rw [jK,Zq,hkd];rfl
     rw [e3,List.take_left' ln] at hk
     obtain ⟨x,hx,rfl⟩:=jQe.mp hk
     exact (Vi _).mpr ⟨x,rfl,hg x hx⟩
   ·refine ⟨_,rfl,l,_,_,_,rfl,rfl,Qc hl,a0,_,rfl,_,rfl,?_⟩
    rw [TN.no _ (Qgp fun i hi e=>hw ⟨i,hi,e⟩)]
    refine iteT ?_
    exact no (fun ⟨r,h1,_⟩=>hw ⟨r.kind,Yu r,by
     have:=is r h1
     rw [Kn] at this
     rw [← Yo]
     exact V.str.inj (List.cons.inj this).1⟩) H (Same.refl _)
end
end Nb
namespace L2
open PySem PySem.Spec PyProof.Rows
theorem Wo {α β:Type} {xs:List α} {i:Nat} {x:α} (h:xs[i]?=some x) (pr:α->Bool):(xs.take (i + 1)).filter pr=(xs.take i).filter pr ++ (if pr x=true then [x] else []):=by
 rw [Kf h,List.filter_append]
 congr 1
 by_cases c:pr x=true
 ·rw [if_pos c,List.filter_cons_of_pos c];rfl
 ·rw [if_neg c,List.filter_cons_of_neg c];rfl
theorem Qjb {α β:Type} {J:It} {H:Hp} {xs:List α} {val:α->V} {D:Addr} {cs τ0:St} {tt:TT} {te:TE} {Q:Addr->Hp->Prop} (g:β->V) (f:α->β) (pr:α->Bool) (hτ:τ0=none :: cs) (hw:Walk J H xs val) (fw:xs.length < sizeLine) (hD:H D=none)
  (ht:∀ x ∈ xs,∀ H1,Same H H1->∀ P:Bool->Hp->Prop,(∀ H2,Same H1 H2->P (pr x) H2)->tt (some (val x) :: cs) H1 P)
  (hs:∀ x ∈ xs,pr x=true->∀ H1,Same H H1->∀ P:V->Hp->Prop,(∀ H2,Same H1 H2->P (g (f x)) H2)->te (some (val x) :: cs) H1 P)
  (hd:∀ H1,Same H H1->H1 D=some (.lst (((xs.filter pr).map f).map g))->Q D H1) :
  LcW J D τ0 H (Js 0) tt te Q:=by
 subst hτ
 let Pv7:Nat->St->List V->Hp->Prop:=fun i τ ys H1=>∃ v:Option V,τ=v :: cs/\H1 D=some (.lst ys)/\Same H H1/\i<=xs.length/\ys=(((xs.take i).filter pr).map f).map g
 refine Qhu (n:=xs.length) Pv7 ?_ (fun i τ ys H1 hi h=>?_) (fun i τ ys H1 hi h=>?_) (fun τ ys H1 h=>?_) ?_ ?_
 ·exact ⟨none,rfl,Qd,Qf hD _,wX _,rfl⟩
 ·obtain ⟨v,rfl,hD1,s1,_,rfl⟩:=h
  refine ⟨hD1,?_⟩
  rw [jK,jK]
  have h1:=List.length_filter_le pr (xs.take i)
  rw [yW] at h1
  lia
 ·obtain ⟨v,rfl,hD1,s1,_,hp⟩:=h
  exact hw.go i H1 s1 hi
 ·obtain ⟨v,rfl,hD1,s1,_,hp⟩:=h
  exact hw.stop H1 s1
 ·rintro i τ ys H1 x H2 hi ⟨v,rfl,hD1,s1,_,rfl⟩ hy
  obtain ⟨rfl,y,ey,rfl⟩:=hw.yl i H1 x H2 s1 hy hi
  refine ht y (yX ey) _ s1 _ fun H3 s3=>?_
  by_cases c:pr y=true
  ·rw [c]
   refine iteT ?_
   refine hs y (yX ey) c _ (s1.trans s3) _ fun H4 s4=>⟨(s3.trans s4) _ _ hD1,_,rfl,Qd,Yr ((s1.trans s3).trans s4) hD,hi,?_⟩
   rw [Wo (β:=β) ey pr,if_pos c,xY,xY]
   rfl
  ·rw [Bool.eq_false_iff.mpr c]
   refine iteF ⟨_,rfl,s3 _ _ hD1,s1.trans s3,hi,?_⟩
   rw [Wo (β:=β) ey pr,if_neg c,jJe]
 ·rintro τ ys H1 ⟨v,rfl,hD1,s1,_,rfl⟩
  rw [wV] at hD1
  exact hd H1 s1 hD1
end L2
namespace Nb
open PySem L2
abbrev sIRw:Stmt:=top 19
abbrev sLov:Stmt:=top 20
def Qfd (K:Fg):Sp:=fun vs H Q _=>∃ (v:V) (sd:Addr) (d:Int) (kvs:List (List Key × V)) (A:List BR),vs=[v,.int d,.ref sd]/\H sd=some (.dT kvs)/\RowV K H v/\(∀ κ,(valV kvs κ).isSome=true ↔ Said A κ)/\d=Zh A /\
 ∀ (b:Bool) (H':Hp),Same H H'->(b=true ↔ Wn H A v)->Q (.bl b) H'
theorem Qaj {H:Hp} {v:V} {r q:BR} (h:RowIs H v r) (h':RowIs H v q):q=r:=by
 obtain ⟨l,rfl,h⟩:=h
 obtain ⟨l',e,h'⟩:=h'
 cases e
 rw [h] at h'
 exact (Kj (Qmn (HO.lst.inj (Option.some.inj h')))).symm
theorem Qgq {K:Fg} {H H':Hp} {v:V} {r:BR} (hv:RowV K H v) (s:Same H H') (h:RowIs H' v r):RowIs H v r:=by
 obtain ⟨l,rfl,h⟩:=h
 rcases hv with hf | ⟨l',xs,e,hl⟩ | ⟨l',xs,e,hl,_⟩
 ·exact nomatch hf
 ·cases e;have:=s _ _ hl;rw [h] at this;exact nomatch this
 ·cases e;have:=s _ _ hl;rw [h] at this;exact ⟨l,rfl,by rw [hl,HO.lst.inj (Option.some.inj this)]⟩
theorem Qdd {K:Fg} {H H':Hp} {v:V} {A:List BR} (hv:RowV K H v) (s:Same H H'):Wn H' A v ↔ Wn H A v:=⟨fun ⟨r,h,f⟩=>⟨r,Qgq hv s h,f⟩,fun ⟨r,h,f⟩=>⟨r,h.same s,f⟩⟩
def Wp (K:Fg) (C:Addr):Sp:=fun vs H Q E=>∃ (d:Addr) (us:List V),vs=[.ref d]/\H d=some (.lst us)/\(∀ v ∈ us,RowV K H v)/\us.length<=200000 /\
 (us=[]->RE C H 0 E) /\
 (∀ A,us ≠ []->Good A->RowsB H us A->∀ H',Same H H'->Q .non H') /\
 (∀ A i v,Good A->A.length=i->RowsB H (us.take i) A->us[i]?=some v->(¬ Wn H A v)->RE C H (i:Int) E)
section
variable {P:Program} {w:World} {K:Fg} {mg:Str->Option Value} {base:Heap}
theorem scIRw:FnScope ["row","days","said"] ["row","days","said"] (Qh sIRw):=⟨rfl,rfl,rfl,by decide +kernel,rfl,by decide +kernel,by decide +kernel⟩
theorem okIRw  (F:Fn K mg "is_row_of_book" sIRw) (M:Mg mg) (c_is_formed:Cal P w K mg base 2 "is_formed" ["row"] (Qdc K)) (c_is_within:Cal P w K mg base 1 "is_within" ["row","days"] (Qda)) (c_said_by:Cal P w K mg base 1 "said_by" ["row"] (Qin)) (c_needed_by:Cal P w K mg base 1 "needed_by" ["row"] (Qex)):Cal P w K mg base 3 "is_row_of_book" ["row","days","said"] (Qfd K):=by
 refine Xv F scIRw (fun _ _ _ _ _ _=>Qgc (fun _ _ _=>rfl)) (fun vs H Q E h=>?_) (fun f cdv A outer s H vs Q E hr h=>?_)
 ·obtain ⟨v,sd,d,kvs,A,rfl,_⟩:=h
  rfl
 obtain ⟨v,sd,d,kvs,B,rfl,hsd,hv,hsaid,hd,q⟩:=h
 have hu:(A.deeper (PyProof.Rows.envOfC "is_row_of_book" (Qh sIRw) s.heap.objs.size f cdv)).units + 1 < cLine:=jZf (jZc (by decide) _) hr.un
 refine ⟨_,(Qe (Xm (PW.pt (Wv (Zx (Zl (Xz c_is_formed (hr.mono (by decide)) (Qa (pv 0) Qg)))) (Vm (Zx (Zl (Xz c_is_within (hr.mono (by decide)) (Qa (pv 0) (Qa (pv 1) Qg)))))))) (Qi (Xa Jr)) Qt)
  (Qe (Xm (PW.pt (Qby (Qr Qjz (Qp Qk (pv 0) Qb (fun _ _=>rfl)) Qx (Qu _)) (Vl (Qlu (Qmh hu (Xz c_said_by (hr.mono (by decide)) (Qa (pv 0) Qg)) (pv 2)))))) (Qi (Xa Jr)) Qt)
  (Qi (Xa (Qm (Jx rfl) rfl M.all Qen (Qa (Qfx ["need","said"] [none,some 2] rfl (Ye (Xz c_needed_by (hr.mono (by decide)) (Qa (pv 0) Qg))) (fun _ _ _=>(Xb (i:=0) (show (["need","said"]:List Str).Nodup by decide +kernel) rfl (Or.inl rfl) (Or.inr rfl))) (fun _ _ _=>Zd) (fun _ _ _=>(pe_cmp (Qmh hu (pv 0) (pv 1))))) Qg)))))),?_⟩
 refine Kc ?_
 intro rT3 rT2
 have hz:(2000000:Nat) < sizeLine:=by decide
 refine ⟨_,rfl,v,rfl,hv,fun b1 H1 s1 hb1=>?_⟩
 refine ⟨b1,rfl,?_⟩
 cases b1 with
 | false=>exact iteT (iteT (q false H1 s1 ⟨fun z=>(nomatch z),fun ⟨r,hi,f⟩=>hb1.mpr ⟨r,hi,f.gn⟩⟩))
 | true =>
  refine iteF ?_
  obtain ⟨r,hi,hg⟩:=hb1.mp rfl
  obtain ⟨l,rfl,hl⟩:=id hi
  have eqv:Wn H B (.ref l) ↔ ∃ q,Fit B r.cells q:=⟨fun ⟨q,h,f⟩=>by rw [Qaj hi h] at f;exact ⟨r,f⟩,fun ⟨q,f⟩=>by have e:=Kj f.eq;subst e;exact ⟨r,hi,f⟩⟩
  have q:∀ (b:Bool) (H':Hp),Same H H'->(b=true ↔ ∃ q,Fit B r.cells q)->Q (.bl b) H':=fun b H' s' hb=>q b H' s' (hb.trans eqv.symm)
  have no:(¬ ∃ q,Fit B r.cells q)->∀ H',Same H H'->Q (.bl false) H':=fun h H' s'=>q false H' s' ⟨fun z=>(nomatch z),fun z=>absurd z h⟩
  have uniq:∀ {q:BR},Fit B r.cells q->q=r:=fun f=>Kj f.eq.symm
  have hl1:=s1 _ _ hl
  refine ⟨_,rfl,_,rfl,l,d,r,rfl,hl1,fun b2 H2 s2 hb2=>?_⟩
  have s12:=s1.trans s2
  refine ⟨b2,rfl,?_⟩
  cases b2 with
  | false=>exact iteT (no (fun ⟨q',f⟩=>kK (hb2.mpr (by have:=f.inn;rw [uniq f,← hd] at this;exact this))) H2 s12)
  | true =>
   refine iteF ?_
   have hin:=hb2.mp rfl
   rw [hd] at hin
   have hl2:=s12 _ _ hl
   have rest:(r.word ≠ "shut"->¬ Said B r.key)->∀ H3,Same H H3->rT3 { nx:=fun x H'=>Q V.non H',rt:=Q } (L2.start ["row","days","said"] [V.ref l,V.int d,V.ref sd]) H3:=fun hnw H3 s3=>by
    refine ⟨_,rfl,l,r,rfl,s3 _ _ hl,fun g ys H4 s4 hg4 ht4=>?_⟩
    refine ⟨g,rfl,⟨_,Qc hg4⟩,fun D hD=>?_⟩
    obtain ⟨zs,rfl,ezs,hzs⟩:=Qiv ht4
    have few:=(Qcy r).1
    have lz:zs.length<=2:=by
     have e5:=congrArg List.length ezs
     rw [jK,Qeu,jK] at e5
     lia
    refine Wi V.bl (fun z:Addr × List Key=>(valV kvs z.2).isSome) rfl (Ze (val:=fun z:Addr × List Key=>V.ref z.1) (Qc hg4)) (by lia) hD (fun z hz' H5 s5 P h=>?_) fun H5 s5 h5=>?_
    ·exact ⟨_,rfl,_,rfl,sd,_,rfl,DGet.t (((s3.trans s4).trans s5) _ _ hsd) (s5 _ _ (hzs z hz')),h H5 (Same.refl _)⟩
    refine ⟨D,_,rfl,Qc h5,q _ H5 ((s3.trans s4).trans s5) ?_⟩
    constructor
    ·intro h
     refine ⟨r,rfl,hg,hin,hnw,fun k hk=>?_⟩
     rw [← ezs] at hk
     obtain ⟨z,hz',rfl⟩:=jQe.mp hk
     exact (hsaid _).mp (all_f.mp h z hz')
    ·rintro ⟨q',f⟩
     refine all_f.mpr fun z hz'=>(hsaid _).mpr ?_
     have:=f.nd z.2 (by rw [uniq f,← ezs];exact jJf (f:=(·.2)) hz')
     exact this
   refine ⟨_,rfl,l,_,_,_,rfl,rfl,Qc hl2,Km r,rfl,_,rfl,ite2 (fun c=>?_) (fun c=>?_)⟩
   ·have hw:r.word ≠ "shut":=fun e=>not_true c (by rw [e];exact yesS _)
    refine ⟨_,rfl,l,r,rfl,hl2,fun t H3 s3 ft ht=>?_⟩
    refine ⟨_,rfl,sd,_,rfl,DGet.t ((s12.trans s3) _ _ hsd) ht,_,rfl,ite2 (fun c5=>?_) (fun c5=>?_)⟩
    ·exact no (fun ⟨q',f⟩=>by
      have h7:=f.nw
      rw [uniq f] at h7
      exact h7 hw ((hsaid _).mp c5)) H3 (s12.trans s3)
    ·exact rest (fun _ hs=>c5 ((hsaid _).mpr hs)) H3 (s12.trans s3)
   ·refine rest (fun hw=>?_) H2 s12
    exact absurd (show (!decide (V.str r.word=V.str "shut"))=true by rw [jJb,decide_eq_false_iff_not];exact fun z=>hw (V.str.inj z)) c
theorem scLov:FnScope ["rows","said","days","number","row"] ["rows"] (Qh sLov):=⟨rfl,rfl,rfl,by decide +kernel,rfl,by decide +kernel,by decide +kernel⟩
theorem okLov {C D fI:Addr} {fdI:FuncData} {fo:Obj} (NB:NBk P w K mg base C D fI fdI fo) (F:Fn K mg "looked" sLov) (M:Mg mg) (c_is_row_of_book:Cal P w K mg base 3 "is_row_of_book" ["row","days","said"] (Qfd K)) (c_said_by:Cal P w K mg base 1 "said_by" ["row"] (Qin)):CalG P w K mg base C 4 "looked" ["rows"] (Wp K C):=by
 refine Qom F scLov (fun _ _ _ _ _ _=>bind1 (fun _=>rfl)) (fun vs H Q E h=>?_) (fun f cdv A outer s H vs Q E hr h=>?_)
 ·obtain ⟨d,us,rfl,_⟩:=h
  rfl
 obtain ⟨d,us,rfl,hd,hV,hlen,h0,hok,hbad⟩:=h
 have hu:(A.deeper (PyProof.Rows.envOfC "looked" (Qh sLov) s.heap.objs.size f cdv)).units + 1 < cLine:=jZf (jZc (by decide) _) hr.un
 refine ⟨_,(Qe (Xm (Qr Xy (Qm Qn rfl M.len Xp (Qa (pv 0) Qg)) Qb (Qu _)) (Qi (Kh NB.ei NB.gi NB.bi NB.lk NB.fc NB.kc (hr.mono (by decide)) (Qa Qb Qg))) Qt)
  (Qe (Qs (i:=1) scLov.nd rfl (Or.inl rfl) Qkq)
  (Qe (Qs (i:=2) scLov.nd rfl (Or.inl rfl) Qb)
  (Qi (Yz PassesOwn.leaving rfl (Qay true rfl M.enumerate_ (Qa (pv 0) Qg)) (Vx (K:=K) (i:=3) (j:=4) rfl rfl scLov.nd rfl rfl rfl rfl) (Qe (Xm (Zx (Zl (Xz c_is_row_of_book (hr.mono (by decide)) (Qa (pv 4) (Qa (pv 2) (Qa (pv 1) Qg)))))) (Qi (Kh NB.ei NB.gi NB.bi NB.lk NB.fc NB.kc (hr.mono (by decide)) (Qa (pv 3) Qg))) Qt)
  (Qe (Qnt hu (pv 1) (Xz c_said_by (hr.mono (by decide)) (Qa (pv 4) Qg)) Jr rfl)
  (Qi (Qs (i:=2) scLov.nd rfl (Or.inl rfl) (Qp Qk (Qp Qk (pv 0) Qb (fun _ _=>rfl)) Qb (fun _ _=>rfl))))))))))),?_⟩
 refine Qba ?_
 intro rT4 rT3 rT2
 have hz:(2000000:Nat) < sizeLine:=by decide
 refine ⟨_,rfl,d,_,rfl,.inl (Qc hd),rfl,_,rfl,ite2 (fun c=>?_) (fun c=>?_)⟩
 ·have e:=yK c
  injection e with e
  exact ⟨_,rfl,(h0 (jQa.mp (by lia))).raise (Same.refl _)⟩
 have hne:us ≠ []:=fun e=>c (yV (by rw [e];rfl))
 intro sd hsd0
 have s0:=Qf hsd0 (.dT [])
 have hsd:upd H sd (.dT []) sd=some (.dT []):=Qd
 generalize upd H sd (.dT [])=H0 at s0 hsd ⊢
 let Pv8:Nat->St->Hp->Prop:=fun i σ H1=>∃ (u3 u4:Option V) (kvs:List (List Key × V)) (B:List BR),σ=[some (.ref d),some (.ref sd),some (.int (Zh B)),u3,u4]/\H1 sd=some (.dT kvs)/\(∀ k,(valV kvs k).isSome=true ↔ Said B k)/\kvs.length<=i/\Good B/\B.length=i/\RowsB H (us.take i) B/\Same H H1
 refine ⟨_,rfl,d,rfl,⟨_,Qc (s0 _ _ hd)⟩,Vf (K:=K) (m:=true) (a:=d) (xs:=us) Pv8 ⟨none,none,[],[],rfl,hsd,fun k=>⟨fun h=>(nomatch h),fun ⟨q,hq,_⟩=>(nomatch hq)⟩,wX _,Good.nil,rfl,.nil,s0⟩ (fun i σ H1 _ h=>?_) ?_ ?_⟩
 ·obtain ⟨u3,u4,kvs,B,rfl,h1,h2,h3,h4,h5,h6,s1⟩:=h
  exact s1.seq (Qc hd)
 ·rintro i x σ H1 T' e1 ⟨u3,u4,kvs,B,rfl,h1,h2,h3,h4,h5,h6,s1⟩ hT'
  have hi:=(kZ.mp e1).1
  have s2:=Qf hT' (.tup [.int ((i:Nat):Int),x])
  refine ⟨T',_,rfl,Yb Qd,rfl,_,_,rfl,_,_,rfl,rfl,?_⟩
  generalize upd H1 T' (.tup [.int ((i:Nat):Int),x])=H2 at s2 ⊢
  have s12:=s1.trans s2
  have hs2:=s2 _ _ h1
  have hx:=hV x (yX e1)
  refine ⟨_,rfl,_,rfl,_,rfl,x,sd,_,kvs,B,rfl,hs2,hx.same s12,h2,rfl,fun b H3 s3 hb=>?_⟩
  have s13:=s12.trans s3
  have hb:=hb.trans (Qdd hx s12)
  refine ⟨b,rfl,?_⟩
  cases b with
  | false=>exact iteT ⟨_,rfl,_,rfl,(hbad B i x h4 h5 h6 e1 (fun h=>kK (hb.mpr h))).raise s13⟩
  | true =>
   refine iteF ?_
   obtain ⟨r,⟨l,rfl,hl⟩,f⟩:=hb.mp rfl
   refine ⟨_,rfl,_,rfl,l,r,rfl,s13 _ _ hl,fun t H4 s4 ft ht=>?_⟩
   have s14:=s13.trans s4
   refine ⟨sd,_,rfl,DPut.t ((s3.trans s4) _ _ hs2) ht (by lia),?_⟩
   have s15:Same H (upd H4 sd (.dT (putK kvs r.key (.bl true)))):=Yr s14 hsd0
   have hs5:upd H4 sd (.dT (putK kvs r.key (.bl true))) sd=some (.dT (putK kvs r.key (.bl true))):=Qd
   generalize upd H4 sd (.dT (putK kvs r.key (.bl true)))=H5 at s15 hs5 ⊢
   have hG:=h4.snoc f
   have tk:RowsB H (us.take (i + 1)) (B ++ [r]):=by rw [Kf e1];exact h6.snoc hl
   obtain ⟨n,B',eB,hn⟩:∃ n B',B ++ [r]=.days n :: B'/\Zh (B ++ [r])=n:=by
    rcases hG.days with ⟨e,_⟩ | ⟨n,B',e,e2,_⟩
    ·exact absurd e (by simp)
    ·exact ⟨n,B',e,e2⟩
   obtain ⟨l0,e0,hl0⟩:∃ l0,us[0]?=some (.ref l0)/\H l0=some (.lst [.str "days",.int n]):=by
    obtain ⟨v0,ev0⟩:∃ v0,us[0]?=some v0:=⟨_,gE (by lia)⟩
    have e7:(us.take (i + 1))[0]?=some v0:=by rw [List.getElem?_take,if_pos (Nat.succ_pos _)];exact ev0
    obtain ⟨r0,l0,er0,rfl,hl0⟩:=tk.get e7
    rw [eB] at er0
    cases er0
    exact ⟨l0,ev0,hl0⟩
   refine ⟨_,rfl,d,_,_,_,rfl,rfl,Qc (s15 _ _ hd),Zn (k:=0) e0,l0,_,_,_,rfl,rfl,Qc (s15 _ _ hl0),at1,?_⟩
   refine ⟨_,_,_,B ++ [r],by rw [hn];rfl,hs5,fun k=>?_,?_,hG,by rw [jW,h5];rfl,tk,s15⟩
   ·rw [Qko]
    have e9:Said (B ++ [r]) k ↔ k=r.key\/Said B k:=by
     constructor
     ·rintro ⟨q,hq,rfl⟩
      rcases yQ.mp hq with h | h
      ·exact .inr ⟨q,h,rfl⟩
      ·rw [jQ.mp h];exact .inl rfl
     ·rintro (rfl | ⟨q,hq,rfl⟩)
      ·exact ⟨r,yY _ jX,rfl⟩
      ·exact ⟨q,jXd _ hq,rfl⟩
    rw [e9]
    by_cases e5:k=r.key
    ·rw [if_pos e5];exact ⟨fun _=>.inl e5,fun _=>rfl⟩
    ·rw [if_neg e5,h2];exact ⟨.inr,fun h=>h.resolve_left e5⟩
   ·have:=Jt kvs r.key (.bl true);lia
 ·rintro σ H1 ⟨u3,u4,kvs,B,rfl,h1,h2,h3,h4,h5,h6,s1⟩
  rw [wV] at h6
  exact hok B hne h4 h6 H1 s1
end
theorem gn1 {x:Str} (h:NmOk x):∀ y ∈ [x],NmOk y:=fun y hy=>by rw [jQ.mp hy];exact h
def Qbq (k:Key) (a b:Int):Prop:=∃ z,k=.inl z/\a<=z/\z<=b
def BR.c1 (r:BR):Key:=r.cells.getD 1 (.inl 0)
theorem at_c1 (r:BR):atI (r.cells.map kV) 1=some (kV r.c1):=by cases r <;> rfl
def isW (w:Str) (r:BR):Bool:=decide (V.str r.word=V.str w)
def thOf (A:List BR) (w:Str):List Key:=(A.filter (isW w)).map BR.c1
theorem isW_iff {w:Str} {r:BR}:isW w r=true ↔ r.word=w:=⟨fun h=>eqS h,fun h=>by unfold isW;rw [h];exact yesS _⟩
theorem Wq {r:BR} {i:Nat} (hi:i < 11) (h:r.word=wordOf i):r.kind=i:=(Jh r hi).mp h
theorem Qjc {r:BR} (h:r.kind=1\/r.kind=3\/r.kind=4):r.key=[.inr r.word,r.c1]:=by
 rcases h with h | h | h
 ·obtain ⟨b,n,rfl⟩:=Jl h;rfl
 ·obtain ⟨b,m,f,rfl⟩:=Zp h;rfl
 ·obtain ⟨w,rfl⟩:=Ke h;rfl
theorem th_iff {A:List BR} {w:Str} {i:Nat} (hi:i=1\/i=3\/i=4) (hw:w=wordOf i) {k:Key}:k ∈ thOf A w ↔ Said A [.inr w,k]:=by
 have i11:i < 11:=by lia
 unfold thOf
 rw [jQe]
 constructor
 ·rintro ⟨r,hr,rfl⟩
  obtain ⟨hr1,hr2⟩:=kQd.mp hr
  have e:=isW_iff.mp hr2
  refine ⟨r,hr1,?_⟩
  have hk:=Wq i11 (e.trans hw)
  rw [Qjc (by rw [hk];exact hi),e]
 ·rintro ⟨q,hq,e⟩
  have e1:q.word=w:=Qle e
  have hk:=Wq i11 (e1.trans hw)
  refine ⟨q,kQd.mpr ⟨hq,isW_iff.mpr e1⟩,?_⟩
  rw [Qjc (by rw [hk];exact hi)] at e
  injection e with _ e2
  injection e2
theorem Zv {A:List BR} (hA:Good A) {w:Str} {ks:List Key} (h:Said A (.inr w :: ks)):∀ k ∈ ks,IsNm k:=by
 obtain ⟨q,hq,e⟩:=h
 obtain ⟨i,ei⟩:=jXa.mp hq
 have hg:=(hA i q ei).gn
 have e':(Sum.inr q.word:Key) :: q.names.map Sum.inr=.inr w :: ks:=e
 injection e' with _ e2
 intro k hk
 rw [← e2] at hk
 obtain ⟨x,hx,rfl⟩:=jQe.mp hk
 exact ⟨x,rfl,hg x hx⟩
theorem Wr {A:List BR} (hA:Good A) (hne:A ≠ []):Said A [.inr "days"]:=by
 rcases hA.days with ⟨e,_⟩ | ⟨n,B,rfl,_⟩
 ·exact absurd e hne
 ·exact ⟨.days n,jX,rfl⟩
theorem Jc {A:List BR} {i:Nat} (hi:i < 11) {ks:List Key} {r:BR} (f:Fit A (.inr (wordOf i) :: ks) r):r.kind=i/\ks.length=nmK i + (bdsK i).length:=by
 have hk:=Wq hi (Qai f.eq.symm)
 refine ⟨hk,?_⟩
 have h1:=congrArg List.length f.eq
 have h2:=Vb r
 rw [jK] at h2
 rw [zJ,h2,Zq,← Qbm,hk] at h1
 have h3:ks.length + 1=1 + nmK i + (bdsK i).length:=h1
 lia
section
variable {A:List BR} {a b c m:Key}
theorem Qjd (hA:Good A) (hne:A ≠ []):(∃ r,Fit A [.inr "bench",a,b] r) ↔ IsNm a/\¬ Said A [.inr "bench",a]/\Qbq b 0 99:=by
 constructor
 ·rintro ⟨r,f⟩
  obtain ⟨hk,_⟩:=Jc (i:=1) (by decide) f
  obtain ⟨x,z,rfl⟩:=Jl hk
  have e:[Sum.inr ("bench":Str),a,b]=[Sum.inr ("bench":Str),.inr x,.inl z]:=f.eq
  injection e with _ e
  injection e with e1 e
  injection e with e2
  subst e1 e2
  cases f.inn.1 with
  | cons h _=>exact ⟨⟨x,rfl,f.gn x jX⟩,f.nw (by show ¬ (("bench":Str)="shut");decide +kernel),z,rfl,h.1,h.2⟩
 ·rintro ⟨⟨x,rfl,hx⟩,hn,z,rfl,z0,z1⟩
  exact ⟨.bench x z,rfl,gn1 hx,⟨.cons ⟨z0,z1⟩ .nil,True.intro⟩,fun _=>hn,fun k hk=>by rw [jQ.mp hk];exact Wr hA hne⟩
theorem Qje (hA:Good A) (hne:A ≠ []):(∃ r,Fit A [.inr "store",a,b,c] r) ↔ IsNm a/\¬ Said A [.inr "store",a]/\∃ z,b=.inl z/\0<=z/\z<=999/\Qbq c 0 z:=by
 constructor
 ·rintro ⟨r,f⟩
  obtain ⟨hk,_⟩:=Jc (i:=3) (by decide) f
  obtain ⟨x,z,y,rfl⟩:=Zp hk
  have e:[Sum.inr ("store":Str),a,b,c]=[Sum.inr ("store":Str),.inr x,.inl z,.inl y]:=f.eq
  injection e with _ e
  injection e with e1 e
  injection e with e2 e
  injection e with e3
  subst e1 e2 e3
  cases f.inn.1 with
  | cons h t =>
   cases t with
   | cons h2 _=>exact ⟨⟨x,rfl,f.gn x jX⟩,f.nw (by show ¬ (("store":Str)="shut");decide +kernel),z,rfl,h.1,h.2,y,rfl,h2.1,f.inn.2⟩
 ·rintro ⟨⟨x,rfl,hx⟩,hn,z,rfl,z0,z1,y,rfl,y0,y1⟩
  exact ⟨.store x z y,rfl,gn1 hx,⟨.cons ⟨z0,z1⟩ (.cons ⟨y0,by show y<=999;lia⟩ .nil),y1⟩,fun _=>hn,fun k hk=>by rw [jQ.mp hk];exact Wr hA hne⟩
theorem Qlk (hA:Good A) (hne:A ≠ []):(∃ r,Fit A [.inr "work",a] r) ↔ IsNm a/\¬ Said A [.inr "work",a]:=by
 constructor
 ·rintro ⟨r,f⟩
  obtain ⟨hk,_⟩:=Jc (i:=4) (by decide) f
  obtain ⟨x,rfl⟩:=Ke hk
  have e:[Sum.inr ("work":Str),a]=[Sum.inr ("work":Str),.inr x]:=f.eq
  injection e with _ e
  injection e with e1
  subst e1
  exact ⟨⟨x,rfl,f.gn x jX⟩,f.nw (by show ¬ (("work":Str)="shut");decide +kernel)⟩
 ·rintro ⟨⟨x,rfl,hx⟩,hn⟩
  exact ⟨.work x,rfl,gn1 hx,⟨.nil,True.intro⟩,fun _=>hn,fun k hk=>by rw [jQ.mp hk];exact Wr hA hne⟩
theorem gn2 {x y:Str} (h1:NmOk x) (h2:NmOk y):∀ z ∈ [x,y],NmOk z:=fun z hz=>by
 rcases jJ.mp hz with e | e
 ·rw [e];exact h1
 ·rw [jQ.mp e];exact h2
theorem gn3 {x y t:Str} (h1:NmOk x) (h2:NmOk y) (h3:NmOk t):∀ z ∈ [x,y,t],NmOk z:=fun z hz=>by
 rcases jJ.mp hz with e | e
 ·rw [e];exact h1
 ·exact gn2 h2 h3 z e
theorem Qou (hA:Good A):(∃ r,Fit A [.inr "way",a,b,c,m] r) ↔ Said A [.inr "work",a]/\IsNm b/\¬ Said A [.inr "way",a,b]/\Qbq c 1 (Zh A)/\Qbq m 0 999999:=by
 constructor
 ·rintro ⟨r,f⟩
  obtain ⟨hk,_⟩:=Jc (i:=5) (by decide) f
  obtain ⟨x,y,z,u,rfl⟩:=Qbb hk
  have e:[Sum.inr ("way":Str),a,b,c,m]=[Sum.inr ("way":Str),.inr x,.inr y,.inl z,.inl u]:=f.eq
  injection e with _ e
  injection e with e1 e
  injection e with e2 e
  injection e with e3 e
  injection e with e4
  subst e1 e2 e3 e4
  cases f.inn.1 with
  | cons h t =>
   cases t with
   | cons h2 _=>exact ⟨f.nd _ jX,⟨y,rfl,f.gn y (jY _ jX)⟩,f.nw (by show ¬ (("way":Str)="shut");decide +kernel),⟨z,rfl,h.1,h.2⟩,u,rfl,h2.1,h2.2⟩
 ·rintro ⟨hs,⟨y,rfl,hy⟩,hn,⟨z,rfl,z0,z1⟩,u,rfl,u0,u1⟩
  obtain ⟨x,rfl,hx⟩:=Zv hA hs a jX
  exact ⟨.way x y z u,rfl,gn2 hx hy,⟨.cons ⟨z0,z1⟩ (.cons ⟨u0,u1⟩ .nil),True.intro⟩,fun _=>hn,fun k hk=>by rw [jQ.mp hk];exact hs⟩
theorem Qll (hA:Good A):(∃ r,Fit A [.inr "shut",a,b,c] r) ↔ Said A [.inr "bench",a]/\∃ z,b=.inl z/\0<=z/\z<=Zh A/\Qbq c (z + 1) (Zh A):=by
 constructor
 ·rintro ⟨r,f⟩
  obtain ⟨hk,_⟩:=Jc (i:=2) (by decide) f
  obtain ⟨x,z,y,rfl⟩:=Wm hk
  have e:[Sum.inr ("shut":Str),a,b,c]=[Sum.inr ("shut":Str),.inr x,.inl z,.inl y]:=f.eq
  injection e with _ e
  injection e with e1 e
  injection e with e2 e
  injection e with e3
  subst e1 e2 e3
  cases f.inn.1 with
  | cons h t =>
   cases t with
   | cons h2 _ =>
    have h3:z < y:=f.inn.2
    exact ⟨f.nd _ jX,z,rfl,h.1,h.2,y,rfl,by lia,h2.2⟩
 ·rintro ⟨hs,z,rfl,z0,z1,y,rfl,y0,y1⟩
  obtain ⟨x,rfl,hx⟩:=Zv hA hs a jX
  exact ⟨.shut x z y,rfl,gn1 hx,⟨.cons ⟨z0,z1⟩ (.cons ⟨by show 0<=y;lia,y1⟩ .nil),by show z < y;lia⟩,fun h=>absurd rfl h,fun k hk=>by rw [jQ.mp hk];exact hs⟩
theorem Qlm (hA:Good A):(∃ r,Fit A [.inr "late",a,b,c] r) ↔ ¬ Said A [.inr "late",a]/\Said A [.inr "work",a]/\Qbq b 0 (Zh A)/\Qbq c 1 999999:=by
 constructor
 ·rintro ⟨r,f⟩
  obtain ⟨hk,_⟩:=Jc (i:=10) (by decide) f
  obtain ⟨x,z,y,rfl⟩:=Wf hk
  have e:[Sum.inr ("late":Str),a,b,c]=[Sum.inr ("late":Str),.inr x,.inl z,.inl y]:=f.eq
  injection e with _ e
  injection e with e1 e
  injection e with e2 e
  injection e with e3
  subst e1 e2 e3
  cases f.inn.1 with
  | cons h t =>
   cases t with
   | cons h2 _=>exact ⟨f.nw (by show ¬ (("late":Str)="shut");decide +kernel),f.nd _ jX,⟨z,rfl,h.1,h.2⟩,y,rfl,h2.1,h2.2⟩
 ·rintro ⟨hn,hs,⟨z,rfl,z0,z1⟩,y,rfl,y0,y1⟩
  obtain ⟨x,rfl,hx⟩:=Zv hA hs a jX
  exact ⟨.late x z y,rfl,gn1 hx,⟨.cons ⟨z0,z1⟩ (.cons ⟨y0,y1⟩ .nil),True.intro⟩,fun _=>hn,fun k hk=>by rw [jQ.mp hk];exact hs⟩
theorem Qjf (hA:Good A):(∃ r,Fit A [.inr "after",a,b,c] r) ↔ ¬ Said A [.inr "after",a,b]/\Said A [.inr "work",a]/\Said A [.inr "work",b]/\b ≠ a/\Qbq c 0 (Zh A):=by
 constructor
 ·rintro ⟨r,f⟩
  obtain ⟨hk,_⟩:=Jc (i:=9) (by decide) f
  obtain ⟨x,y,z,rfl⟩:=Ji hk
  have e:[Sum.inr ("after":Str),a,b,c]=[Sum.inr ("after":Str),.inr x,.inr y,.inl z]:=f.eq
  injection e with _ e
  injection e with e1 e
  injection e with e2 e
  injection e with e3
  subst e1 e2 e3
  cases f.inn.1 with
  | cons h t =>
   have h3:x ≠ y:=f.inn.2
   exact ⟨f.nw (by show ¬ (("after":Str)="shut");decide +kernel),f.nd _ jX,f.nd _ (jY _ jX),fun e=>h3 (Sum.inr.inj e).symm,z,rfl,h.1,h.2⟩
 ·rintro ⟨hn,hs,hs2,hab,z,rfl,z0,z1⟩
  obtain ⟨x,rfl,hx⟩:=Zv hA hs a jX
  obtain ⟨y,rfl,hy⟩:=Zv hA hs2 b jX
  refine ⟨.after x y z,rfl,gn2 hx hy,⟨.cons ⟨z0,z1⟩ .nil,fun e=>hab (by rw [show x=y from e])⟩,fun _=>hn,fun k hk=>?_⟩
  rcases jJ.mp hk with e | e
  ·rw [e];exact hs
  ·rw [jQ.mp e];exact hs2
def thK:Fin 3->Str
 | 0=>"bench"
 | _=>"store"
theorem Qde (k:Fin 3) (x y t:Str) (z:Int):(BR.use k x y t z).needs=[[.inr "way",.inr x,.inr y],[.inr (thK k),.inr t]]:=by
 match k with | 0=>rfl | 1=>rfl | 2=>rfl
theorem Qov (k:Fin 3):useW k ≠ "shut":=by match k with | 0=>decide +kernel | 1=>decide +kernel | 2=>decide +kernel
theorem Qow (k:Fin 3):useW k=wordOf (6 + k.val):=by match k with | 0=>rfl | 1=>rfl | 2=>rfl
theorem Qjg (k:Fin 3):bdsK (6 + k.val)=[(1,some 99)]:=by match k with | 0=>rfl | 1=>rfl | 2=>rfl
theorem Qox (hA:Good A) (k:Fin 3):(∃ r,Fit A [.inr (useW k),a,b,c,m] r) ↔ ¬ Said A [.inr (useW k),a,b,c]/\Said A [.inr "way",a,b]/\Said A [.inr (thK k),c]/\Qbq m 1 99:=by
 constructor
 ·rintro ⟨r,f⟩
  rw [Qow] at f
  obtain ⟨hk,_⟩:=Jc (i:=6 + k.val) (by have:=k.isLt;lia) f
  obtain ⟨x,y,t,z,rfl⟩:=Qbn k hk
  have e:[Sum.inr (wordOf (6 + k.val)),a,b,c,m]=[Sum.inr (useW k),.inr x,.inr y,.inr t,.inl z]:=f.eq
  injection e with _ e
  injection e with e1 e
  injection e with e2 e
  injection e with e3 e
  injection e with e4
  subst e1 e2 e3 e4
  have hi:=f.inn.1
  rw [hk,Qjg] at hi
  have hn:=f.nd
  rw [Qde] at hn
  cases hi with
  | cons h _=>exact ⟨f.nw (Qov k),hn _ jX,hn _ (jY _ jX),z,rfl,h.1,h.2⟩
 ·rintro ⟨hn,hs,hs2,z,rfl,z0,z1⟩
  obtain ⟨x,rfl,hx⟩:=Zv hA hs a jX
  obtain ⟨y,rfl,hy⟩:=Zv hA hs b (jY _ jX)
  obtain ⟨t,rfl,ht⟩:=Zv hA hs2 c jX
  refine ⟨.use k x y t z,rfl,gn3 hx hy ht,⟨?_,True.intro⟩,fun _=>hn,fun κ hκ=>?_⟩
  ·show Paired (InB _) [z] (bdsK (6 + k.val))
   rw [Qjg]
   exact .cons ⟨z0,z1⟩ .nil
  ·rw [Qde] at hκ
   rcases jJ.mp hκ with e | e
   ·rw [e];exact hs
   ·rw [jQ.mp e];exact hs2
end
end Nb
namespace L2
open PySem PySem.Spec PyProof.Rows PySem.SeqAt
end L2
namespace L2
open PySem PySem.Spec PySem.Calls PyProof.Rows PySem.W
def Thr (X:Cx) (pins:List (Addr × Obj)) (σ:St) (CX:CXT) (E:XK) (ev:Value) (s':Shared):Prop:=∃ H1 s1,Inv X pins σ H1 s1/\CX X.stack H1 s1 E ev s'
def Nxt (X:Cx) (pins:List (Addr × Obj)) (σ:St) (R:Hp->Prop) (fl:Flow) (s':Shared):Prop:=fl=.next/\∃ H',Inv X pins σ H' s'/\R H'
section
variable {X:Cx} {CX:CXT} {k:Nat} {f C:Addr} {fd:FuncData} {ps:List Str} {sp:Sp} {dvs:List V} {ds:List Value} {E:XK} {x:Str} {e:Expr} {pins:List (Addr × Obj)} {σ:St} {H:Hp} {s:Shared} {Q:VK} {us:List Value} {vs:List V}
theorem Qmq (F:FnOk X.prog X.w X.K X.mg X.base CX k f fd ps sp) (hr:Room k X.A) (hb:Binds X.K fd ps ds) (hd:Vals dvs ds)
  (I:Inv X pins σ H s) (r:Vals vs us) (h:sp (vs ++ dvs) H Q E):wpAny (model X.prog X.w) X.A (call (.ref f) us) (EP X pins σ Q) (Thr X pins σ CX E) s:=by
 have r2:Vals (vs ++ dvs) (us ++ ds):=r.append hd
 have hl:(us ++ ds).length=ps.length:=by rw [← r2.length];exact F.len _ _ _ _ h
 refine wpAny_call (codeAny_mono (F.run X.A X.stack s H ⟨us,[]⟩ (us ++ ds) (vs ++ dvs) Q E hr I.env0 (hb s us I.kIn hl) r2 h) fun r s' hq=>?_)
 cases r with
 | error e=>exact ⟨H,s,I,hq⟩
 | ok fl =>
  cases fl with
  | ret u=>exact I.after hq
  | next=>exact False.elim hq
  | brk=>exact False.elim hq
  | cont=>exact False.elim hq
theorem Qgr (M:Mk X.K C f) (F:FnOk X.prog X.w X.K X.mg X.base CX k f fd ps sp) (hr:Room (k + 1) X.A) (hb:Binds X.K fd ps ds) (hd:Vals dvs ds) (I:Inv X pins σ H s) (r:Vals vs us)
  (h:∀ x dx,H x=none->H dx=none->dx ≠ x->sp (.ref x :: (vs ++ dvs)) (upd (upd H dx (.own x)) x (.ins C dx [])) (fun v H2=>v=.non/\Q (.ref x) H2) E) :
  wpAny (model X.prog X.w) X.A (call (.ref C) us) (EP X pins σ Q) (Thr X pins σ CX E) s:=by
 have hq:=h (s.heap.objs.size + 1) s.heap.objs.size (I.hok.fresh (jZa _)) (I.hok.fresh (kQ _)) (yJ (jYb _))
 have I2:=Inv.made (C:=C) I
 have r2:Vals (V.ref (s.heap.objs.size + 1) :: (vs ++ dvs)) (Value.ref (s.heap.objs.size + 1) :: (us ++ ds)):=.cons rfl (r.append hd)
 have hl:(Value.ref (s.heap.objs.size + 1) :: us ++ ds).length=ps.length:=by
  have e:=r2.length
  rw [F.len _ _ _ _ hq] at e
  exact e.symm
 refine wpAny_call (Qek (f:=f) I.kIn M.makes M.init (beq_iff_eq.mp M.fn) (codeAny_mono (F.run _ X.stack _ _ ⟨Value.ref (s.heap.objs.size + 1) :: us,[]⟩ (Value.ref (s.heap.objs.size + 1) :: (us ++ ds)) _ _ E (hr.make C us [])
  (I2.env0.make C us []) (hb _ (Value.ref (s.heap.objs.size + 1) :: us) I2.kIn hl) r2 hq) fun r s' hq'=>?_))
 cases r with
 | error e=>exact ⟨_,_,I2,hq'⟩
 | ok fl =>
  cases fl with
  | ret u =>
   obtain ⟨v,H',I3,rv,ev,q3⟩:=I2.after hq'
   subst ev
   exact ⟨rv,⟨V.ref (s.heap.objs.size + 1),H',I3,rfl,q3⟩⟩
  | next=>exact False.elim hq'
  | brk=>exact False.elim hq'
  | cont=>exact False.elim hq'
end
def TBd (X:Cx) (C C2:Addr) (b:List Stmt) (tb:St->Hp->(Hp->Prop)->XK->XK->Prop):Prop :=
 ∀ (pins:List (Addr × Obj)) (s:Shared) (σ:St) (H:Hp) (R:Hp->Prop) (EG EE:XK),Inv X pins σ H s->tb σ H R EG EE ->
  wpAny (model X.prog X.w) X.A (execs b X.env) (Nxt X pins σ R) (fun ev s'=>Thr X pins σ (CXg X.prog X.w C) EG ev s'\/Thr X pins σ (CXe X.prog X.w C2) EE ev s') s
section
variable {X:Cx} {k:Nat} {f C C1 C2:Addr} {fd:FuncData} {ps:List Str} {sp:Sp} {x m:Str} {p pos apos epos:Pos} {e o:Expr} {es:List Expr} {ta:TE} {t:TA}
theorem Qjh {pl:Sem Bool} (hxe:X.xe=fun _ _=>False) (he:PE X o ta) (c:Cls X.K C) (hm:Meth X.K C m f) (F:FnOk X.prog X.w X.K X.mg X.base (CXg X.prog X.w C1) k f fd ps sp) (hr:Room k X.A) (hb:Binds X.K fd ps []) (ha:PA X (e :: es) t)
  (hst:autoParam (starEach (e :: es) X.env=(false,eval e X.env) :: starEach es X.env) L2.aRfl._auto_1) (hpl:autoParam ((backTo pos (starEach es X.env)).any (·.1)=false) L2.aRfl._auto_1)
  (ht:eval (.Call (.Attribute o m apos) (e :: es) [] pos) X.env=(do
   let ov ← eval o X.env
   standAt apos.atName
   let (f,first) ← holding [ov] (getMethod ov m pl)
   callWith pos f first (backTo pos (starEach (e :: es) X.env)) (backToKw pos (keywordEach [] X.env))):=by rfl)
  (hs:autoParam (swapsWith (.Call (.Attribute o m apos) (e :: es) [] pos) none epos.line X.env=pure false) L2.aRfl._auto_1) :
  TBd X C1 C2 [.Expr (.Call (.Attribute o m apos) (e :: es) [] pos) epos] (fun σ H R EG _=>Qkc C m sp [] EG ta t σ H fun _ H2=>R H2):=by
 intro pins s σ H R EG EE I h
 refine wpAny_execs_cons (wpAny_Expr_any ?_ I.quiet hs)
 refine PySem.W.methodCall_KW (pl:=pl) (wpAny_mono (he pins s σ H _ I h) (fun u s1 hqP=>?_) fun ev s1 z=>by rw [hxe] at z;exact z.elim) ht
 obtain ⟨x,H1,I1,rx,a,dx,fs,ex,ea,l,q⟩:=hqP
 subst ex
 obtain rfl:u=Value.ref a:=rx
 refine Jd I1 ea c hm l ?_
 refine PySem.W.callWith_K (first:=[.ref a]) (h₀:=X.base) I.ok.mod.kin hm.kp (wpAny_mono (ha pos pins s1 σ H1 _ I1 q) (fun us s2 ⟨vs,H2,I2,r,q2⟩=>⟨I2.kIn,?_⟩) fun ev s1 z=>by rw [hxe] at z;exact z.elim) hst hpl
 refine wpAny_mono (Qmq (us:=.ref a :: us) (vs:=.ref a :: vs) F hr hb .nil I2 (.cons rfl r) q2) (fun v s3 ⟨_,H3,I3,_,q3⟩=>wpAny_execs_nil ⟨rfl,H3,I3,q3⟩) fun _ _ z=>.inl z
theorem Qln {pl:Sem Bool} (hxe:X.xe=fun _ _=>False) (he:PE X o ta) (c:Cls X.K C) (hm:Meth X.K C m f) (F:FnOk X.prog X.w X.K X.mg X.base (CXe X.prog X.w C2) k f fd ps sp) (hr:Room k X.A) (hb:Binds X.K fd ps [])
  (ht:eval (.Call (.Attribute o m apos) [] [] pos) X.env=(do
   let ov ← eval o X.env
   standAt apos.atName
   let (f,first) ← holding [ov] (getMethod ov m pl)
   callWith pos f first (backTo pos (starEach [] X.env)) (backToKw pos (keywordEach [] X.env))):=by rfl)
  (hs:autoParam (swapsWith (.Call (.Attribute o m apos) [] [] pos) none epos.line X.env=pure false) L2.aRfl._auto_1) :
  TBd X C1 C2 [.Expr (.Call (.Attribute o m apos) [] [] pos) epos] (fun σ H R _ EE=>Qkc C m sp [] EE ta tNil σ H fun _ H2=>R H2):=by
 intro pins s σ H R EG EE I h
 refine wpAny_execs_cons (wpAny_Expr_any ?_ I.quiet hs)
 refine PySem.W.methodCall_KW (pl:=pl) (wpAny_mono (he pins s σ H _ I h) (fun u s1 hqP=>?_) fun ev s1 z=>by rw [hxe] at z;exact z.elim) ht
 obtain ⟨x,H1,I1,rx,a,dx,fs,ex,ea,l,q⟩:=hqP
 subst ex
 obtain rfl:u=Value.ref a:=rx
 refine Jd I1 ea c hm l ?_
 refine PySem.W.callWith_K0 (first:=[.ref a]) I1.kIn hm.kp ?_
 refine wpAny_mono (Qmq (us:=[.ref a]) (vs:=[.ref a]) F hr hb .nil I1 (.cons rfl .nil) q) (fun v s3 ⟨_,H3,I3,_,q3⟩=>wpAny_execs_nil ⟨rfl,H3,I3,q3⟩) fun _ _ z=>.inr z
theorem Qoy (hxe:X.xe=fun _ _=>False) (M:Mk X.K C f) (F:FnOk X.prog X.w X.K X.mg X.base (CXg X.prog X.w C1) k f fd ps sp) (hr:Room (k + 1) X.A) (hm:X.mg x=some (.ref C)) (hb:Binds X.K fd ps []) (ha:PA X (e :: es) t) (hg:autoParam (Gl X x) L2.aRfl._auto_1)
  (hdb:autoParam ((x == ("__debug__":Str))=false) L2.aDec._auto_1) (he:autoParam (starEach (e :: es) X.env=(false,eval e X.env) :: starEach es X.env) L2.aRfl._auto_1) (hpl:autoParam ((backTo pos (starEach es X.env)).any (·.1)=false) L2.aRfl._auto_1)
  (hs:autoParam (swapsWith (.Call (.Name x p) (e :: es) [] pos) none epos.line X.env=pure false) L2.aRfl._auto_1) :
  TBd X C1 C2 [.Expr (.Call (.Name x p) (e :: es) [] pos) epos] (fun σ H R EG _=>tMake C sp [] EG t σ H fun _ H2=>R H2):=by
 intro pins s σ H R EG EE I h
 refine wpAny_execs_cons (wpAny_Expr_any ?_ I.quiet hs)
 refine wpAny_Call_Name_kw (Zi I hg hm ?_ hdb)
 refine PySem.W.callWith_K (h₀:=X.base) I.ok.mod.kin M.kp (wpAny_mono (ha pos pins s σ H _ I h) (fun us s1 ⟨vs,H1,I1,r,q⟩=>⟨I1.kIn,?_⟩) fun ev s1 z=>by rw [hxe] at z;exact z.elim) he hpl
 refine wpAny_mono (Qgr M F hr hb .nil I1 r q) (fun v s3 ⟨_,H3,I3,_,q3⟩=>wpAny_execs_nil ⟨rfl,H3,I3,q3⟩) fun _ _ z=>.inl z
theorem tb_if {c:Expr} {a b:List Stmt} {tc:TT} {t1 t2:St->Hp->(Hp->Prop)->XK->XK->Prop} (hxe:X.xe=fun _ _=>False) (hc:PT X c tc) (ha:TBd X C1 C2 a t1) (hb:TBd X C1 C2 b t2) :
  TBd X C1 C2 [.If c a b pos] (fun σ H R EG EE=>tc σ H fun z H1=>if z=true then t1 σ H1 R EG EE else t2 σ H1 R EG EE):=by
 intro pins s σ H R EG EE I h
 have fin:∀ fl s',Nxt X pins σ R fl s'->(match fl with | .next=>wpAny (model X.prog X.w) X.A (execs [] X.env) (Nxt X pins σ R) (fun ev s'=>Thr X pins σ (CXg X.prog X.w C1) EG ev s'\/Thr X pins σ (CXe X.prog X.w C2) EE ev s') s' | f=>Nxt X pins σ R f s'):=fun fl s' z=>by
  obtain ⟨rfl,z⟩:=z
  exact wpAny_execs_nil ⟨rfl,z⟩
 refine wpAny_execs_cons (wpAny_If (wpAny_mono (hc pins s σ H _ I h) (fun d s1 hqP=>?_) fun ev s1 z=>by rw [hxe] at z;exact z.elim))
 obtain ⟨H1,I1,q1⟩:=hqP
 cases d with
 | true=>exact wpAny_mono (ha pins s1 σ H1 R EG EE I1 q1) fin fun _ _ z=>z
 | false=>exact wpAny_mono (hb pins s1 σ H1 R EG EE I1 q1) fin fun _ _ z=>z
end
section
variable {X:Cx} {C C2 D:Addr} {x n c:Str} {np pc pn hpos apos pos:Pos} {i j:Nat} {body:List Stmt} {tb:St->Hp->(Hp->Prop)->XK->XK->Prop}
theorem Qji (hxe:X.xe=fun _ _=>False) (hst:X.stack=X.env :: X.outer) (hfm:X.env.frame=some X.env.locals) (hbody:TBd X C C2 body tb)
  (hmx:X.mg x=some (.ref D)) (hCD:IsA X.K C D) (hCD2:IsA X.K C2 D) (hN:X.N.Nodup) (hi:X.N[i]?=some c) (hj:X.N[j]?=some n) (hij:i ≠ j) (hic:X.env.scope.names.lookup c=some .local) (hjn:X.env.scope.names.lookup n=some .local)
  (hgx:autoParam (Gl X x) L2.aRfl._auto_1) (hdx:autoParam ((x == ("__debug__":Str))=false) L2.aDec._auto_1) (hdn:autoParam ((n == ("__debug__":Str))=false) L2.aDec._auto_1) (hcd:autoParam ((n == ("__classdict__":Str))=false) L2.aDec._auto_1) :
  PS X (.Try body [.ExceptHandler (some (.Name x np)) (some n) [.Assign [.Name c pc] (.Name n pn) apos] hpos] [] [] pos)
   (fun D σ H=>tb σ H (fun H2=>D.nx σ H2) (fun _ od H2=>∀ e dx,od=some dx->H2 e=none->D.nx (((σ.set j (some (.ref e))).set i (some (.ref e))).set j none) (upd H2 e (excD e C dx)))
    (fun _ _ H2=>∀ e,H2 e=none->D.nx (((σ.set j (some (.ref e))).set i (some (.ref e))).set j none) (upd H2 e (excO e C2)))):=by
 intro pins s σ H Ds I h
 refine wpAny_Try_except (wpAny_mono (hbody pins s σ H _ _ _ I h) (fun fl s' ⟨efl,H',I',q⟩=>?_) fun ev s' hq=>?_)
 ·subst efl
  exact wpAny_execs_nil ⟨σ,H',I',q⟩
 have hjσ:j < σ.length:=by rw [I.len];exact (kZ.mp hj).1
 have hfr:X.A.frames=some (X.env :: X.outer):=hst ▸ I.ok.frames
 rcases hq with ⟨H1,s1,I1,hq⟩ | ⟨H1,s1,I1,hq⟩
 ·obtain ⟨e,dx,H',B,rfl,q,os,bare,un,hok,hc,fl⟩:=hq
  have fr1:=Qw I1.stack
  have fH':∀ b ∈ frs X.stack,H' b=none:=fun b hb=>by
   obtain ⟨o1,e1,_⟩:=fr1 b hb
   exact un.free b o1 e1 (I1.stkFree b hb) (by intro z;cases z)
  have inv_at:∀ h2:Heap,B.StaysIn h2->s'.heap.UpToSlots h2->Inv X pins σ H' { s' with heap:=h2 }:=fun h2 b2 up =>
   I1.call' (ch:=[]) os (Qaz un hc fl.1 b2 up (Qw fl.2.2.1)) (Jy hok hc fl.1 b2 fH') bare (fun b z=>absurd z (by simp))
  have fl':FlyG B (X.env :: X.outer) e (exG C dx) s'.heap:=hst ▸ fl
  refine Ko Qev hfr fl'.2.2.1 hfm fl'.2.2.2 fl'.1 fl'.2.1 fun h4 k1 k2 k3 up4=>?_
  refine Kp k1 k2 k3 fun h5 j1 j2 j3 up5=>?_
  have fl5:FlyG B (X.env :: X.outer) e (exG C dx) h5:=⟨j1,fl'.2.1,j2,j3⟩
  have I5:=inv_at h5 fl5.1 (up4.trans up5)
  refine wpAny_handleBy_cons (codeAny_handlers_test (Zi (I5.suite e) hgx hmx ?_ hdx)) (by intro z;cases z)
  obtain ⟨ob,_,hob,⟨hobc,_⟩,_⟩:=fl5.there
  refine hCD _ _ _ { s' with heap:=h5 } e ob _ I5.kIn hob hobc (codeAny_handlers_suite_as ?_)
  refine Kp fl5.1 fl5.2.2.1 fl5.2.2.2 fun h6 i1 i2 i3 up6=>?_
  have fl6:FlyG B (X.env :: X.outer) e (exG C dx) h6:=⟨i1,fl'.2.1,i2,i3⟩
  have hBe:B.get? e=none:=fl.2.1
  have oldE:s1.heap.get? e=none:=by
   cases q1:s1.heap.get? e with
   | none=>rfl
   | some o =>
    exfalso
    by_cases hf:e ∈ frs X.stack
    ·obtain ⟨o1,e1,nf⟩:=Qw fl.2.2.1 e hf
     obtain ⟨oe,ws,he1,_,hed⟩:=fl.there
     rw [e1] at he1
     cases he1
     exact nf _ hed
    ·obtain ⟨o2,e2⟩:=hc e hf (.inl ⟨o,q1⟩)
     rw [hBe] at e2
     cases e2
  have newE:H' e=none:=by
   cases q1:H' e with
   | none=>rfl
   | some o =>
    exfalso
    obtain ⟨o2,e2⟩:=hc e (fun z=>by rw [fH' e z] at q1;cases q1) (.inr (by rw [q1];simp))
    rw [hBe] at e2
    cases e2
  have I6:Inv X pins σ (upd H' e (excD e C dx)) { s' with heap:=h6 }:=I1.call' (ch:=[]) os (Un.track (Qaz un hc fl.1 fl6.1 ((up4.trans up5).trans up6) (Qw fl.2.2.1)) oldE newE)
   (HOk.track (Jy hok hc fl.1 fl6.1 fH') newE (by
    obtain ⟨ob6,ws6,g1,⟨g2,g3⟩,g4⟩:=fl6.there
    obtain ⟨p1,p2,p3,p4⟩:=ob6
    dsimp only at g2 g3 g4
    subst g2 g3 g4
    exact Qik g1)) bare (fun b z=>absurd z (by simp))
  refine Zf I6 hN hj (.inl hjn) (v:=.ref e) rfl (fun s7 I7'=>?_) (.inr hjn)
  have I7:=I7'.suite e
  have P:=Qi (Qs (X:=X.suite e) (i:=i) (pos:=apos) (pos':=pc) hN hi (.inl hic) (Qeg (pos:=pn) hj (.inl hjn) hdn hcd) rfl (.inr hic))
  refine wpAny_mono (P pins s7 _ _ { nx:=fun σ' H2=>σ'=(σ.set j (some (.ref e))).set i (some (.ref e))/\H2=upd H' e (excD e C dx),rt:=fun _ _=>False } I7 ⟨.ref e,by rw [wQ hjσ],rfl,rfl⟩) (fun fl8 s8 h8=>?_) (fun _ _ z=>z.elim)
  cases fl8 with
  | ret u=>obtain ⟨_,_,_,_,_,z⟩:=h8;exact z.elim
  | brk=>obtain ⟨_,_,_,z⟩:=h8;exact z.elim
  | cont=>obtain ⟨_,_,_,z⟩:=h8;exact z.elim
  | next =>
   obtain ⟨σ8,H8,I8,rfl,rfl⟩:=h8
   have I8':=I8.unsuite I.ok
   show wpAny _ _ (bindName X.env n Value.none >>= fun _=>unbindBehindTheSuite X.env n hpos) _ _ _
   refine jZ ?_
   unfold bindName
   refine jZ (wpAny_holding (wpAny_point ?_))
   refine jZ (Zf I8' hN hj (.inl hjn) (v:=.non) rfl (fun s9 I9=>wpAny_point ?_) (.inr hjn))
   unfold unbindBehindTheSuite
   have hjσ':j < (((σ.set j (some (.ref e))).set i (some (.ref e))).set j (some V.non)).length:=by simp;exact hjσ
   refine wpAny_onRaise (Vy I9 hN hj hjn (v:=.non) (by rw [wQ (by simp;exact hjσ)]) fun s10 I10=>?_)
   rw [List.set_set] at I10
   exact ⟨_,_,I10,q e dx rfl newE⟩
 ·obtain ⟨e,H',B,a0,rfl,q,os,bare,un,hok,hc,fl⟩:=hq
  have fr1:=Qw I1.stack
  have fH':∀ b ∈ frs X.stack,H' b=none:=fun b hb=>by
   obtain ⟨o1,e1,_⟩:=fr1 b hb
   exact un.free b o1 e1 (I1.stkFree b hb) (by intro z;cases z)
  have inv_at:∀ h2:Heap,B.StaysIn h2->s'.heap.UpToSlots h2->Inv X pins σ H' { s' with heap:=h2 }:=fun h2 b2 up =>
   I1.call' (ch:=[]) os (Qaz un hc fl.1 b2 up (Qw fl.2.2.1)) (Jy hok hc fl.1 b2 fH') bare (fun b z=>absurd z (by simp))
  have fl':Heap.FlyingW B (X.env :: X.outer) e (.ref C2) a0 s'.heap:=hst ▸ fl
  refine wpAny_looks_onW hfr hfm fl' fun h4 held up4=>?_
  refine wpAny_landsW held fun h5 fl5 up5=>?_
  have I5:=inv_at h5 fl5.1 (up4.trans up5)
  refine wpAny_handleBy_cons (codeAny_handlers_test (Zi (I5.suite e) hgx hmx ?_ hdx)) (by intro z;cases z)
  obtain ⟨ob,hob,hobc⟩:=fl5.there
  refine hCD2 _ _ _ { s' with heap:=h5 } e ob _ I5.kIn hob hobc (codeAny_handlers_suite_as ?_)
  refine lands_againW fl5 fun h6 fl6 up6=>?_
  have hBe:B.get? e=none:=fl.2.1
  have oldE:s1.heap.get? e=none:=by
   cases q1:s1.heap.get? e with
   | none=>rfl
   | some o =>
    exfalso
    by_cases hf:e ∈ frs X.stack
    ·obtain ⟨o1,e1,nf⟩:=Qw fl.2.2.1 e hf
     obtain ⟨oe,ws,he1,_,hed,_⟩:=fl.first
     rw [e1] at he1
     cases he1
     exact nf _ hed
    ·obtain ⟨o2,e2⟩:=hc e hf (.inl ⟨o,q1⟩)
     rw [hBe] at e2
     cases e2
  have newE:H' e=none:=by
   cases q1:H' e with
   | none=>rfl
   | some o =>
    exfalso
    obtain ⟨o2,e2⟩:=hc e (fun z=>by rw [fH' e z] at q1;cases q1) (.inr (by rw [q1];simp))
    rw [hBe] at e2
    cases e2
  have I6:Inv X pins σ (upd H' e (excO e C2)) { s' with heap:=h6 }:=I1.call' (ch:=[]) os (Un.track (Qaz un hc fl.1 fl6.1 ((up4.trans up5).trans up6) (Qw fl.2.2.1)) oldE newE)
   (HOk.track (Jy hok hc fl.1 fl6.1 fH') newE ⟨fl6.there,(let ⟨o,z,_⟩:=fl6.there;⟨o,z⟩),fun h1 h2 ⟨o,z,c⟩ k=>⟨o,k o z,c⟩⟩) bare (fun b z=>absurd z (by simp))
  refine Zf I6 hN hj (.inl hjn) (v:=.ref e) rfl (fun s7 I7'=>?_) (.inr hjn)
  have I7:=I7'.suite e
  have P:=Qi (Qs (X:=X.suite e) (i:=i) (pos:=apos) (pos':=pc) hN hi (.inl hic) (Qeg (pos:=pn) hj (.inl hjn) hdn hcd) rfl (.inr hic))
  refine wpAny_mono (P pins s7 _ _ { nx:=fun σ' H2=>σ'=(σ.set j (some (.ref e))).set i (some (.ref e))/\H2=upd H' e (excO e C2),rt:=fun _ _=>False } I7 ⟨.ref e,by rw [wQ hjσ],rfl,rfl⟩) (fun fl8 s8 h8=>?_) (fun _ _ z=>z.elim)
  cases fl8 with
  | ret u=>obtain ⟨_,_,_,_,_,z⟩:=h8;exact z.elim
  | brk=>obtain ⟨_,_,_,z⟩:=h8;exact z.elim
  | cont=>obtain ⟨_,_,_,z⟩:=h8;exact z.elim
  | next =>
   obtain ⟨σ8,H8,I8,rfl,rfl⟩:=h8
   have I8':=I8.unsuite I.ok
   show wpAny _ _ (bindName X.env n Value.none >>= fun _=>unbindBehindTheSuite X.env n hpos) _ _ _
   refine jZ ?_
   unfold bindName
   refine jZ (wpAny_holding (wpAny_point ?_))
   refine jZ (Zf I8' hN hj (.inl hjn) (v:=.non) rfl (fun s9 I9=>wpAny_point ?_) (.inr hjn))
   unfold unbindBehindTheSuite
   have hjσ':j < (((σ.set j (some (.ref e))).set i (some (.ref e))).set j (some V.non)).length:=by simp;exact hjσ
   refine wpAny_onRaise (Vy I9 hN hj hjn (v:=.non) (by rw [wQ (by simp;exact hjσ)]) fun s10 I10=>?_)
   rw [List.set_set] at I10
   exact ⟨_,_,I10,q e newE⟩
end
end L2
namespace Nb
open PySem L2
inductive LB (H:Hp) (us:List V):V->Prop
 | bad {A i x}:Good A->A.length=i->RowsB H (us.take i) A->us[i]?=some x->(¬ Wn H A x)->LB H us (.int ((i:Nat):Int))
 | none:us=[]->LB H us (.int 0)
 | ok {A}:us ≠ []->Good A->RowsB H us A->LB H us .non
theorem Qdz {K:Fg} {H:Hp} {g d:Addr} {us vs:List V} {B:List BR} {n:Nat} (hg:H g=some (.lst us)) (hd:H d=some (.lst vs)) (h1:RowsB H us B) (h2:RowsB H vs B):SmD K H (n + 2) (.ref g) (.ref d):=by
 refine .lst (Qc hg) (Qc hd) (by rw [h1.length,h2.length]) fun i x y ex ey=>?_
 obtain ⟨r,l,er,rfl,hl⟩:=h1.get ex
 obtain ⟨r',l',er',rfl,hl'⟩:=h2.get ey
 rw [er] at er'
 cases er'
 refine .lst (Qc hl) (Qc hl') rfl fun j x y ex ey=>?_
 rw [ex] at ey
 cases ey
 rw [xJ] at ex
 obtain ⟨k,_,rfl⟩:=jXf.mp ex
 exact .flat (Qkr k)
def RC (C:Addr) (H:Hp) (z:Int) (Q:VK):Prop:=∀ e dx H',Same H H'->H' e=some (excD e C dx)->H' dx=some (.xd [("row",.int z)])->Q (.ref e) H'
def CAV (C:Addr) (H:Hp) (us:List V) (Q:VK):Prop :=
 (us=[]->RC C H 0 Q) /\
 (∀ A,us ≠ []->Good A->RowsB H us A->∀ (H':Hp),Same H H'->Q .non H') /\
 (∀ A i v,Good A->A.length=i->RowsB H (us.take i) A->us[i]?=some v->(¬ Wn H A v)->RC C H (i:Int) Q)
def Ws (K:Fg) (C:Addr):Sp:=fun vs H Q _=>∃ (d:Addr) (us:List V),vs=[.ref d]/\H d=some (.lst us)/\(∀ v ∈ us,RowV K H v)/\us.length<=200000/\CAV C H us Q
theorem Wt {H:Hp} {us:List V} {A B:List BR} (h:RowsB H us A) (h':RowsB H us B):A=B:=by
 have l1:=h.length
 have l2:=h'.length
 refine List.ext_getElem? fun i=>?_
 by_cases hi:i < us.length
 ·obtain ⟨r,l,er,e,hl⟩:=h.get (gE hi)
  obtain ⟨r',l',er',e',hl'⟩:=h'.get (gE hi)
  rw [er,er',Qaj ⟨l,e,hl⟩ ⟨l',e',hl'⟩]
 ·rw [List.getElem?_eq_none (by lia),List.getElem?_eq_none (by lia)]
theorem Wu {H:Hp} {us:List V} {A B:List BR} {x:V} {i:Nat} (hA:Good A) (e:RowsB H us A) (ht:RowsB H (us.take i) B) (hi:us[i]?=some x) (hno:¬ Wn H B x):False:=by
 have eB:=Wt (e.take i) ht
 obtain ⟨r,l,er,rfl,hl⟩:=e.get hi
 exact hno ⟨r,⟨l,rfl,hl⟩,by rw [← eB];exact hA i r er⟩
theorem Qbr {H:Hp} {us:List V} {A B:List BR} {x:V} {i n:Nat} (hA:Good A) (e:RowsB H (us.take n) A) (ht:RowsB H (us.take i) B) (hi:us[i]?=some x) (hno:¬ Wn H B x) (h:i < n):False :=
 Wu (us:=us.take n) (i:=i) hA e (by rw [List.take_take,xK (by lia)];exact ht) (by rw [jYd h];exact hi) hno
theorem lb_c {C:Addr} {H:Hp} {us:List V} {v:V} {Q:VK} (h:LB H us v) (hn:v=.non->∀ H',Same H H'->Q .non H') (hv:∀ z,v=.int z->RC C H z Q):CAV C H us Q:=by
 cases h with
 | bad hG hl ht hi hno =>
  rename_i A i x
  refine ⟨fun e=>?_,fun B _ hB e=>(Wu hB e ht hi hno).elim,fun B j y hB hl2 ht2 hi2 hno2=>?_⟩
  ·rw [e] at hi;cases hi
  ·have:j=i:=by
    rcases Nat.lt_trichotomy j i with h | h | h
    ·exact (Qbr hG ht ht2 hi2 hno2 h).elim
    ·exact h
    ·exact (Qbr hB ht2 ht hi hno h).elim
   subst this
   exact hv _ rfl
 | none e =>
  refine ⟨fun _=>hv _ rfl,fun B h=>absurd e h,fun B j y hB hl2 ht2 hi2 hno2=>?_⟩
  rw [e] at hi2
  cases hi2
 | ok hne hG e=>exact ⟨fun h=>absurd h hne,fun B _ _ _=>hn rfl,fun B j y hB hl2 ht2 hi2 hno2=>(Wu hG e ht2 hi2 hno2).elim⟩
theorem Qea:∀ i,i < 11->((wordOf i).cps.all (· < 128)=true/\(wordOf i).length<=100000):=by decide +kernel
theorem Kq (r:BR):Plain r.word:=by rw [Yo];exact Qea _ (Yu r)
theorem Qak {K:Fg} {H:Hp} {r:BR} (h:r.gn):∀ c ∈ r.cells.map kV,CellV K H c:=by
 intro c hc
 obtain ⟨k,hk,rfl⟩:=jQe.mp hc
 refine Qja ?_
 unfold BR.cells BR.key at hk
 rcases yQ.mp hk with h1 | h1
 ·rcases jJ.mp h1 with rfl | h1
  ·exact Kq r
  ·obtain ⟨x,hx,rfl⟩:=jQe.mp h1
   exact Vh (h x hx)
 ·obtain ⟨x,hx,rfl⟩:=jQe.mp h1
  exact trivial
theorem Yy (r:BR):(r.cells.map kV).length<=5:=by cases r <;> exact Nat.le_of_ble_eq_true rfl
def Cp (K:Fg) (H:Hp) (u v:V):Prop:=(u=v/\(Qcf v=true\/∃ l xs,v=.ref l/\H l=some (.tup xs)))\/∃ l l' xs,u=.ref l/\v=.ref l'/\H l=some (.lst xs)/\H l'=some (.lst xs)/\xs.length<=1000/\∀ c ∈ xs,CellV K H c
theorem Cp.row {K:Fg} {H:Hp} {u v:V} (h:Cp K H u v):RowV K H v:=by
 rcases h with ⟨e,h | h⟩ | ⟨l,l',xs,e,e',h,h',hl,hc⟩
 ·exact .inl h
 ·exact .inr (.inl h)
 ·exact .inr (.inr ⟨l',xs,e',h',hl,hc⟩)
theorem Cp.is {K:Fg} {H:Hp} {u v:V} {r:BR} (h:Cp K H u v):RowIs H u r ↔ RowIs H v r:=by
 rcases h with ⟨rfl,h⟩ | ⟨l,l',xs,rfl,rfl,h,h',hl,hc⟩
 ·exact Iff.rfl
 ·constructor
  ·rintro ⟨m,e,hm⟩
   cases e
   rw [h] at hm
   exact ⟨l',rfl,by rw [h',hm]⟩
  ·rintro ⟨m,e,hm⟩
   cases e
   rw [h'] at hm
   exact ⟨l,rfl,by rw [h,hm]⟩
def Cps (K:Fg) (H:Hp) (us vs:List V):Prop:=us.length=vs.length/\∀ (j:Nat) u v,us[j]?=some u->vs[j]?=some v->Cp K H u v
theorem Qeb {K:Fg} {H:Hp} {us vs:List V} (h:Cps K H us vs):∀ (i:Nat) (A:List BR),i<=us.length->RowsB H (us.take i) A->RowsB H (vs.take i) A
 | 0,A,_,hA=>by
  have:=hA.length
  rw [kXe] at hA ⊢
  exact hA
 | i + 1,A,hi,hA=>by
  have hu:us[i]?=some us[i]:=gE hi
  have hv:i < vs.length:=by rw [← h.1];exact hi
  have hv':vs[i]?=some vs[i]:=gE hv
  have hl:=hA.length
  rw [yW] at hl
  have h1:=hA.take i
  rw [List.take_take,xK (jZa i)] at h1
  obtain ⟨r,l,er,e,hr⟩:=hA.get (i:=i) (v:=us[i]) (by rw [jYd (jYb i)];exact hu)
  obtain ⟨l',e',hr'⟩:=(h.2 i _ _ hu hv').is.mp ⟨l,e,hr⟩
  have h2:=(Qeb h i _ (by lia) h1).snoc hr'
  rw [Kf hv',e',show A=A.take i ++ [r] from ?_]
  ·exact h2
  ·rw [← Kf er,jYa (by lia)]
theorem Qoz {K:Fg} {H H':Hp} {us vs:List V} {v:V} (h:LB H us v) (hV:∀ v ∈ us,RowV K H v) (s:Same H H') (hc:Cps K H' us vs):LB H' vs v:=by
 cases h with
 | @bad A i x hG hl ht hi hno =>
  have hi':=(kZ.mp hi).1
  have hv:i < vs.length:=by rw [← hc.1];exact hi'
  refine .bad hG hl (Qeb hc i A (by lia) (ht.same s)) (gE hv) fun ⟨r,hr,hf⟩=>hno ?_
  refine (Qdd (hV x (yX hi)) s).mp ⟨r,((hc.2 i _ _ hi (gE hv)).is).mpr hr,hf⟩
 | none e =>
  subst e
  refine .none (zZ ?_)
  rw [← hc.1]
  rfl
 | @ok A hne hG e =>
  have h1:=Qeb hc us.length A (kQ _) (by rw [wV];exact e.same s)
  rw [hc.1,wV] at h1
  refine .ok (fun e'=>hne (zZ ?_)) hG h1
  rw [hc.1,e']
  rfl
theorem lb_to {H:Hp} {us:List V}:∀ n,n<=us.length->(∃ i:Nat,LB H us (.int (i:Int)))\/∃ A,Good A/\A.length=n/\RowsB H (us.take n) A
 | 0,_=>.inr ⟨[],Good.nil,rfl,.nil⟩
 | n + 1,h=>by
  rcases lb_to (H:=H) (us:=us) n (kQb h) with z | ⟨A,hG,hl,ht⟩
  ·exact .inl z
  ·have e:us[n]?=some us[n]:=gE h
   by_cases hf:Wn H A us[n]
   ·obtain ⟨r,⟨l,el,hl2⟩,f⟩:=hf
    refine .inr ⟨A ++ [r],hG.snoc f,by rw [jW,hl];rfl,?_⟩
    rw [Kf e,el]
    exact ht.snoc hl2
   ·exact .inl ⟨n,.bad hG hl ht e hf⟩
theorem Qpa (H:Hp) (us:List V):(∃ i:Nat,LB H us (.int (i:Int)))\/∃ A,us ≠ []/\Good A/\RowsB H us A:=by
 by_cases hne:us=[]
 ·exact .inl ⟨0,.none hne⟩
 ·rcases lb_to (H:=H) us.length (kQ _) with z | ⟨A,hG,_,ht⟩
  ·exact .inl z
  ·rw [wV] at ht
   exact .inr ⟨A,hne,hG,ht⟩
theorem lb_no {H:Hp} {us:List V} {z:Int} {A:List BR} (h:LB H us (.int z)) (hne:us ≠ []) (hG:Good A) (hB:RowsB H us A):False:=by
 cases h with
 | bad hG2 hl ht hi hno=>exact Wu hG hB ht hi hno
 | none e=>exact hne e
theorem lb_nil {H:Hp} {us:List V} {z:Int} (h:LB H us (.int z)) (e:us=[]):z=0:=by
 cases h with
 | bad hG2 hl ht hi hno=>rw [e] at hi;cases hi
 | none e=>rfl
theorem lb_at {H:Hp} {us:List V} {z:Int} {B:List BR} {j:Nat} {y:V} (h:LB H us (.int z)) (hB:Good B) (ht2:RowsB H (us.take j) B) (hi2:us[j]?=some y) (hno2:¬ Wn H B y):z=(j:Int):=by
 cases h with
 | @bad A i x hG hl ht hi hno =>
  rcases Nat.lt_trichotomy j i with h | h | h
  ·exact (Qbr hG ht ht2 hi2 hno2 h).elim
  ·rw [h]
  ·exact (Qbr hB ht2 ht hi hno h).elim
 | none e =>
  rw [e] at hi2
  cases hi2
abbrev sIsN:Stmt:=top 8
abbrev sCop:Stmt:=top 144
abbrev sDkI:Stmt:=inClass (top 145) 0
abbrev sDkL:Stmt:=inClass (top 145) 1
abbrev sDkB:Stmt:=inClass (top 145) 2
abbrev sDkP:Stmt:=inClass (top 145) 3
abbrev sDkT:Stmt:=inClass (top 145) 4
abbrev sDkK:Stmt:=inClass (top 145) 5
def Qpb:Sp:=fun vs H Q _=>∃ (z c:Int),vs=[.int z,.int c]/\Q (.bl (decide (0<=z) && decide (z < c))) H
def BkN (H0 H:Hp) (g:Addr) (B:List BR):Prop:=H0 g=none/\∃ us,H g=some (.lst us)/\RowsB H us B/\∀ l,V.ref l ∈ us->H0 l=none
def Qpc:Sp:=fun vs H Q _=>∃ (d:Addr) (us:List V) (B:List BR),vs=[.ref d]/\H d=some (.lst us)/\RowsB H us B/\B.length<=200000/\∀ (g:Addr) (H':Hp),Same H H'->BkN H H' g B->Q (.ref g) H'
def BkA (H:Hp) (av:List Addr) (a:Addr) (B:List BR):Prop:=a ∉ av/\∃ us,H a=some (.lst us)/\RowsB H us B/\∀ l,V.ref l ∈ us->l ∉ av
def Stk (H:Hp) (av:List Addr) (l:Addr) (S:List (List BR)):Prop:=l ∉ av/\∃ as:List Addr,H l=some (.lst (as.map V.ref))/\l ∉ as/\Paired (BkA H av) as S
def Fr (av:List Addr) (H H':Hp):Prop:=∀ b o,b ∉ av->H b=some o->H' b=some o
theorem Qy {av:List Addr} {H H':Hp} (s:Same H H'):Fr av H H':=fun b o _ e=>s b o e
theorem Fr.trans {av:List Addr} {H H1 H2:Hp} (a:Fr av H H1) (b:Fr av H1 H2):Fr av H H2:=fun c o n e=>b c o n (a c o n e)
theorem Jq {av:List Addr} {H:Hp} {x:Addr} {o:HO} (h:x ∈ av):Fr av H (upd H x o):=fun b u n e=>by rw [Ql (fun z=>n (by rw [z];exact h))];exact e
theorem Fr.mono {av av':List Addr} {H H':Hp} (h:Fr av H H') (s:∀ x ∈ av,x ∈ av'):Fr av' H H':=fun b o n e=>h b o (fun z=>n (s b z)) e
theorem Qlo {H:Hp} {us:List V} {B:List BR} (h:RowsB H us B) {l:Addr} (m:V.ref l ∈ us):∃ r:BR,H l=some (.lst (r.cells.map kV)):=by
 obtain ⟨i,e⟩:=jXa.mp m
 obtain ⟨r,l',_,e',hl⟩:=h.get e
 cases e'
 exact ⟨r,hl⟩
theorem BkA.fr {H H':Hp} {av:List Addr} {a:Addr} {B:List BR} (h:BkA H av a B) (f:Fr av H H'):BkA H' av a B:=by
 obtain ⟨n,us,e,hB,hn⟩:=h
 exact ⟨n,us,f _ _ n e,hB.imp fun l r m z=>f _ _ (hn l m) z,hn⟩
theorem Stk.fr {H H':Hp} {av:List Addr} {l:Addr} {S:List (List BR)} (h:Stk H av l S) (f:Fr av H H'):Stk H' av l S:=by
 obtain ⟨n,as,e,ne,hp⟩:=h
 exact ⟨n,as,f _ _ n e,ne,Paired.mapP hp fun a b z=>z.fr f⟩
theorem BkA.more {H:Hp} {av:List Addr} {a x:Addr} {B:List BR} (h:BkA H av a B) (hx:H x=none):BkA H (x :: av) a B:=by
 obtain ⟨n,us,e,hB,hn⟩:=h
 refine ⟨fun z=>?_,us,e,hB,fun l m z=>?_⟩
 ·rcases jJ.mp z with rfl | z
  ·rw [hx] at e;cases e
  ·exact n z
 ·rcases jJ.mp z with rfl | z
  ·obtain ⟨r,hr⟩:=Qlo hB m
   rw [hx] at hr;cases hr
  ·exact hn l m z
theorem Stk.more {H:Hp} {av:List Addr} {l x:Addr} {S:List (List BR)} (h:Stk H av l S) (hx:H x=none):Stk H (x :: av) l S:=by
 obtain ⟨n,as,e,ne,hp⟩:=h
 refine ⟨fun z=>?_,as,e,ne,Paired.mapP hp fun a b z=>z.more hx⟩
 rcases jJ.mp z with rfl | z
 ·rw [hx] at e;cases e
 ·exact n z
theorem BkA.less {H:Hp} {av av':List Addr} {a:Addr} {B:List BR} (h:BkA H av a B) (s:∀ x ∈ av',x ∈ av):BkA H av' a B:=by
 obtain ⟨n,us,e,hB,hn⟩:=h
 exact ⟨fun z=>n (s _ z),us,e,hB,fun l m z=>hn l m (s _ z)⟩
theorem Stk.less {H:Hp} {av av':List Addr} {l:Addr} {S:List (List BR)} (h:Stk H av l S) (s:∀ x ∈ av',x ∈ av):Stk H av' l S:=by
 obtain ⟨n,as,e,ne,hp⟩:=h
 exact ⟨fun z=>n (s _ z),as,e,ne,Paired.mapP hp fun a b z=>z.less s⟩
theorem BkN.av {H0 H:Hp} {av:List Addr} {g:Addr} {B:List BR} (h:BkN H0 H g B) (ha:∀ x ∈ av,H0 x ≠ none):BkA H av g B:=by
 obtain ⟨n,us,e,hB,hn⟩:=h
 exact ⟨fun z=>ha _ z n,us,e,hB,fun l m z=>ha _ z (hn l m)⟩
theorem Kr (as:List Addr):Qky (as.map V.ref):=fun s r e=>by cases as <;> cases e
theorem Qec {α β:Type} {R:α->β->Prop} {xs:List α} {ys:List β} {y:β} (h:Paired R xs (ys ++ [y])):∃ xs' x,xs=xs' ++ [x]/\Paired R xs' ys/\R x y:=by
 induction ys generalizing xs with
 | nil =>
  cases h with
  | cons a b=>cases b;exact ⟨[],_,rfl,.nil,a⟩
 | cons z ys ih =>
  cases h with
  | cons a b =>
   obtain ⟨xs',x,rfl,h1,h2⟩:=ih b
   exact ⟨_ :: xs',x,rfl,.cons a h1,h2⟩
theorem Ks {α β:Type} {R R':α->β->Prop} {xs:List α} {ys:List β} (h:Paired R xs ys) (f:∀ x ∈ xs,∀ y,R x y->R' x y):Paired R' xs ys:=by
 induction h with
 | nil=>exact .nil
 | cons a b ih=>exact .cons (f _ jX _ a) (ih fun x hx=>f x (jY _ hx))
theorem Stk.last {H:Hp} {av:List Addr} {l:Addr} {S:List (List BR)} {B:List BR} (h:Stk H av l (S ++ [B])):∃ as a,H l=some (.lst (as.map V.ref ++ [.ref a]))/\l ≠ a/\l ∉ as/\Paired (BkA H av) as S/\BkA H av a B:=by
 obtain ⟨n,as,e,ne,hp⟩:=h
 obtain ⟨as',a,rfl,h1,h2⟩:=Qec hp
 rw [xY] at e
 exact ⟨as',a,e,fun z=>ne (z ▸ yY _ jX),fun z=>ne (jXd _ z),h1,h2⟩
theorem Qjj {H:Hp} {av:List Addr} {l a:Addr} {as:List Addr} {B:List BR} {o:HO} (e:H l=some (.lst (as.map V.ref))) (hl:l ≠ a) (h:BkA H av a B):BkA (upd H l o) av a B:=by
 obtain ⟨n,us,e1,hB,hn⟩:=h
 refine ⟨n,us,by rw [Ql (Ne.symm hl)];exact e1,hB.imp fun b r m z=>?_,hn⟩
 rw [Ql (Qam z e fun q=>Jj (Kr as) r (HO.lst.inj q))]
 exact z
theorem Stk.push {H:Hp} {av:List Addr} {l a:Addr} {as:List Addr} {S:List (List BR)} {B:List BR} (n:l ∉ av) (e:H l=some (.lst (as.map V.ref))) (ne:l ∉ as) (hp:Paired (BkA H av) as S) (na:l ≠ a) (h:BkA H av a B):Stk (upd H l (.lst (as.map V.ref ++ [.ref a]))) av l (S ++ [B]):=by
 refine ⟨n,as ++ [a],by rw [Qd,xY];rfl,fun z=>?_,?_⟩
 ·rcases yQ.mp z with z | z
  ·exact ne z
  ·exact na (jQ.mp z)
 ·exact Paired.snoc (Ks hp fun a' ha b z=>Qjj e (fun q=>ne (by rw [q];exact ha)) z) (Qjj e na h)
theorem Stk.pop {H:Hp} {av:List Addr} {l a:Addr} {as:List Addr} {S:List (List BR)} (n:l ∉ av) (e:H l=some (.lst (as.map V.ref ++ [.ref a]))) (ne:l ∉ as) (hp:Paired (BkA H av) as S):Stk (upd H l (.lst (as.map V.ref ++ [V.ref a]).dropLast)) av l S:=by
 have e':H l=some (.lst ((as ++ [a]).map V.ref)):=by rw [e,xY];rfl
 rw [List.dropLast_concat]
 exact ⟨n,as,Qd,ne,Ks hp fun a' ha b z=>Qjj e' (fun q=>ne (by rw [q];exact ha)) z⟩
abbrev dkF (bl:Addr):List (Str × V):=[("books",.ref bl),("earlier",.non)]
structure DkTxt (K:Fg) (mg:Str->Option Value) (C:Addr):Prop where
 cl:Cls K C
 nB:NoAttr K C "books"
 nE:NoAttr K C "earlier"
 mgC:mg "Desk"=some (.ref C)
def DkAt (H:Hp) (CD:Addr) (av:List Addr) (dk bl:Addr) (S:List (List BR)):Prop:=dk ∉ av/\(∃ dx,H dk=some (.ins CD dx (dkF bl)))/\Stk H av bl S
theorem DkAt.fr {H H':Hp} {CD:Addr} {av:List Addr} {dk bl:Addr} {S:List (List BR)} (h:DkAt H CD av dk bl S) (f:Fr av H H'):DkAt H' CD av dk bl S:=⟨h.1,let ⟨dx,e⟩:=h.2.1;⟨dx,f _ _ h.1 e⟩,h.2.2.fr f⟩
theorem DkAt.more {H:Hp} {CD:Addr} {av:List Addr} {dk bl x:Addr} {S:List (List BR)} (h:DkAt H CD av dk bl S) (hx:H x=none):DkAt H CD (x :: av) dk bl S:=by
 obtain ⟨n,⟨dx,e⟩,hs⟩:=h
 refine ⟨fun z=>?_,⟨dx,e⟩,hs.more hx⟩
 rcases jJ.mp z with rfl | z
 ·rw [hx] at e;cases e
 ·exact n z
theorem DkAt.less {H:Hp} {CD:Addr} {av av':List Addr} {dk bl:Addr} {S:List (List BR)} (h:DkAt H CD av dk bl S) (s:∀ x ∈ av',x ∈ av):DkAt H CD av' dk bl S:=⟨fun z=>h.1 (s _ z),h.2.1,h.2.2.less s⟩
def Lk (H:Hp) (us:List V) (bad:Int->Prop) (ok:List BR->Prop):Prop:=(∃ z,LB H us (.int z)/\bad z)\/∃ A,us ≠ []/\Good A/\RowsB H us A/\ok A
theorem Cp.refl {K:Fg} {H:Hp} {v:V} (h:RowV K H v):Cp K H v v:=by
 rcases h with h | h | ⟨l,xs,e,h,hl,hc⟩
 ·exact .inl ⟨rfl,.inl h⟩
 ·exact .inl ⟨rfl,.inr h⟩
 ·exact .inr ⟨l,l,xs,e,e,h,h,hl,hc⟩
theorem Qjk {K:Fg} {H H':Hp} {us:List V} {v:V} (h:LB H us v) (hV:∀ v ∈ us,RowV K H v) (s:Same H H'):LB H' us v:=Qoz h hV s ⟨rfl,fun j u w e e'=>by
 rw [e] at e'
 cases e'
 exact Cp.refl ((hV u (yX e)).same s)⟩
def Qlp (K:Fg) (C CD:Addr):Sp:=fun vs H Q E=>∃ (dk bl d:Addr) (av:List Addr) (S:List (List BR)) (us:List V),vs=[.ref dk,.ref d]/\DkAt H CD av dk bl S/\(∀ a ∈ av,H a ≠ none)/\S.length<=100/\H d=some (.lst us)/\(∀ v ∈ us,RowV K H v)/\us.length<=100000 /\
 Lk H us (fun z=>RE C H z E) fun A=>∀ H',Fr [bl] H H'->DkAt H' CD av dk bl (S ++ [A])->Q .non H'
def RowF (H:Hp) (v:V):Prop:=(∃ l xs,v=.ref l/\H l=some (.tup xs))\/∃ l,∃ ks:List Key,v=.ref l/\H l=some (.lst (ks.map kV))/\ks.length<=1000/\∀ k ∈ ks,Qaa k
def Keep (H H':Hp):Prop:=∀ l xs,(H l=some (.lst xs)->H' l=some (.lst xs))/\(H l=some (.tup xs)->H' l=some (.tup xs))
theorem RowF.row {K:Fg} {H:Hp} {v:V} (h:RowF H v):RowV K H v:=by
 rcases h with h | ⟨l,ks,e,hl,hn,hk⟩
 ·exact .inr (.inl h)
 ·refine .inr (.inr ⟨l,_,e,hl,by rw [jK];exact hn,fun c hc=>?_⟩)
  obtain ⟨k,hm,rfl⟩:=jQe.mp hc
  exact Qja (hk k hm)
theorem RowF.keep {H H':Hp} {v:V} (h:RowF H v) (s:Keep H H'):RowF H' v:=by
 rcases h with ⟨l,xs,e,h⟩ | ⟨l,ks,e,hl,hn⟩
 ·exact .inl ⟨l,xs,e,(s l xs).2 h⟩
 ·exact .inr ⟨l,ks,e,(s l _).1 hl,hn⟩
theorem Qjl {H H':Hp} {us:List V} {v:V} (h:LB H us v) (hV:∀ v ∈ us,RowF H v) (s:Keep H H'):LB H' us v:=by
 have hB:∀ {ws:List V} {A:List BR},RowsB H ws A->RowsB H' ws A:=fun {ws A} h=>h.imp fun l r _ z=>(s l _).1 z
 cases h with
 | @bad A i x hG hl ht hi hno =>
  refine .bad hG hl (hB ht) hi fun ⟨r,⟨l,e,hl'⟩,f⟩=>hno ⟨r,⟨l,e,?_⟩,f⟩
  rcases hV x (yX hi) with ⟨l2,xs,e2,h2⟩ | ⟨l2,ks,e2,h2,_⟩
  ·rw [e] at e2;cases e2
   rw [(s l _).2 h2] at hl';cases hl'
  ·rw [e] at e2;cases e2
   have:=(s l _).1 h2
   rw [hl'] at this
   rw [h2,← HO.lst.inj (Option.some.inj this)]
 | none e=>exact .none e
 | ok hne hG e=>exact .ok hne hG (hB e)
def Qjm (K:Fg) (C CD:Addr):Sp:=fun vs H Q E=>∃ (dk d dx:Addr) (av:List Addr) (us:List V),vs=[.ref dk,.ref d]/\H dk=some (.ins CD dx [])/\dk ∉ av/\(∀ a ∈ av,H a ≠ none)/\H d=some (.lst us)/\(∀ v ∈ us,RowF H v)/\us.length<=100000 /\
 Lk H us (fun z=>∀ de H',Fr [dk] H H'->H' de=some (.xd [("row",.int z)])->E (.ref C) (some de) H') fun A=>∀ bl H',H bl=none->Fr [dk] H H'->DkAt H' CD av dk bl [A]->Q .non H'
def Qmr (CD:Addr):Sp:=fun vs H Q _=>∃ (dk bl:Addr) (av:List Addr) (S:List (List BR)) (B:List BR),vs=[.ref dk]/\DkAt H CD av dk bl (S ++ [B])/\B.length<=100000/\∀ (g:Addr) (H':Hp),Same H H'->BkN H H' g B->Q (.ref g) H'
def Top (H:Hp) (bl:Addr) (us:List V) (B:List BR):Prop:=∃ xs a,H bl=some (.lst (xs ++ [.ref a]))/\H a=some (.lst us)/\RowsB H us B
def Qms (K:Fg) (C CD:Addr):Sp:=fun vs H Q E=>∃ (dk bl:Addr) (av:List Addr) (S:List (List BR)) (B:List BR) (us:List V) (z:Int) (row:V),vs=[.ref dk,.int z,row]/\DkAt H CD av dk bl S/\Top H bl us B/\(∀ a ∈ av,H a ≠ none)/\S.length<=100/\B.length<=10000/\(∀ r ∈ B,r.gn)/\RowV K H row /\
 ((z < 0\/(us.length:Int) < z)/\RE C H z E\/∃ k:Nat,z=(k:Int)/\k<=us.length/\Lk H (us.take k ++ [row] ++ us.drop k) (fun z=>RE C H z E) fun A=>∀ H',Fr [bl] H H'->DkAt H' CD av dk bl (S ++ [A])->Q .non H')
def Qjn (C CD:Addr):Sp:=fun vs H Q E=>∃ (dk bl:Addr) (av:List Addr) (S:List (List BR)) (B:List BR) (us:List V) (z:Int),vs=[.ref dk,.int z]/\DkAt H CD av dk bl S/\Top H bl us B/\(∀ a ∈ av,H a ≠ none)/\S.length<=100/\B.length<=10000/\(∀ r ∈ B,r.gn) /\
 ((z < 0\/(us.length:Int)<=z)/\RE C H z E\/∃ k:Nat,z=(k:Int)/\k < us.length/\Lk H (us.take k ++ us.drop (k + 1)) (fun z=>RE C H z E) fun A=>∀ H',Fr [bl] H H'->DkAt H' CD av dk bl (S ++ [A])->Q .non H')
def Qmt (CS CD:Addr):Sp:=fun vs H Q E=>∃ (dk bl:Addr) (av:List Addr) (S:List (List BR)) (B:List BR),vs=[.ref dk]/\DkAt H CD av dk bl (S ++ [B]) /\
 (S=[]/\(∀ H',Same H H'->E (.ref CS) none H')\/S ≠ []/\∀ H',Fr [bl] H H'->DkAt H' CD av dk bl S->Q .non H')
theorem paired_map {α β γ:Type} {P:α->γ->Prop} {f:β->γ} {xs:List α} {ys:List β} (h:Paired (fun a b=>P a (f b)) xs ys):Paired P xs (ys.map f):=by
 induction h with
 | nil=>exact .nil
 | cons a _ ih=>exact .cons a ih
theorem paired_get {α β:Type} {R:α->β->Prop} {xs:List α} {ys:List β} (h:Paired R xs ys) {x:α} (m:x ∈ xs):∃ y,R x y:=by
 induction h with
 | nil=>cases m
 | cons a _ ih =>
  rcases jJ.mp m with rfl | m
  ·exact ⟨_,a⟩
  ·exact ih m
theorem Kk {H:Hp}:∀ {us:List V} {B:List BR},RowsB H us B->∃ zs:List (Addr × BR),us=zs.map (fun z=>V.ref z.1)/\zs.map (·.2)=B/\∀ z ∈ zs,H z.1=some (.lst (z.2.cells.map kV)):=by
 intro us B h
 unfold RowsB at h
 induction B generalizing us with
 | nil=>cases h;exact ⟨[],rfl,rfl,fun _ h=>nomatch h⟩
 | cons r B ih =>
  cases h with
  | cons z t =>
   obtain ⟨l,rfl,hl⟩:=z
   obtain ⟨zs,e1,e2,hz⟩:=ih t
   refine ⟨(l,r) :: zs,by rw [e1];rfl,by rw [xZ,e2],fun z h5=>?_⟩
   rcases jJ.mp h5 with e | e
   ·rw [e];exact hl
   ·exact hz z e
theorem Qal {K:Fg} {H:Hp} {us:List V} {B:List BR} (h:RowsB H us B) (hg:∀ r ∈ B,r.gn):∀ v ∈ us,RowV K H v:=fun v hv=>by
 obtain ⟨i,e⟩:=jXa.mp hv
 obtain ⟨r,l,er,rfl,hl⟩:=h.get e
 exact .inr (.inr ⟨l,_,rfl,hl,xW (Yy r) (by decide),Qak (hg r (yX er))⟩)
theorem Ju {A:List BR} (h:Good A):∀ r ∈ A,r.gn:=fun r hr=>by
 obtain ⟨i,e⟩:=jXa.mp hr
 exact (h i r e).gn
section
variable {P:Program} {w:World} {K:Fg} {mg:Str->Option Value} {base:Heap}
theorem scIsN:FnScope ["thing","count"] ["thing","count"] (Qh sIsN):=⟨rfl,rfl,rfl,by decide +kernel,rfl,by decide +kernel,by decide +kernel⟩
theorem okIsN  (F:Fn K mg "is_number_of" sIsN) (M:Mg mg) (c_is_whole:Cal P w K mg base 1 "is_whole" ["thing"] (Qix K)):Cal P w K mg base 2 "is_number_of" ["thing","count"] (Qpb):=by
 refine Xv F scIsN (fun _ _ _ _ _ _=>We (fun _ _=>rfl)) (fun vs H Q E h=>?_) (fun f cdv A outer s H vs Q E hr h=>?_)
 ·obtain ⟨z,c,rfl,_⟩:=h
  rfl
 obtain ⟨z,c,rfl,q⟩:=h
 refine ⟨_,(Qi (Xa (Vn (Xz c_is_whole (hr.mono (by decide)) (Qa (pv 0) Qg)) (Kv (Qao Qfm Qhc Qb (pv 0) (pv 1)))))),?_⟩
 refine ⟨_,rfl,_,rfl,.inl rfl,_,rfl,iteT ?_⟩
 refine ⟨_,rfl,_,_,rfl,rfl,_,rfl,ite2 (fun c1=>?_) (fun c1=>?_)⟩
 ·rw [c1,Bool.true_and] at q
  exact ⟨_,rfl,_,_,rfl,rfl,q⟩
 ·rw [Bool.eq_false_iff.mpr c1,jKc] at q
  exact q
theorem scCop:FnScope ["book"] ["book"] (Qh sCop):=⟨rfl,rfl,rfl,by decide +kernel,rfl,by decide +kernel,by decide +kernel⟩
theorem okCop  (F:Fn K mg "rows_copied" sCop) (M:Mg mg):Cal P w K mg base 1 "rows_copied" ["book"] (Qpc):=by
 refine Xv F scCop (fun _ _ _ _ _ _=>bind1 (fun _=>rfl)) (fun vs H Q E h=>?_) (fun f cdv A outer s H vs Q E hr h=>?_)
 ·obtain ⟨d,us,B,rfl,_⟩:=h
  rfl
 obtain ⟨d,us,B,rfl,hd,hB,hl,q⟩:=h
 refine ⟨_,(Qi (Xa (Qcq ["row"] [none] rfl (Ye (pv 0)) (fun _ _ _=>(Xb (i:=0) (show (["row"]:List Str).Nodup by decide +kernel) rfl (Or.inl rfl) (Or.inr rfl))) (fun _ _ _=>Zd) (fun _ _ _=>(Yc (Ya (K:=K) rfl) rfl M.list_ Zt (Qa (pv 0) Qg)))))),?_⟩
 have hz:(2000000:Nat) < sizeLine:=by decide
 obtain ⟨zs,rfl,rfl,hzs⟩:=Kk hB
 rw [jK] at hl
 refine ⟨_,rfl,d,rfl,⟨_,Qc hd⟩,fun D hD=>?_⟩
 refine Qbg (fun H1 v (r:BR)=>∃ l,v=.ref l/\l ≠ D/\H l=none/\H1 l=some (.lst (r.cells.map kV))) (fun z:Addr × BR=>z.2) rfl (Ze (val:=fun z:Addr × BR=>V.ref z.1) (Qc hd)) (by lia) hD ?_ ?_ (fun z hz' H1 s1 hD1 P h=>?_) fun H1 ys s1 h1 hp=>?_
 ·rintro H1 H2 v x _ s ⟨l,e,n,e0,hl⟩
  exact ⟨l,e,n,e0,s _ _ hl⟩
 ·rintro H1 v x zs ⟨l,e,n,e0,hl⟩
  exact ⟨l,e,n,e0,by rw [Ql n];exact hl⟩
 ·refine ⟨_,rfl,z.1,_,rfl,.inl (Qc (s1 _ _ (hzs z hz'))),fun l hl'=>h _ _ (Qf hl' _) ⟨l,rfl,fun e=>hD1 (by rw [← e];exact hl'),?_,Qd⟩⟩
  cases e:H l with
  | none=>rfl
  | some o=>rw [s1 _ _ e] at hl';cases hl'
 ·refine q D H1 s1 ⟨hD,ys,h1,?_,fun l m=>?_⟩
  ·exact paired_map (f:=BR.cells) (Paired.mapP hp fun v r ⟨l,e,_,_,hl⟩=>⟨l,e,hl⟩)
  ·obtain ⟨r,l',e,_,h0,_⟩:=paired_get hp m
   cases e
   exact h0
theorem scDkB:FnScope ["self"] ["self"] (Qh sDkB):=⟨rfl,rfl,rfl,by decide +kernel,rfl,by decide +kernel,by decide +kernel⟩
theorem okDkB {CD:Addr} (T:DkTxt K mg CD) (c_rows_copied:Cal P w K mg base 1 "rows_copied" ["book"] (Qpc)) {f:Addr} {fd:FuncData} (F:Fun K "book" "Desk.book" sDkB f fd) (M:Mg mg):FnOk P w K mg base CX0 2 f fd ["self"] (Qmr CD):=by
 refine F.ok scDkB (fun vs H Q E h=>?_) (fun cdv A outer s H vs Q E hr h=>?_)
 ·obtain ⟨dk,bl,av,S,B,rfl,_⟩:=h
  rfl
 obtain ⟨dk,bl,av,S,B,rfl,⟨_,⟨dx,hdk⟩,hs⟩,hl,q⟩:=h
 refine ⟨_,(Qi (Xa (Xz c_rows_copied (hr.mono (by decide)) (Qa (Qp Qk (Qad (pv 0) rfl) (Ww Jo Qb) (fun _ _=>rfl)) Qg)))),?_⟩
 obtain ⟨as,a,hbl,_,_,_,_,us,ha,hB,_⟩:=hs.last
 refine ⟨_,rfl,dk,CD,dx,_,_,rfl,hdk,T.cl,T.nB,rfl,_,rfl,bl,_,_,_,rfl,rfl,Qc hbl,Yw _ _,?_⟩
 exact ⟨a,us,B,rfl,ha,hB,by lia,q⟩
theorem scDkL:FnScope ["self","rows"] ["self","rows"] (Qh sDkL):=⟨rfl,rfl,rfl,by decide +kernel,rfl,by decide +kernel,by decide +kernel⟩
theorem Qlq {C CD:Addr} (T:DkTxt K mg CD) (c_looked:CalG P w K mg base C 4 "looked" ["rows"] (Wp K C)) (c_rows_copied:Cal P w K mg base 1 "rows_copied" ["book"] (Qpc)) {f:Addr} {fd:FuncData} (F:Fun K "lay" "Desk.lay" sDkL f fd) (M:Mg mg):FnOk P w K mg base (CXg P w C) 5 f fd ["self","rows"] (Qlp K C CD):=by
 refine F.okG scDkL (fun vs H Q E h=>?_) (fun cdv A outer s H vs Q E hr h=>?_)
 ·obtain ⟨dk,bl,d,av,S,us,rfl,_⟩:=h
  rfl
 obtain ⟨dk,bl,d,av,S,us,rfl,⟨ndk,⟨dx,hdk⟩,hs⟩,hav,hS,hd,hV,hlen,hh⟩:=h
 refine ⟨_,(Qe (Xg (pe_fnG c_looked (hr.mono (by decide)) (Qa (pv 1) Qg)))
  (Qi (Xg (Zs PySem.F.plainAttrs_list PySem.F.slot_list_append PySem.F.type_list_append Xc (Qad (pv 0) rfl) (Qa (Xz c_rows_copied (hr.mono (by decide)) (Qa (pv 1) Qg)) Qg))))),?_⟩
 have hz:(2000000:Nat) < sizeLine:=by decide
 rcases hh with ⟨z,hLB,hE⟩ | ⟨A',hne,hG,hB,q⟩
 ·exact ⟨_,rfl,d,us,rfl,hd,hV,by lia,fun e=>by rw [lb_nil hLB e] at hE;exact hE,fun A2 hne hG hB=>(lb_no hLB hne hG hB).elim,fun A2 i v hG _ ht hi hno=>by rw [lb_at hLB hG ht hi hno] at hE;exact hE⟩
 refine ⟨_,rfl,d,us,rfl,hd,hV,by lia,fun e=>absurd e hne,fun A2 _ hG2 hB2 H1 s1=>?_,fun A2 i v hG2 hl2 ht2 hi2 hno2=>(Wu hG hB ht2 hi2 hno2).elim⟩
 obtain ⟨nbl,as,hbl,nas,hp⟩:=hs
 have hl:=Paired.length hp
 refine ⟨_,rfl,dk,CD,dx,_,_,rfl,s1 _ _ hdk,T.cl,T.nB,rfl,.inl ⟨rfl,_,Qc (s1 _ _ hbl)⟩,_,rfl,d,us,A',rfl,s1 _ _ hd,hB.same s1,by rw [← hB.length];lia,fun g H2 s2 hg=>?_⟩
 have s12:=s1.trans s2
 refine ⟨bl,_,_,rfl,rfl,s12 _ _ hbl,by rw [jK];lia,?_⟩
 have ng:bl ≠ g:=fun e=>by have h9:=hg.1;rw [← e,s1 _ _ hbl] at h9;cases h9
 refine q _ (fun b o nb e=>by rw [Ql (fun z=>nb (by rw [z];exact jQ.mpr rfl))];exact s12 _ _ e) ⟨ndk,⟨dx,?_⟩,?_⟩
 ·rw [Ql (Qam (s12 _ _ hdk) (s12 _ _ hbl) (by intro z;cases z))]
  exact s12 _ _ hdk
 ·exact Stk.push nbl (s12 _ _ hbl) nas (Ks hp fun a _ b z=>z.fr (Qy s12)) ng (hg.av fun x hx z=>hav x hx (by
   cases e:H x with
   | none=>rfl
   | some o=>rw [s1 _ _ e] at z;cases z))
theorem Qfe {xs:List V} {k:Nat} (h:k<=xs.length):cutV xs none (some (k:Int))=xs.take k:=by
 unfold cutV
 rw [HT.sIx_none,HT.sIx_nat,xK h]
 rfl
theorem Qjo {xs:List V} {k:Nat} (h:k<=xs.length):cutV xs (some (k:Int)) none=xs.drop k:=by
 unfold cutV
 rw [HT.sIx_none,HT.sIx_nat,xK h]
 exact jYa (by rw [zK];lia)
theorem nn {H H':Hp} {x:Addr} (s:Same H H') (h:H x ≠ none):H' x ≠ none:=fun z=>h (by
 cases e:H x with
 | none=>rfl
 | some o=>rw [s _ _ e] at z;cases z)
theorem scDkP:FnScope ["self","place","row","rows"] ["self","place","row"] (Qh sDkP):=⟨rfl,rfl,rfl,by decide +kernel,rfl,by decide +kernel,by decide +kernel⟩
theorem okDkP {C D fI CD:Addr} {fdI:FuncData} {fo:Obj} (NB:NBk P w K mg base C D fI fdI fo) (T:DkTxt K mg CD) {fL:Addr} {fdL:FuncData} (GL:FnOk P w K mg base (CXg P w C) 5 fL fdL ["self","rows"] (Qlp K C CD)) (bL:Binds K fdL ["self","rows"] []) (mL:Meth K CD "lay" fL) (c_is_number_of:Cal P w K mg base 2 "is_number_of" ["thing","count"] (Qpb)) {f:Addr} {fd:FuncData} (F:Fun K "put_row" "Desk.put_row" sDkP f fd) (M:Mg mg):FnOk P w K mg base (CXg P w C) 6 f fd ["self","place","row"] (Qms K C CD):=by
 refine F.okG scDkP (fun vs H Q E h=>?_) (fun cdv A outer s H vs Q E hr h=>?_)
 ·obtain ⟨dk,bl,av,S,B,us,z,row,rfl,_⟩:=h
  rfl
 obtain ⟨dk,bl,av,S,B,us,z,row,rfl,hD,⟨xs,a,hbl,ha,hB⟩,hav,hS,hBl,hgn,hrow,hh⟩:=h
 refine ⟨_,(Qe (Qs (i:=3) scDkP.nd rfl (Or.inl rfl) (Qp Qk (Qad (pv 0) rfl) (Ww Jo Qb) (fun _ _=>rfl)))
  (Qe (Xm (Zx (Zl (Xz c_is_number_of (hr.mono (by decide)) (Qa (pv 1) (Qa (Qj Qo (Qm Qn rfl M.len Xp (Qa (pv 3) Qg)) Qb) Qg))))) (Qi (Kh NB.ei NB.gi NB.bi NB.lk NB.fc NB.kc (hr.mono (by decide)) (Qa (pv 1) Qg))) Qt)
  (Qi (Xg (Qdj (pv 0) T.cl mL GL (hr.mono (by decide)) bL .nil Qbk (Qa (Qj Jp (Qj Jp (Xu Yn (pv 3) Ym (Yf (pv 1))) (Xi (Qa (pv 2) Qg))) (Xu Yn (pv 3) (Yf (pv 1)) Ym)) Qg)))))),?_⟩
 have hz:(2000000:Nat) < sizeLine:=by decide
 obtain ⟨ndk,⟨dx,hdk⟩,hs⟩:=id hD
 have hul:=hB.length
 refine ⟨_,rfl,dk,CD,dx,_,_,rfl,hdk,T.cl,T.nB,rfl,_,rfl,bl,_,_,_,rfl,rfl,Qc hbl,Yw _ _,?_⟩
 refine ⟨_,rfl,_,rfl,a,us,rfl,.inl (Qc ha),_,_,rfl,rfl,z,_,rfl,?_⟩
 rcases hh with ⟨hz2,hE⟩ | ⟨k,rfl,hk,hh⟩
 ·have eb:(decide (0<=z) && decide (z < (us.length:Int) + 1))=false:=by
   rcases hz2 with h | h
   ·rw [zY (by lia),jKc]
   ·rw [zY (p:=z < (us.length:Int) + 1) (by lia),Bool.and_false]
  rw [eb]
  exact ⟨_,rfl,iteT ⟨_,rfl,_,rfl,hE.raise (Same.refl _)⟩⟩
 have eb:(decide (0<=(k:Int)) && decide ((k:Int) < (us.length:Int) + 1))=true:=by
  rw [yV (by lia),yV (by lia)];rfl
 rw [eb]
 refine ⟨_,rfl,iteF ?_⟩
 refine ⟨_,rfl,dk,dx,_,rfl,hdk,rfl,?_⟩
 refine ⟨_,rfl,_,rfl,_,rfl,a,us,rfl,Qc ha,fun p1 hp1=>?_⟩
 rw [Qfe hk]
 have s1:=Qf hp1 (.lst (us.take k))
 have e1:upd H p1 (.lst (us.take k)) p1=some (.lst (us.take k)):=Qd
 generalize upd H p1 (.lst (us.take k))=H1 at s1 e1 ⊢
 refine ⟨_,rfl,by show 1<=sizeLine;decide,fun p2 hp2=>?_⟩
 have s2:=Qf hp2 (.lst [row])
 have e2:upd H1 p2 (.lst [row]) p2=some (.lst [row]):=Qd
 generalize upd H1 p2 (.lst [row])=H2 at s2 e2 ⊢
 refine ⟨p1,p2,_,_,rfl,rfl,s2 _ _ e1,e2,by rw [yW];show _ + 1<=_;lia,fun p3 hp3=>?_⟩
 have s3:=Qf hp3 (.lst (us.take k ++ [row]))
 have e3:upd H2 p3 (.lst (us.take k ++ [row])) p3=some (.lst (us.take k ++ [row])):=Qd
 generalize upd H2 p3 (.lst (us.take k ++ [row]))=H3 at s3 e3 ⊢
 have s03:=(s1.trans s2).trans s3
 refine ⟨_,rfl,_,rfl,_,rfl,a,us,rfl,Qc (s03 _ _ ha),fun p4 hp4=>?_⟩
 rw [Qjo hk]
 have s4:=Qf hp4 (.lst (us.drop k))
 have e4:upd H3 p4 (.lst (us.drop k)) p4=some (.lst (us.drop k)):=Qd
 generalize upd H3 p4 (.lst (us.drop k))=H4 at s4 e4 ⊢
 refine ⟨p3,p4,_,_,rfl,rfl,s4 _ _ e3,e4,by rw [jW,yW,zK];show _ + 1 + _<=_;lia,fun p5 hp5=>?_⟩
 have s5:=Qf hp5 (.lst (us.take k ++ [row] ++ us.drop k))
 have e5:upd H4 p5 (.lst (us.take k ++ [row] ++ us.drop k)) p5=some (.lst (us.take k ++ [row] ++ us.drop k)):=Qd
 generalize upd H4 p5 (.lst (us.take k ++ [row] ++ us.drop k))=H5 at s5 e5 ⊢
 have s05:=(s03.trans s4).trans s5
 have hV:∀ v ∈ us.take k ++ [row] ++ us.drop k,RowV K H v:=fun v hv=>by
  have hus:=Qal (K:=K) hB hgn
  rcases yQ.mp hv with hv | hv
  ·rcases yQ.mp hv with hv | hv
   ·exact hus v (wZ hv)
   ·rw [jQ.mp hv];exact hrow
  ·exact hus v (jQb hv)
 refine ⟨dk,bl,p5,av,S,_,rfl,hD.fr (Qy s05),fun x hx=>nn s05 (hav x hx),hS,e5,fun v hv=>(hV v hv).same s05,by rw [jW,jW,yW,zK];show _ + 1 + _<=_;lia,?_⟩
 rcases hh with ⟨z,hLB,hE⟩ | ⟨A',hne,hG,hB',q⟩
 ·exact .inl ⟨z,Qjk hLB hV s05,hE.same s05⟩
 ·exact .inr ⟨A',hne,hG,hB'.same s05,fun H6 f6 hD6=>q H6 ((Qy s05).trans f6) hD6⟩
theorem scDkT:FnScope ["self","place","rows"] ["self","place"] (Qh sDkT):=⟨rfl,rfl,rfl,by decide +kernel,rfl,by decide +kernel,by decide +kernel⟩
theorem okDkT {C D fI CD:Addr} {fdI:FuncData} {fo:Obj} (NB:NBk P w K mg base C D fI fdI fo) (T:DkTxt K mg CD) {fL:Addr} {fdL:FuncData} (GL:FnOk P w K mg base (CXg P w C) 5 fL fdL ["self","rows"] (Qlp K C CD)) (bL:Binds K fdL ["self","rows"] []) (mL:Meth K CD "lay" fL) (c_is_number_of:Cal P w K mg base 2 "is_number_of" ["thing","count"] (Qpb)) {f:Addr} {fd:FuncData} (F:Fun K "take_row" "Desk.take_row" sDkT f fd) (M:Mg mg):FnOk P w K mg base (CXg P w C) 6 f fd ["self","place"] (Qjn C CD):=by
 refine F.okG scDkT (fun vs H Q E h=>?_) (fun cdv A outer s H vs Q E hr h=>?_)
 ·obtain ⟨dk,bl,av,S,B,us,z,rfl,_⟩:=h
  rfl
 obtain ⟨dk,bl,av,S,B,us,z,rfl,hD,⟨xs,a,hbl,ha,hB⟩,hav,hS,hBl,hgn,hh⟩:=h
 refine ⟨_,(Qe (Qs (i:=2) scDkT.nd rfl (Or.inl rfl) (Qp Qk (Qad (pv 0) rfl) (Ww Jo Qb) (fun _ _=>rfl)))
  (Qe (Xm (Zx (Zl (Xz c_is_number_of (hr.mono (by decide)) (Qa (pv 1) (Qa (Qm Qn rfl M.len Xp (Qa (pv 2) Qg)) Qg))))) (Qi (Kh NB.ei NB.gi NB.bi NB.lk NB.fc NB.kc (hr.mono (by decide)) (Qa (pv 1) Qg))) Qt)
  (Qi (Xg (Qdj (pv 0) T.cl mL GL (hr.mono (by decide)) bL .nil Qbk (Qa (Qj Jp (Xu Yn (pv 2) Ym (Yf (pv 1))) (Xu Yn (pv 2) (Yf (Qj Qo (pv 1) Qb)) Ym)) Qg)))))),?_⟩
 have hz:(2000000:Nat) < sizeLine:=by decide
 obtain ⟨ndk,⟨dx,hdk⟩,hs⟩:=id hD
 have hul:=hB.length
 refine ⟨_,rfl,dk,CD,dx,_,_,rfl,hdk,T.cl,T.nB,rfl,_,rfl,bl,_,_,_,rfl,rfl,Qc hbl,Yw _ _,?_⟩
 refine ⟨_,rfl,_,rfl,a,us,rfl,.inl (Qc ha),z,_,rfl,?_⟩
 rcases hh with ⟨hz2,hE⟩ | ⟨k,rfl,hk,hh⟩
 ·have eb:(decide (0<=z) && decide (z < (us.length:Int)))=false:=by
   rcases hz2 with h | h
   ·rw [zY (by lia),jKc]
   ·rw [zY (p:=z < (us.length:Int)) (by lia),Bool.and_false]
  rw [eb]
  exact ⟨_,rfl,iteT ⟨_,rfl,_,rfl,hE.raise (Same.refl _)⟩⟩
 have eb:(decide (0<=(k:Int)) && decide ((k:Int) < (us.length:Int)))=true:=by
  rw [yV (by lia),yV (by lia)];rfl
 rw [eb]
 refine ⟨_,rfl,iteF ?_⟩
 refine ⟨_,rfl,dk,dx,_,rfl,hdk,rfl,?_⟩
 refine ⟨_,rfl,_,rfl,_,rfl,a,us,rfl,Qc ha,fun p1 hp1=>?_⟩
 rw [Qfe (by lia)]
 have s1:=Qf hp1 (.lst (us.take k))
 have e1:upd H p1 (.lst (us.take k)) p1=some (.lst (us.take k)):=Qd
 generalize upd H p1 (.lst (us.take k))=H1 at s1 e1 ⊢
 refine ⟨_,rfl,_,rfl,_,_,rfl,rfl,_,rfl,a,us,rfl,Qc (s1 _ _ ha),fun p4 hp4=>?_⟩
 dsimp only
 rw [show (k:Int) + 1=((k + 1:Nat):Int) from rfl,Qjo (by lia)]
 have s4:=Qf hp4 (.lst (us.drop (k + 1)))
 have e4:upd H1 p4 (.lst (us.drop (k + 1))) p4=some (.lst (us.drop (k + 1))):=Qd
 generalize upd H1 p4 (.lst (us.drop (k + 1)))=H4 at s4 e4 ⊢
 refine ⟨p1,p4,_,_,rfl,rfl,s4 _ _ e1,e4,by rw [yW,zK];lia,fun p5 hp5=>?_⟩
 have s5:=Qf hp5 (.lst (us.take k ++ us.drop (k + 1)))
 have e5:upd H4 p5 (.lst (us.take k ++ us.drop (k + 1))) p5=some (.lst (us.take k ++ us.drop (k + 1))):=Qd
 generalize upd H4 p5 (.lst (us.take k ++ us.drop (k + 1)))=H5 at s5 e5 ⊢
 have s05:=(s1.trans s4).trans s5
 have hV:∀ v ∈ us.take k ++ us.drop (k + 1),RowV K H v:=fun v hv=>by
  have hus:=Qal (K:=K) hB hgn
  rcases yQ.mp hv with hv | hv
  ·exact hus v (wZ hv)
  ·exact hus v (jQb hv)
 refine ⟨dk,bl,p5,av,S,_,rfl,hD.fr (Qy s05),fun x hx=>nn s05 (hav x hx),hS,e5,fun v hv=>(hV v hv).same s05,by rw [jW,yW,zK];lia,?_⟩
 rcases hh with ⟨z,hLB,hE⟩ | ⟨A',hne,hG,hB',q⟩
 ·exact .inl ⟨z,Qjk hLB hV s05,hE.same s05⟩
 ·exact .inr ⟨A',hne,hG,hB'.same s05,fun H6 f6 hD6=>q H6 ((Qy s05).trans f6) hD6⟩
theorem scDkK:FnScope ["self"] ["self"] (Qh sDkK):=⟨rfl,rfl,rfl,by decide +kernel,rfl,by decide +kernel,by decide +kernel⟩
theorem okDkK {CS CD:Addr} (EN:ErrC K mg "NoStep" CS) (T:DkTxt K mg CD) {f:Addr} {fd:FuncData} (F:Fun K "back" "Desk.back" sDkK f fd) (M:Mg mg):FnOk P w K mg base (CXe P w CS) 1 f fd ["self"] (Qmt CS CD):=by
 refine F.okE scDkK (fun vs H Q E h=>?_) (fun cdv A outer s H vs Q E hr h=>?_)
 ·obtain ⟨dk,bl,av,S,B,rfl,_⟩:=h
  rfl
 obtain ⟨dk,bl,av,S,B,rfl,⟨ndk,⟨dx,hdk⟩,hs⟩,hh⟩:=h
 refine ⟨_,(Qe (Xm (Qr Xy (Qm Qn rfl M.len Xp (Qa (Qad (pv 0) rfl) Qg)) Qb (Qu _)) (Qi (Qkt EN (Qa Qx Qg))) Qt)
  (Qi (Xg (Qhk PySem.F.plainAttrs_list PySem.F.slot_list_pop PySem.F.type_list_pop Qme (Qad (pv 0) rfl))))),?_⟩
 obtain ⟨as,a,hbl,na,nas,hp,hba⟩:=hs.last
 have hl:=Paired.length hp
 refine ⟨_,rfl,dk,CD,dx,_,_,rfl,hdk,T.cl,T.nB,rfl,bl,_,rfl,.inl (Qc hbl),rfl,_,rfl,?_⟩
 rcases hh with ⟨rfl,hE⟩ | ⟨hne,q⟩
 ·have:as=[]:=zZ hl
  subst this
  exact iteT ⟨by show 1<=5;decide,hE H (Same.refl _)⟩
 ·refine ite2 (fun c=>?_) (fun c=>?_)
  ·have e:=yK c
   injection e with e
   rw [jW,jK,hl] at e
   exact absurd (jQa.mp (show S.length=0 by have e':((S.length + 1:Nat):Int)=1:=e;lia)) hne
  ·refine ⟨_,rfl,dk,CD,dx,_,_,rfl,hdk,T.cl,T.nB,rfl,.inl ⟨rfl,_,Qc hbl⟩,bl,_,_,rfl,rfl,hbl,by rw [jW];exact List.getElem?_concat_length,?_⟩
   refine q _ (fun b o nb e=>by rw [Ql (fun z=>nb (by rw [z];exact jQ.mpr rfl))];exact e) ⟨ndk,⟨dx,?_⟩,Stk.pop hs.1 hbl nas hp⟩
   rw [Ql (Qam hdk hbl (by intro z;cases z))]
   exact hdk
theorem scDkI:FnScope ["self","book"] ["self","book"] (Qh sDkI):=⟨rfl,rfl,rfl,by decide +kernel,rfl,by decide +kernel,by decide +kernel⟩
theorem okDkI {C CD:Addr} (T:DkTxt K mg CD) {fL:Addr} {fdL:FuncData} (GL:FnOk P w K mg base (CXg P w C) 5 fL fdL ["self","rows"] (Qlp K C CD)) (bL:Binds K fdL ["self","rows"] []) (mL:Meth K CD "lay" fL) {f:Addr} {fd:FuncData} (F:Fun K "__init__" "Desk.__init__" sDkI f fd) (M:Mg mg):FnOk P w K mg base (CXg P w C) 6 f fd ["self","book"] (Qjm K C CD):=by
 refine F.okG scDkI (fun vs H Q E h=>?_) (fun cdv A outer s H vs Q E hr h=>?_)
 ·obtain ⟨dk,d,dx,av,us,rfl,_⟩:=h
  rfl
 obtain ⟨dk,d,dx,av,us,rfl,hdk,ndk,hav,hd,hV,hlen,hh⟩:=h
 refine ⟨_,(Qe (Qmb (pv 0) (Xi Qg) rfl)
  (Qe (Qmb (pv 0) Zy rfl)
  (Qi (Xg (Qdj (pv 0) T.cl mL GL (hr.mono (by decide)) bL .nil Qbk (Qa (pv 1) Qg)))))),?_⟩
 refine ⟨by show 0<=sizeLine;decide,fun bl hbl=>?_⟩
 have nb:dk ≠ bl:=fun z=>by rw [← z,hdk] at hbl;cases hbl
 refine ⟨_,rfl,dk,CD,dx,[],rfl,(by rw [Ql nb];exact hdk),T.cl,T.nB,(by show 0 < 1000;decide),?_⟩
 refine ⟨_,rfl,dk,CD,dx,_,rfl,Qd,T.cl,T.nE,(by show 1 < 1000;decide),?_⟩
 have ef:putF "earlier" V.non (putF "books" (V.ref bl) [])=dkF bl:=by kernel_rfl
 rw [ef]
 have hf:Fr [dk] H (upd (upd (upd H bl (.lst [])) dk (.ins CD dx (putF "books" (V.ref bl) []))) dk (.ins CD dx (dkF bl))):=fun b o n e=>by
  have nb':b ≠ dk:=fun z=>n (by rw [z];exact jQ.mpr rfl)
  rw [Ql nb',Ql nb',Ql (Qq e hbl)];exact e
 have h1:upd (upd (upd H bl (.lst [])) dk (.ins CD dx (putF "books" (V.ref bl) []))) dk (.ins CD dx (dkF bl)) dk=some (.ins CD dx (dkF bl)):=Qd
 have h2:upd (upd (upd H bl (.lst [])) dk (.ins CD dx (putF "books" (V.ref bl) []))) dk (.ins CD dx (dkF bl)) bl=some (.lst []):=by rw [Ql (Ne.symm nb),Ql (Ne.symm nb)];exact Qd
 generalize upd (upd (upd H bl (.lst [])) dk (.ins CD dx (putF "books" (V.ref bl) []))) dk (.ins CD dx (dkF bl))=H1 at hf h1 h2 ⊢
 have nav:bl ∉ av:=fun z=>hav _ z hbl
 have kp:Keep H H1:=fun l xs=>⟨fun e=>hf _ _ (fun z=>by rw [jQ.mp z,hdk] at e;cases e) e,fun e=>hf _ _ (fun z=>by rw [jQ.mp z,hdk] at e;cases e) e⟩
 refine ⟨_,rfl,dk,dx,_,rfl,h1,rfl,?_⟩
 have hD1:DkAt H1 CD av dk bl []:=⟨ndk,⟨dx,h1⟩,nav,[],h2,jXb,.nil⟩
 refine ⟨_,rfl,dk,bl,d,av,[],us,rfl,hD1,fun x hx z=>?_,wX _,(kp d us).1 hd,fun v hv=>((hV v hv).keep kp).row,hlen,?_⟩
 ·cases e:H x with
  | none=>exact hav x hx e
  | some o=>rw [hf x o (fun q=>ndk (by rw [← jQ.mp q];exact hx)) e] at z;cases z
 ·rcases hh with ⟨z,hLB,hE⟩ | ⟨A',hne,hG,hB',q⟩
  ·exact .inl ⟨z,Qjl hLB hV kp,fun de H2 s2 e2=>hE de H2 (hf.trans (Qy s2)) e2⟩
  ·refine .inr ⟨A',hne,hG,hB'.imp fun l r _ z=>(kp l _).1 z,fun H2 f2 hD2=>q bl H2 hbl (fun b o n e=>f2 b o (fun z=>?_) (hf b o n e)) hD2⟩
   rw [jQ.mp z,hbl] at e
   cases e
end
abbrev sWhV:Stmt:=top 147
abbrev sLLk:Stmt:=top 156
abbrev sLNm:Stmt:=top 158
abbrev sLDo:Stmt:=top 157
abbrev sLLa:Stmt:=top 155
theorem Qbs:bootBuiltins "ValueError"=some (.type "ValueError"):=by decide +kernel
def Yv (K:Fg) (a b:Addr) (r:Bool):Prop:=PySem.W.kitOne K (.ref a) (.ref b)=some r
structure ExK (K:Fg) (mg:Str->Option Value) (C D CN CS:Addr):Prop where
 pe:mg "PlanError"=some (.ref D)
 isA:IsA K C D
 isS:IsA K CS D
 nn:mg "NoNumber"=some (.ref CN)
 ns:mg "NoStep"=some (.ref CS)
 nb:mg "NoBook"=some (.ref C)
 xi:ExcIn K C
 xs:ExcIn K CS
 xf:ExcFld K C "row"
 bn:Yv K C CN false
 bb:Yv K C C true
 bs:Yv K C CS false
 sn:Yv K CS CN false
 sb:Yv K CS C false
 ss:Yv K CS CS true
 bv:PySem.W.kitOne K (.ref C) (.type "ValueError")=some true
 sv:PySem.W.kitOne K (.ref CS) (.type "ValueError")=some true
def Nmd (C CS:Addr) (H:Hp) (e:Addr) (nm:Str) (z:Int):Prop:=(∃ dx,nm="book"/\H e=some (excD e C dx)/\H dx=some (.xd [("row",.int z)]))\/nm="step"/\H e=some (excO e CS)
theorem Nmd.same {C CS:Addr} {H H':Hp} {e:Addr} {nm:Str} {z:Int} (h:Nmd C CS H e nm z) (s:Same H H'):Nmd C CS H' e nm z:=by
 rcases h with ⟨dx,e1,e2,e3⟩ | ⟨e1,e2⟩
 ·exact .inl ⟨dx,e1,s _ _ e2,s _ _ e3⟩
 ·exact .inr ⟨e1,s _ _ e2⟩
theorem bk1:decide (V.str ("book":Str)=V.str ("book":Str))=true:=yesS _
theorem bk2:decide (V.str ("book":Str)=V.str ("step":Str))=false:=zY fun h=>absurd (V.str.inj h) (by decide +kernel)
theorem bk3:decide (V.str ("step":Str)=V.str ("book":Str))=false:=zY fun h=>absurd (V.str.inj h) (by decide +kernel)
theorem bk4:decide (V.str ("step":Str)=V.str ("step":Str))=true:=yesS _
theorem Qmu {K:Fg} {H:Hp} {a b:Addr} {x y:Bool} (h1:H a=some (.lst [.bl x,.bl y])) (h2:H b=some (.lst [.bl x,.bl y])):SmD K H 6 (.ref a) (.ref b) :=
 .lst (Qc h1) (Qc h2) rfl fun i v w ev ew=>by
  rw [ev] at ew
  cases ew
  rcases i with _ | _ | i
  ·cases ev;exact .flat rfl
  ·cases ev;exact .flat rfl
  ·cases ev
def Qed (C CS:Addr):Sp:=fun vs H Q _=>∃ (e:Addr) (nm:Str) (z:Int),vs=[.ref e,.str nm,.int z]/\Nmd C CS H e nm z/\∀ H',Same H H'->Q (.bl true) H'
section
variable {X:Cx}
theorem Qbt {f:Value} {r1 r2:List V->Hp->VK->Prop} (h1:Jm X f r1) (h2:Jm X f r2):Jm X f (fun xs H Q=>r1 xs H Q\/r2 xs H Q):=by
 intro pins s σ H xs us Q I rv h
 rcases h with h | h
 ·exact h1 pins s σ H xs us Q I rv h
 ·exact h2 pins s σ H xs us Q I rv h
end
section
variable {P:Program} {w:World} {K:Fg} {mg:Str->Option Value} {base:Heap}
theorem scWhV:FnScope ["_law_found"] ["_law_found"] (Qh sWhV):=⟨rfl,rfl,rfl,by decide +kernel,rfl,by decide +kernel,by decide +kernel⟩
theorem okWhV  (F:Fn K mg "_law_whole" sWhV) (M:Mg mg):Cal P w K mg base 1 "_law_whole" ["_law_found"] (Qix K):=by
 refine Xv F scWhV (fun _ _ _ _ _ _=>bind1 (fun _=>rfl)) (fun vs H Q E h=>?_) (fun f cdv A outer s H vs Q E hr h=>?_)
 ·obtain ⟨v,rfl,_⟩:=h
  rfl
 obtain ⟨v,rfl,hv,q⟩:=h
 refine ⟨_,(Qi (Xa (Vn (Qm Yq rfl M.isinstance Xe (Qa (pv 0) (Qa (Qav M.int_ Qmg) Qg))) (Kv (Qlv (Qm Yq rfl M.isinstance Xe (Qa (pv 0) (Qa (Qav M.bool_ Qht) Qg)))))))),?_⟩
 rcases hv with hf | ⟨a,xs,rfl,hq⟩
 ·cases v with
  | int i =>
   refine ⟨_,rfl,_,"int",true,rfl,.int,rfl,true,rfl,iteT ?_⟩
   exact ⟨_,rfl,_,"bool",false,rfl,.bool,rfl,false,rfl,q⟩
  | bl i =>
   refine ⟨_,rfl,_,"int",true,rfl,.int,rfl,true,rfl,iteT ?_⟩
   exact ⟨_,rfl,_,"bool",true,rfl,.bool,rfl,true,rfl,q⟩
  | str x=>exact ⟨_,rfl,_,"int",false,rfl,.int,rfl,false,rfl,iteF q⟩
  | non=>exact ⟨_,rfl,_,"int",false,rfl,.int,rfl,false,rfl,iteF q⟩
  | _=>exact nomatch hf
 ·rcases hq with hq | hq
  ·exact ⟨_,rfl,_,"int",false,rfl,.int,.inr ⟨⟨_,hq⟩,rfl⟩,false,rfl,iteF q⟩
  ·exact ⟨_,rfl,_,"int",false,rfl,.int,.inl ⟨⟨_,hq⟩,rfl⟩,false,rfl,iteF q⟩
theorem scLLk:FnScope ["_law_book_here","_law_caught","e"] ["_law_book_here"] (Qh sLLk):=⟨rfl,rfl,rfl,by decide +kernel,rfl,by decide +kernel,by decide +kernel⟩
theorem okLLk {C D CN CS:Addr} (EK:ExK K mg C D CN CS) (isC:IsA K C C) (F:Fn K mg "_law_looked" sLLk) (M:Mg mg) (c_looked:CalG P w K mg base C 4 "looked" ["rows"] (Wp K C)):Cal P w K mg base 5 "_law_looked" ["_law_book_here"] (Ws K C):=by
 refine Xv F scLLk (fun _ _ _ _ _ _=>bind1 (fun _=>rfl)) (fun vs H Q E h=>?_) (fun f cdv A outer s H vs Q E hr h=>?_)
 ·obtain ⟨d,us,rfl,_⟩:=h
  rfl
 obtain ⟨d,us,rfl,hd,hV,hlen,h0,hok,hbad⟩:=h
 obtain ⟨fR,fdR,FR,mR,kR,bR⟩:=c_looked.ex
 refine ⟨_,(Qe (Qs (i:=1) scLLk.nd rfl (Or.inl rfl) Zy)
  (Qe (Qil rfl rfl rfl FR (hr.mono (by decide)) mR kR bR EK.nb isC scLLk.nd (Qa (pv 0) Qg) (i:=1) (j:=2) rfl rfl (by decide) rfl rfl)
  (Qi (Xa (pv 1))))),?_⟩
 refine Kc ?_
 intro rT3 rT2
 have key:∀ z,RC C H z Q->RE C H z (fun _ od H2=>∀ e dx,od=some dx->H2 e=none->rT3 { nx:=fun x H'=>Q V.non H',rt:=Q } [some (.ref d),some (.ref e),none] (upd H2 e (excD e C dx))):=by
  rintro z hz dx H2 s2 hdx e dx' edx he
  cases edx
  have s3:=Qf he (excD e C dx)
  exact ⟨_,rfl,hz e dx _ (s2.trans s3) Qd (s3 _ _ hdx)⟩
 exact ⟨_,rfl,d,us,rfl,hd,hV,hlen,fun e=>key _ (h0 e),fun A e hG eA H1 s1=>⟨_,rfl,hok A e hG eA H1 s1⟩,fun A i v hG hl ht hi hn=>key _ (hbad A i v hG hl ht hi hn)⟩
theorem scLNm:FnScope ["_law_caught","_law_name_here","_law_row"] ["_law_caught","_law_name_here","_law_row"] (Qh sLNm):=⟨rfl,rfl,rfl,by decide +kernel,rfl,by decide +kernel,by decide +kernel⟩
theorem okLNm {C D CN CS:Addr} (EK:ExK K mg C D CN CS) (F:Fn K mg "_law_named" sLNm) (M:Mg mg) (cl_whole:Cal P w K mg base 1 "_law_whole" ["_law_found"] (Qix K)):Cal P w K mg base 2 "_law_named" ["_law_caught","_law_name_here","_law_row"] (Qed C CS):=by
 refine Xv F scLNm (fun _ _ _ _ _ _=>Qgc (fun _ _ _=>rfl)) (fun vs H Q E h=>?_) (fun f cdv A outer s H vs Q E hr h=>?_)
 ·obtain ⟨e,nm,z,rfl,_⟩:=h
  rfl
 obtain ⟨e,nm,z,rfl,hn,q⟩:=h
 have hu6:(A.deeper (PyProof.Rows.envOfC "_law_named" (Qh sLNm) s.heap.objs.size f cdv)).units + 6 < cLine:=jZf (jZc (by decide) _) hr.un
 refine ⟨_,(Qe (Xm (PW.pt (Wv (Zx (Zl (Qm (Qbt Ki Jz) rfl M.isinstance Xe (Qa (pv 0) (Qa (Qav M.ValueError_ Qbs) Qg))))) (Vm (Zl (Qm (Qbt Ki Jz) rfl M.isinstance Xe (Qa (pv 0) (Qa (Zj (v:=.ref CN) rfl EK.nn rfl) Qg))))))) (Qi (Xa Jr)) Qt)
  (Qe (Xm (Qr (Qbo (n:=6) hu6) (Xi (Qa (Qm (Qbt Ki Jz) rfl M.isinstance Xe (Qa (pv 0) (Qa (Zj (v:=.ref C) rfl EK.nb rfl) Qg))) (Qa (Qm (Qbt Ki Jz) rfl M.isinstance Xe (Qa (pv 0) (Qa (Zj (v:=.ref CS) rfl EK.ns rfl) Qg))) Qg))) (Xi (Qa (Zk Xy (pv 1) Qx (Qu _)) (Qa (Zk Xy (pv 1) Qx (Qu _)) Qg))) (Qu _)) (Qi (Xa Jr)) Qt)
  (Qi (Xa (pe_or (Zk Xy (pv 1) Qx (Qu _)) (Kv (Vn (Xz cl_whole (hr.mono (by decide)) (Qa (Qbl (pv 0) rfl) Qg)) (Kv (Zk Xy (Qbl (pv 0) rfl) (pv 2) (Qu _)))))))))),?_⟩
 refine Kc ?_
 intro rT3 rT2
 rcases hn with ⟨dx,rfl,he,hdx⟩ | ⟨rfl,he⟩
 ·refine ⟨_,rfl,.inl ⟨e,C,dx,he,EK.xi,.inr (.inl ⟨"ValueError",true,rfl,EK.bv,?_⟩)⟩⟩
  refine ⟨true,rfl,iteF ?_⟩
  refine ⟨_,rfl,.inl ⟨e,C,dx,he,EK.xi,.inl ⟨CN,false,rfl,EK.bn,?_⟩⟩⟩
  refine ⟨false,rfl,iteF ?_⟩
  refine ⟨_,rfl,.inl ⟨e,C,dx,he,EK.xi,.inl ⟨C,true,rfl,EK.bb,?_⟩⟩⟩
  refine ⟨_,rfl,.inl ⟨e,C,dx,he,EK.xi,.inl ⟨CS,false,rfl,EK.bs,?_⟩⟩⟩
  refine ⟨by show 2<=sizeLine;decide,fun p1 hp1=>?_⟩
  have s1:=Qf hp1 (.lst [.bl true,.bl false])
  have e1:upd H p1 (.lst [.bl true,.bl false]) p1=some (.lst [.bl true,.bl false]):=Qd
  generalize upd H p1 (.lst [.bl true,.bl false])=H1 at s1 e1 ⊢
  refine ⟨_,rfl,rfl,_,rfl,rfl,by show 2<=sizeLine;decide,fun p2 hp2=>?_⟩
  rw [bk1,bk2]
  have s2:=Qf hp2 (.lst [.bl true,.bl false])
  have e2:upd H1 p2 (.lst [.bl true,.bl false]) p2=some (.lst [.bl true,.bl false]):=Qd
  generalize upd H1 p2 (.lst [.bl true,.bl false])=H2 at s2 e2 ⊢
  have s12:=s1.trans s2
  refine ⟨p1,p2,rfl,rfl,Qmu (s2 _ _ e1) e2,_,rfl,iteF ?_⟩
  refine ⟨_,rfl,rfl,_,rfl,?_⟩
  rw [bk2]
  refine iteF ?_
  refine ⟨_,rfl,e,C,dx,_,.int z,rfl,s12 _ _ he,s12 _ _ hdx,EK.xf,rfl,.int z,rfl,.inl rfl,true,rfl,iteT ?_⟩
  refine ⟨_,rfl,e,C,dx,_,.int z,rfl,s12 _ _ he,s12 _ _ hdx,EK.xf,rfl,_,rfl,rfl,?_⟩
  rw [yV rfl]
  exact q _ s12
 ·refine ⟨_,rfl,.inr ⟨e,CS,he,EK.xs,.inr (.inl ⟨"ValueError",true,rfl,EK.sv,?_⟩)⟩⟩
  refine ⟨true,rfl,iteF ?_⟩
  refine ⟨_,rfl,.inr ⟨e,CS,he,EK.xs,.inl ⟨CN,false,rfl,EK.sn,?_⟩⟩⟩
  refine ⟨false,rfl,iteF ?_⟩
  refine ⟨_,rfl,.inr ⟨e,CS,he,EK.xs,.inl ⟨C,false,rfl,EK.sb,?_⟩⟩⟩
  refine ⟨_,rfl,.inr ⟨e,CS,he,EK.xs,.inl ⟨CS,true,rfl,EK.ss,?_⟩⟩⟩
  refine ⟨by show 2<=sizeLine;decide,fun p1 hp1=>?_⟩
  have s1:=Qf hp1 (.lst [.bl false,.bl true])
  have e1:upd H p1 (.lst [.bl false,.bl true]) p1=some (.lst [.bl false,.bl true]):=Qd
  generalize upd H p1 (.lst [.bl false,.bl true])=H1 at s1 e1 ⊢
  refine ⟨_,rfl,rfl,_,rfl,rfl,by show 2<=sizeLine;decide,fun p2 hp2=>?_⟩
  rw [bk3,bk4]
  have s2:=Qf hp2 (.lst [.bl false,.bl true])
  have e2:upd H1 p2 (.lst [.bl false,.bl true]) p2=some (.lst [.bl false,.bl true]):=Qd
  generalize upd H1 p2 (.lst [.bl false,.bl true])=H2 at s2 e2 ⊢
  refine ⟨p1,p2,rfl,rfl,Qmu (s2 _ _ e1) e2,_,rfl,iteF ?_⟩
  refine ⟨_,rfl,rfl,_,rfl,?_⟩
  rw [bk4]
  exact iteT (q _ (s1.trans s2))
def RN (C CS:Addr) (H:Hp) (nm:Str) (z:Int) (Q:VK):Prop:=∀ e H',Same H H'->Nmd C CS H' e nm z->Q (.ref e) H'
def Qmv (K:Fg) (C CS CD:Addr):Sp:=fun vs H Q _=>∃ (dk bl t:Addr) (av:List Addr) (S:List (List BR)) (B:List BR) (us:List V) (wd:Str) (z:Int) (row:V),vs=[.ref dk,.ref t]/\SqT K H t [.str wd,.int z,row]/\DkAt H CD av dk bl (S ++ [B])/\Top H bl us B/\(∀ a ∈ av,H a ≠ none)/\S.length<=50/\B.length<=10000/\(∀ r ∈ B,r.gn) /\
  ((wd="put"/\RowV K H row/\((z < 0\/(us.length:Int) < z)/\RN C CS H "book" z Q\/∃ k:Nat,z=(k:Int)/\k<=us.length/\Lk H (us.take k ++ [row] ++ us.drop k) (fun i=>RN C CS H "book" i Q) fun A=>∀ H',Fr [bl] H H'->DkAt H' CD av dk bl (S ++ [B] ++ [A])->Q .non H')) \/
   (wd="take"/\((z < 0\/(us.length:Int)<=z)/\RN C CS H "book" z Q\/∃ k:Nat,z=(k:Int)/\k < us.length/\Lk H (us.take k ++ us.drop (k + 1)) (fun i=>RN C CS H "book" i Q) fun A=>∀ H',Fr [bl] H H'->DkAt H' CD av dk bl (S ++ [B] ++ [A])->Q .non H')) \/
   (wd="back"/\(S=[]/\RN C CS H "step" 0 Q\/S ≠ []/\∀ H',Fr [bl] H H'->DkAt H' CD av dk bl S->Q .non H')))
theorem w_pt:decide (V.str ("take":Str)=V.str ("put":Str))=false:=zY fun h=>absurd (V.str.inj h) (by decide +kernel)
theorem w_bp:decide (V.str ("back":Str)=V.str ("put":Str))=false:=zY fun h=>absurd (V.str.inj h) (by decide +kernel)
theorem w_bt:decide (V.str ("back":Str)=V.str ("take":Str))=false:=zY fun h=>absurd (V.str.inj h) (by decide +kernel)
theorem scLDo:FnScope ["_law_desk","_law_deed_here","_law_caught","e"] ["_law_desk","_law_deed_here"] (Qh sLDo):=⟨rfl,rfl,rfl,by decide +kernel,rfl,by decide +kernel,by decide +kernel⟩
theorem okLDo {C D CN CS CD:Addr} (EK:ExK K mg C D CN CS) (T:DkTxt K mg CD) {fP fT fK:Addr} {fdP fdT fdK:FuncData} (GP:FnOk P w K mg base (CXg P w C) 6 fP fdP ["self","place","row"] (Qms K C CD)) (bP:Binds K fdP ["self","place","row"] []) (mP:Meth K CD "put_row" fP) (GT:FnOk P w K mg base (CXg P w C) 6 fT fdT ["self","place"] (Qjn C CD)) (bT:Binds K fdT ["self","place"] []) (mT:Meth K CD "take_row" fT) (GK:FnOk P w K mg base (CXe P w CS) 1 fK fdK ["self"] (Qmt CS CD)) (bK:Binds K fdK ["self"] []) (mK:Meth K CD "back" fK) (F:Fn K mg "_law_done" sLDo) (M:Mg mg):Cal P w K mg base 7 "_law_done" ["_law_desk","_law_deed_here"] (Qmv K C CS CD):=by
 refine Xv F scLDo (fun _ _ _ _ _ _=>We (fun _ _=>rfl)) (fun vs H Q E h=>?_) (fun f cdv A outer s H vs Q E hr h=>?_)
 ·obtain ⟨dk,bl,t,av,S,B,us,wd,z,row,rfl,_⟩:=h
  rfl
 obtain ⟨dk,bl,t,av,S,B,us,wd,z,row,rfl,ht,hD,hT,hav,hS,hBl,hgn,hh⟩:=h
 obtain ⟨ndk,⟨dx,hdk⟩,hs⟩:=id hD
 refine ⟨_,(Qe (Qs (i:=2) scLDo.nd rfl (Or.inl rfl) Zy)
  (Qe (Qji rfl rfl rfl (tb_if rfl (Qr Xy (Qp Yg (pv 1) Qb (fun _ _=>rfl)) Qx (Qu _)) (Qjh rfl (pv 0) T.cl mP GP (hr.mono (by decide)) bP (Qa (Qp Yg (pv 1) Qb (fun _ _=>rfl)) (Qa (Qp Yg (pv 1) Qb (fun _ _=>rfl)) Qg))) (tb_if rfl (Qr Xy (Qp Yg (pv 1) Qb (fun _ _=>rfl)) Qx (Qu _)) (Qjh rfl (pv 0) T.cl mT GT (hr.mono (by decide)) bT (Qa (Qp Yg (pv 1) Qb (fun _ _=>rfl)) Qg)) (Qln rfl (pv 0) T.cl mK GK (hr.mono (by decide)) bK))) EK.pe EK.isA EK.isS scLDo.nd (i:=2) (j:=3) rfl rfl (by decide) rfl rfl)
  (Qi (Xa (pv 2))))),?_⟩
 refine Kc ?_
 intro rT3 rT2
 have a0:atI [V.str wd,V.int z,row] 0=some (.str wd):=Zn (k:=0) rfl
 have a1:atI [V.str wd,V.int z,row] 1=some (.int z):=Zn (k:=1) rfl
 have a2:atI [V.str wd,V.int z,row] 2=some row:=Zn (k:=2) rfl
 have key:∀ z,RN C CS H "book" z Q->RE C H z (fun _ od H2=>∀ e dx,od=some dx->H2 e=none->rT3 { nx:=fun x H'=>Q V.non H',rt:=Q } [some (.ref dk),some (.ref t),some (.ref e),none] (upd H2 e (excD e C dx))):=by
  rintro z hz dx H2 s2 hdx e dx' edx he
  cases edx
  have s3:=Qf he (excD e C dx)
  exact ⟨_,rfl,hz e _ (s2.trans s3) (.inl ⟨dx,rfl,Qd,s3 _ _ hdx⟩)⟩
 have hS2:(S ++ [B]).length<=100:=by rw [jW];show _ + 1<=_;lia
 rcases hh with ⟨rfl,hrow,hh⟩ | ⟨rfl,hh⟩ | ⟨rfl,hh⟩
 ·refine ⟨_,rfl,t,_,_,_,rfl,rfl,ht,a0,rfl,_,rfl,?_⟩
  rw [show decide (V.str ("put":Str)=V.str ("put":Str))=true from yesS _]
  refine iteT ⟨_,rfl,dk,dx,_,rfl,hdk,rfl,?_⟩
  refine ⟨_,rfl,t,_,_,_,rfl,rfl,ht,a1,_,rfl,t,_,_,_,rfl,rfl,ht,a2,?_⟩
  refine ⟨dk,bl,av,S ++ [B],B,us,z,row,rfl,hD,hT,hav,hS2,hBl,hgn,hrow,?_⟩
  rcases hh with ⟨h1,h2⟩ | ⟨k,h1,h2,h3⟩
  ·exact .inl ⟨h1,key z h2⟩
  ·refine .inr ⟨k,h1,h2,?_⟩
   rcases h3 with ⟨i,h4,h5⟩ | ⟨A',h4,h5,h6,h7⟩
   ·exact .inl ⟨i,h4,key i h5⟩
   ·exact .inr ⟨A',h4,h5,h6,fun H' f' hD'=>⟨_,rfl,h7 H' f' hD'⟩⟩
 ·refine ⟨_,rfl,t,_,_,_,rfl,rfl,ht,a0,rfl,_,rfl,?_⟩
  rw [w_pt]
  refine iteF ⟨_,rfl,t,_,_,_,rfl,rfl,ht,a0,rfl,_,rfl,?_⟩
  rw [show decide (V.str ("take":Str)=V.str ("take":Str))=true from yesS _]
  refine iteT ⟨_,rfl,dk,dx,_,rfl,hdk,rfl,?_⟩
  refine ⟨_,rfl,t,_,_,_,rfl,rfl,ht,a1,?_⟩
  refine ⟨dk,bl,av,S ++ [B],B,us,z,rfl,hD,hT,hav,hS2,hBl,hgn,?_⟩
  rcases hh with ⟨h1,h2⟩ | ⟨k,h1,h2,h3⟩
  ·exact .inl ⟨h1,key z h2⟩
  ·refine .inr ⟨k,h1,h2,?_⟩
   rcases h3 with ⟨i,h4,h5⟩ | ⟨A',h4,h5,h6,h7⟩
   ·exact .inl ⟨i,h4,key i h5⟩
   ·exact .inr ⟨A',h4,h5,h6,fun H' f' hD'=>⟨_,rfl,h7 H' f' hD'⟩⟩
 ·refine ⟨_,rfl,t,_,_,_,rfl,rfl,ht,a0,rfl,_,rfl,?_⟩
  rw [w_bp]
  refine iteF ⟨_,rfl,t,_,_,_,rfl,rfl,ht,a0,rfl,_,rfl,?_⟩
  rw [w_bt]
  refine iteF ⟨_,rfl,dk,dx,_,rfl,hdk,rfl,?_⟩
  refine ⟨dk,bl,av,S,B,rfl,hD,?_⟩
  rcases hh with ⟨h1,h2⟩ | ⟨h1,h2⟩
  ·exact .inl ⟨h1,fun H2 s2 e he=>⟨_,rfl,h2 e _ (s2.trans (Qf he (excO e CS))) (.inr ⟨rfl,Qd⟩)⟩⟩
  ·exact .inr ⟨h1,fun H' f' hD'=>⟨_,rfl,h2 H' f' hD'⟩⟩
abbrev sLSt:Stmt:=top 159
def Qmw (K:Fg):Sp:=fun vs H Q _=>∃ (b t:Addr) (us:List V) (B:List BR) (wd:Str) (k:Nat) (row:V),vs=[.ref b,.ref t]/\H b=some (.lst us)/\RowsB H us B/\B.length<=10000/\SqT K H t [.str wd,.int (k:Int),row]/\k<=us.length /\
  ((wd="take"/\∀ g H' ws,Same H H'->H' g=some (.lst ws)->RowsB H' ws (B.take k ++ B.drop (k + 1))->Q (.ref g) H') \/
   (wd="put"/\∀ g H' ws zs,Same H H'->H' g=some (.lst (ws ++ [row] ++ zs))->RowsB H' ws (B.take k)->RowsB H' zs (B.drop k)->Q (.ref g) H'))
theorem Kt {K:Fg} {H:Hp} {a D:Addr} {us:List V} {B:List BR} {cs τ0:St} {te:TE} {Q:Addr->Hp->Prop} (hτ:τ0=none :: cs) (ha:H a=some (.lst us)) (hB:RowsB H us B) (hl:B.length<=200000) (hD:H D=none)
  (hs:∀ l xs H1 (P:VK),H1 l=some (.lst xs)->(∀ p,H1 p=none->P (.ref p) (upd H1 p (.lst xs)))->te (some (.ref l) :: cs) H1 P)
  (hd:∀ H1 ys,Same H H1->H1 D=some (.lst ys)->RowsB H1 ys B->(∀ l,V.ref l ∈ ys->H l=none)->Q D H1) :
  LcW (Itl K a) D τ0 H (Js 0) tYes te Q:=by
 have hz:(2000000:Nat) < sizeLine:=by decide
 obtain ⟨zs,rfl,rfl,hzs⟩:=Kk hB
 rw [jK] at hl
 refine Qbg (fun H1 v (r:BR)=>∃ l,v=.ref l/\l ≠ D/\H l=none/\H1 l=some (.lst (r.cells.map kV))) (fun z:Addr × BR=>z.2) hτ (Ze (val:=fun z:Addr × BR=>V.ref z.1) (Qc ha)) (by lia) hD ?_ ?_ (fun z hz' H1 s1 hD1 P h=>?_) fun H1 ys s1 h1 hp=>?_
 ·rintro H1 H2 v x _ s ⟨l,e,n,e0,hl⟩
  exact ⟨l,e,n,e0,s _ _ hl⟩
 ·rintro H1 v x zs ⟨l,e,n,e0,hl⟩
  exact ⟨l,e,n,e0,by rw [Ql n];exact hl⟩
 ·refine hs _ _ _ _ (s1 _ _ (hzs z hz')) fun l hl'=>h _ _ (Qf hl' _) ⟨l,rfl,fun e=>hD1 (by rw [← e];exact hl'),?_,Qd⟩
  cases e:H l with
  | none=>rfl
  | some o=>rw [s1 _ _ e] at hl';cases hl'
 ·refine hd H1 ys s1 h1 ?_ fun l m=>?_
  ·exact paired_map (f:=BR.cells) (Paired.mapP hp fun v r ⟨l,e,_,_,hl⟩=>⟨l,e,hl⟩)
  ·obtain ⟨r,l',e,_,h0,_⟩:=paired_get hp m
   cases e
   exact h0
def GoodS (S:List (List BR)) (n:Nat):Prop:=S ≠ []/\∀ B ∈ S,B ≠ []/\Good B/\B.length<=n
structure PairAt (H:Hp) (CD dk bl pl:Addr) (av:List Addr) (S:List (List BR)) (n:Nat):Prop where
 dk:DkAt H CD (pl :: av) dk bl S
 ps:Stk H (bl :: av) pl S
 al:∀ a ∈ av,H a ≠ none
 gd:GoodS S n
theorem PairAt.same {H H':Hp} {CD dk bl pl:Addr} {av:List Addr} {S:List (List BR)} {n:Nat} (h:PairAt H CD dk bl pl av S n) (s:Same H H'):PairAt H' CD dk bl pl av S n:=⟨h.dk.fr (Qy s),h.ps.fr (Qy s),fun a ha=>nn s (h.al a ha),h.gd⟩
theorem GoodS.mono {S:List (List BR)} {n m:Nat} (h:GoodS S n) (l:n<=m):GoodS S m:=⟨h.1,fun B hB=>⟨(h.2 B hB).1,(h.2 B hB).2.1,xW (h.2 B hB).2.2 l⟩⟩
theorem GoodS.snoc {S:List (List BR)} {n:Nat} {A:List BR} (h:GoodS S n) (h1:A ≠ []) (h2:Good A) (h3:A.length<=n):GoodS (S ++ [A]) n:=⟨by simp,fun B hB=>by
 rcases yQ.mp hB with hB | hB
 ·exact h.2 B hB
 ·rw [jQ.mp hB];exact ⟨h1,h2,h3⟩⟩
theorem GoodS.init {S:List (List BR)} {n:Nat} {A:List BR} (h:GoodS (S ++ [A]) n) (hn:S ≠ []):GoodS S n:=⟨hn,fun B hB=>h.2 B (jXd _ hB)⟩
theorem GoodS.last {S:List (List BR)} {n:Nat} (h:GoodS S n):∃ S0 B,S=S0 ++ [B]/\B ≠ []/\Good B/\B.length<=n:=by
 rcases List.eq_nil_or_concat S with e | ⟨S0,B,e⟩
 ·exact absurd e h.1
 ·rw [List.concat_eq_append] at e
  exact ⟨S0,B,e,h.2 B (by rw [e];exact yY _ jX)⟩
def Qmx (K:Fg) (C CS CD:Addr):Sp:=fun vs H Q _=>∃ (dk bl pl t:Addr) (av:List Addr) (S:List (List BR)) (n:Nat) (wd:Str) (z:Int) (row:V),vs=[.ref dk,.ref pl,.ref t]/\SqT K H t [.str wd,.int z,row]/\PairAt H CD dk bl pl av S n/\S.length<=20/\n<=5000 /\
 (wd="put"/\RowF H row\/wd="take"\/wd="back")/\∀ H' S',Fr [bl,pl] H H'->PairAt H' CD dk bl pl av S' (n + 1)->S'.length<=S.length + 1->Q (.bl true) H'
theorem fr1 {x y:Addr} {H H':Hp} (f:Fr [x] H H'):Fr [x,y] H H':=f.mono fun a ha=>jJ.mpr (.inl (jQ.mp ha))
theorem Qjp {K:Fg} {H H':Hp} {x t:Addr} {xs ys:List V} (h:SqT K H t xs) (f:Fr [x] H H') (hx:H x=some (.lst ys)):SqT K H' t xs:=by
 have hn:∀ {o:HO},H t=some o->o ≠ .lst ys->H' t=some o:=fun {o} e n=>f _ _ (fun z=>by rw [jQ.mp z,hx] at e;exact n (Option.some.inj e).symm) e
 rcases h with (h | ⟨q,h⟩) | h
 ·exact .inl (.inl (hn h (fun z=>nomatch z)))
 ·exact .inl (.inr ⟨q,hn h (fun z=>nomatch z)⟩)
 ·exact .inr h
theorem Qmy {av:List Addr} {H H':Hp} {x:Addr} {o:HO} (h:∀ a ∈ av,H a ≠ none) (f:Fr [x] H H') (hx:H' x=some o):∀ a ∈ av,H' a ≠ none:=fun a ha z=>by
 by_cases c:a=x
 ·rw [c,hx] at z;cases z
 ·cases e:H a with
  | none=>exact h a ha e
  | some o'=>rw [f a o' (fun w=>c (jQ.mp w)) e] at z;cases z
theorem Fr.rows {x:Addr} {H H':Hp} {as:List Addr} {us:List V} {B:List BR} (f:Fr [x] H H') (hx:H x=some (.lst (as.map V.ref))) (h:RowsB H us B):RowsB H' us B:=h.imp fun l r _ z=>f _ _ (fun w=>by
 rw [jQ.mp w,hx] at z
 exact Jj (Kr as) r (HO.lst.inj (Option.some.inj z)).symm) z
theorem top_of {H:Hp} {av:List Addr} {l:Addr} {S:List (List BR)} {B:List BR} (h:Stk H av l (S ++ [B])):∃ us,Top H l us B:=by
 obtain ⟨as,a,e,_,_,_,_,us,ha,hB,_⟩:=h.last
 exact ⟨us,_,a,e,ha,hB⟩
theorem Cps.app {K:Fg} {H:Hp} {us vs us' vs':List V} (h:Cps K H us vs) (h':Cps K H us' vs'):Cps K H (us ++ us') (vs ++ vs'):=by
 refine ⟨by rw [jW,jW,h.1,h'.1],fun j u v e e'=>?_⟩
 rcases Nat.lt_or_ge j us.length with hj | hj
 ·rw [jYc hj] at e
  rw [jYc (by rw [← h.1];exact hj)] at e'
  exact h.2 j u v e e'
 ·rw [jQd hj] at e
  rw [jQd (by rw [← h.1];exact hj),← h.1] at e'
  exact h'.2 _ u v e e'
theorem Qbu {K:Fg} {H:Hp} {us vs:List V} {B:List BR} (h:RowsB H us B) (h':RowsB H vs B) (hg:∀ r ∈ B,r.gn):Cps K H us vs:=⟨by rw [h.length,h'.length],fun j u v e e'=>by
 obtain ⟨r,l,er,rfl,hl⟩:=h.get e
 obtain ⟨r',l',er',rfl,hl'⟩:=h'.get e'
 rw [er] at er'
 cases er'
 exact .inr ⟨l,l',_,rfl,rfl,hl,hl',xW (Yy r) (by decide),Qak (hg r (yX er))⟩⟩
theorem Qpd {K:Fg} {H:Hp} {v:V} (h:RowV K H v):Cps K H [v] [v]:=⟨rfl,fun j u w e e'=>by
 rw [e] at e'
 cases e'
 rcases j with _ | j
 ·cases e;exact Cp.refl h
 ·cases e⟩
theorem scLLa:FnScope ["_law_book_here","_law_deed_here","_law_word","_law_place","_law_row"] ["_law_book_here","_law_deed_here"] (Qh sLLa):=⟨rfl,rfl,rfl,by decide +kernel,rfl,by decide +kernel,by decide +kernel⟩
theorem okLLa  (F:Fn K mg "_law_laid" sLLa) (M:Mg mg):Cal P w K mg base 1 "_law_laid" ["_law_book_here","_law_deed_here"] (Qmw K):=by
 refine Xv F scLLa (fun _ _ _ _ _ _=>We (fun _ _=>rfl)) (fun vs H Q E h=>?_) (fun f cdv A outer s H vs Q E hr h=>?_)
 ·obtain ⟨b,t,us,B,wd,k,row,rfl,_⟩:=h
  rfl
 obtain ⟨b,t,us,B,wd,k,row,rfl,hb,hB,hBl,ht,hk,hh⟩:=h
 refine ⟨_,(Qe (Qlx (pv 1) (Qlw rfl (Jv (Xb (i:=2) scLLa.nd rfl (Or.inl rfl) (Or.inl rfl)) (Jv (Xb (i:=3) scLLa.nd rfl (Or.inl rfl) (Or.inl rfl)) (Jv (Xb (i:=4) scLLa.nd rfl (Or.inl rfl) (Or.inl rfl)) Qgv)))))
  (Qe (Xm (Qr Xy (pv 2) Qx (Qu _)) (Qi (Xa (Qcq ["_law_one"] [none] rfl (Ye (Qj Jp (Xu Yn (pv 0) Ym (Yf (pv 3))) (Xu Yn (pv 0) (Yf (Qj Qo (pv 3) Qb)) Ym))) (fun _ _ _=>(Xb (i:=0) (show (["_law_one"]:List Str).Nodup by decide +kernel) rfl (Or.inl rfl) (Or.inr rfl))) (fun _ _ _=>Zd) (fun _ _ _=>(Yc (Ya (K:=K) rfl) rfl M.list_ Zt (Qa (pv 0) Qg)))))) Qt)
  (Qi (Xa (Qj Jp (Qj Jp (Qcq ["_law_one"] [none] rfl (Ye (Xu Yn (pv 0) Ym (Yf (pv 3)))) (fun _ _ _=>(Xb (i:=0) (show (["_law_one"]:List Str).Nodup by decide +kernel) rfl (Or.inl rfl) (Or.inr rfl))) (fun _ _ _=>Zd) (fun _ _ _=>(Yc (Ya (K:=K) rfl) rfl M.list_ Zt (Qa (pv 0) Qg)))) (Xi (Qa (pv 4) Qg))) (Qcq ["_law_one"] [none] rfl (Ye (Xu Yn (pv 0) (Yf (pv 3)) Ym)) (fun _ _ _=>(Xb (i:=0) (show (["_law_one"]:List Str).Nodup by decide +kernel) rfl (Or.inl rfl) (Or.inr rfl))) (fun _ _ _=>Zd) (fun _ _ _=>(Yc (Ya (K:=K) rfl) rfl M.list_ Zt (Qa (pv 0) Qg))))))))),?_⟩
 refine Kc ?_
 intro rT3 rT2
 have hz:(2000000:Nat) < sizeLine:=by decide
 have hul:=hB.length
 refine ⟨_,rfl,t,_,rfl,ht,rfl,_,_,rfl,_,_,rfl,_,_,rfl,rfl,?_⟩
 rcases hh with ⟨rfl,q⟩ | ⟨rfl,q⟩
 ·refine ⟨_,rfl,rfl,_,rfl,?_⟩
  rw [show decide (V.str ("take":Str)=V.str ("take":Str))=true from yesS _]
  refine iteT ?_
  refine ⟨_,rfl,_,rfl,_,rfl,b,us,rfl,Qc hb,fun p1 hp1=>?_⟩
  rw [Qfe hk]
  have s1:=Qf hp1 (.lst (us.take k))
  have e1:upd H p1 (.lst (us.take k)) p1=some (.lst (us.take k)):=Qd
  generalize upd H p1 (.lst (us.take k))=H1 at s1 e1 ⊢
  refine ⟨_,rfl,_,rfl,_,_,rfl,rfl,_,rfl,b,us,rfl,Qc (s1 _ _ hb),fun p4 hp4=>?_⟩
  dsimp only
  obtain ⟨xs4,hx4,e40⟩:∃ xs,cutV us (some ((k:Int) + 1)) none=xs/\xs=us.drop (k + 1):=⟨_,rfl,by
   unfold cutV
   rw [HT.sIx_none,show (k:Int) + 1=((k + 1:Nat):Int) from rfl,HT.sIx_nat]
   rcases Nat.lt_or_ge k us.length with h | h
   ·rw [xK (by lia)]
    exact jYa (by rw [zK];lia)
   ·rw [Nat.min_eq_right (by lia),List.drop_of_length_le (kQ _),List.drop_of_length_le (by lia)]
    exact List.take_nil⟩
  rw [hx4,e40]
  clear hx4 e40 xs4
  have s4:=Qf hp4 (.lst (us.drop (k + 1)))
  have e4:upd H1 p4 (.lst (us.drop (k + 1))) p4=some (.lst (us.drop (k + 1))):=Qd
  generalize upd H1 p4 (.lst (us.drop (k + 1)))=H4 at s4 e4 ⊢
  refine ⟨p1,p4,_,_,rfl,rfl,s4 _ _ e1,e4,by rw [yW,zK];lia,fun p5 hp5=>?_⟩
  have s5:=Qf hp5 (.lst (us.take k ++ us.drop (k + 1)))
  have e5:upd H4 p5 (.lst (us.take k ++ us.drop (k + 1))) p5=some (.lst (us.take k ++ us.drop (k + 1))):=Qd
  generalize upd H4 p5 (.lst (us.take k ++ us.drop (k + 1)))=H5 at s5 e5 ⊢
  have s05:=(s1.trans s4).trans s5
  refine ⟨p5,rfl,⟨_,Qc e5⟩,fun D hD=>?_⟩
  refine Kt rfl e5 (((hB.take k).app (hB.drop (k + 1))).same s05) (by rw [jW,yW,zK];lia) hD (fun l xs H1 P hl hp=>⟨_,rfl,l,xs,rfl,.inl (Qc hl),hp⟩) fun H6 ys s6 h6 hB6 _=>?_
  exact q D H6 ys (s05.trans s6) h6 hB6
 ·refine ⟨_,rfl,rfl,_,rfl,?_⟩
  rw [show decide (V.str ("put":Str)=V.str ("take":Str))=false from zY fun h=>absurd (V.str.inj h) (by decide +kernel)]
  refine iteF ?_
  refine ⟨_,rfl,_,rfl,_,rfl,b,us,rfl,Qc hb,fun p1 hp1=>?_⟩
  rw [Qfe hk]
  have s1:=Qf hp1 (.lst (us.take k))
  have e1:upd H p1 (.lst (us.take k)) p1=some (.lst (us.take k)):=Qd
  generalize upd H p1 (.lst (us.take k))=H1 at s1 e1 ⊢
  refine ⟨p1,rfl,⟨_,Qc e1⟩,fun D hD=>?_⟩
  refine Kt rfl e1 ((hB.take k).same s1) (by rw [yW];lia) hD (fun l xs H1 P hl hp=>⟨_,rfl,l,xs,rfl,.inl (Qc hl),hp⟩) fun H2 ws s2 h2 hB2 _=>?_
  have s02:=s1.trans s2
  refine ⟨_,rfl,by show 1<=sizeLine;decide,fun p3 hp3=>?_⟩
  have s3:=Qf hp3 (.lst [row])
  have e3:upd H2 p3 (.lst [row]) p3=some (.lst [row]):=Qd
  generalize upd H2 p3 (.lst [row])=H3 at s3 e3 ⊢
  have l2:=hB2.length
  rw [yW] at l2
  refine ⟨D,p3,_,_,rfl,rfl,s3 _ _ h2,e3,by show _ + 1<=_;lia,fun p4 hp4=>?_⟩
  have s4:=Qf hp4 (.lst (ws ++ [row]))
  have e4:upd H3 p4 (.lst (ws ++ [row])) p4=some (.lst (ws ++ [row])):=Qd
  generalize upd H3 p4 (.lst (ws ++ [row]))=H4 at s4 e4 ⊢
  have s04:=(s02.trans s3).trans s4
  refine ⟨_,rfl,_,rfl,_,rfl,b,us,rfl,Qc (s04 _ _ hb),fun p5 hp5=>?_⟩
  rw [Qjo hk]
  have s5:=Qf hp5 (.lst (us.drop k))
  have e5:upd H4 p5 (.lst (us.drop k)) p5=some (.lst (us.drop k)):=Qd
  generalize upd H4 p5 (.lst (us.drop k))=H5 at s5 e5 ⊢
  have s05:=s04.trans s5
  refine ⟨p5,rfl,⟨_,Qc e5⟩,fun D2 hD2=>?_⟩
  refine Kt rfl e5 ((hB.drop k).same s05) (by rw [zK];lia) hD2 (fun l xs H1 P hl hp=>⟨_,rfl,l,xs,rfl,.inl (Qc hl),hp⟩) fun H6 zs s6 h6 hB6 _=>?_
  have l6:=hB6.length
  rw [zK] at l6
  have s06:=s05.trans s6
  have s46:=s5.trans s6
  refine ⟨p4,D2,_,_,rfl,rfl,s46 _ _ e4,h6,by rw [jW];show _ + 1 + _<=_;lia,fun p7 hp7=>?_⟩
  have s7:=Qf hp7 (.lst (ws ++ [row] ++ zs))
  exact q p7 _ ws zs (s06.trans s7) Qd (hB2.same (((s3.trans s4).trans s46).trans s7)) (hB6.same s7)
theorem scLSt:FnScope ["_law_desk","_law_past","_law_deed_here","_law_book_here","_law_caught","_law_laid_here","_law_wrong"] ["_law_desk","_law_past","_law_deed_here"] (Qh sLSt):=⟨rfl,rfl,rfl,by decide +kernel,rfl,by decide +kernel,by decide +kernel⟩
theorem okLSt {C D CN CS CD:Addr} (EK:ExK K mg C D CN CS) (F:Fn K mg "_law_step" sLSt) (M:Mg mg) (cl_done:Cal P w K mg base 7 "_law_done" ["_law_desk","_law_deed_here"] (Qmv K C CS CD)) (cl_named:Cal P w K mg base 2 "_law_named" ["_law_caught","_law_name_here","_law_row"] (Qed C CS)) (cl_laid:Cal P w K mg base 1 "_law_laid" ["_law_book_here","_law_deed_here"] (Qmw K)) (cl_looked:Cal P w K mg base 5 "_law_looked" ["_law_book_here"] (Ws K C)):Cal P w K mg base 8 "_law_step" ["_law_desk","_law_past","_law_deed_here"] (Qmx K C CS CD):=by
 refine Xv F scLSt (fun _ _ _ _ _ _=>Qgc (fun _ _ _=>rfl)) (fun vs H Q E h=>?_) (fun f cdv A outer s H vs Q E hr h=>?_)
 ·obtain ⟨dk,bl,pl,t,av,S,n,wd,z,row,rfl,_⟩:=h
  rfl
 obtain ⟨dk,bl,pl,t,av,S,n,wd,z,row,rfl,ht,hP,hS,hn,hwd,q⟩:=h
 refine ⟨_,(Qe (Qs (i:=3) scLSt.nd rfl (Or.inl rfl) (Qp Qk (pv 1) (Ww Jo Qb) (fun _ _=>rfl)))
  (Qe (Qs (i:=4) scLSt.nd rfl (Or.inl rfl) (Xz cl_done (hr.mono (by decide)) (Qa (pv 0) (Qa (pv 2) Qg))))
  (Qe (Xm (Qr Xy (Qp Yg (pv 2) Qb (fun _ _=>rfl)) Qx (Qu _)) (Qe (Xm (Qr Xy (Qm Qn rfl M.len Xp (Qa (pv 1) Qg)) Qb (Qu _)) (Qi (Xa (Xz cl_named (hr.mono (by decide)) (Qa (pv 4) (Qa Qx (Qa Qb Qg)))))) Qt)
  (Qe (Xg (Qhk PySem.F.plainAttrs_list PySem.F.slot_list_pop PySem.F.type_list_pop Qme (pv 1)))
  (Qi (Xa (Zk Qej (pv 4) Zy (Qu _)))))) Qt)
  (Qe (Xm (PW.pt (Wv (Qr Qhc (Qp Yg (pv 2) Qb (fun _ _=>rfl)) Qb (Qu _)) (Wv (Qr op_gt (Qp Yg (pv 2) Qb (fun _ _=>rfl)) (Qm Qn rfl M.len Xp (Qa (pv 3) Qg)) (Qu _)) (Vm (PW.pt (Qby (Qr Xy (Qp Yg (pv 2) Qb (fun _ _=>rfl)) Qx (Qu _)) (Vl (Qr Xy (Qp Yg (pv 2) Qb (fun _ _=>rfl)) (Qm Qn rfl M.len Xp (Qa (pv 3) Qg)) (Qu _))))))))) (Qi (Xa (Xz cl_named (hr.mono (by decide)) (Qa (pv 4) (Qa Qx (Qa (Qp Yg (pv 2) Qb (fun _ _=>rfl)) Qg)))))) Qt)
  (Qe (Qs (i:=5) scLSt.nd rfl (Or.inl rfl) (Xz cl_laid (hr.mono (by decide)) (Qa (pv 3) (Qa (pv 2) Qg))))
  (Qe (Qs (i:=6) scLSt.nd rfl (Or.inl rfl) (Xz cl_looked (hr.mono (by decide)) (Qa (pv 5) Qg)))
  (Qe (Xm (Qr Qdh (pv 6) Zy (Qu _)) (Qi (Xa (Xz cl_named (hr.mono (by decide)) (Qa (pv 4) (Qa Qx (Qa (Qbl (pv 6) rfl) Qg)))))) Qt)
  (Qe (Xg (Zs PySem.F.plainAttrs_list PySem.F.slot_list_append PySem.F.type_list_append Xc (pv 1) (Qa (Qcq ["_law_one"] [none] rfl (Ye (pv 5)) (fun _ _ _=>(Xb (i:=0) (show (["_law_one"]:List Str).Nodup by decide +kernel) rfl (Or.inl rfl) (Or.inr rfl))) (fun _ _ _=>Zd) (fun _ _ _=>(Yc (Ya (K:=K) rfl) rfl M.list_ Zt (Qa (pv 0) Qg)))) Qg)))
  (Qi (Xa (Zk Qej (pv 4) Zy (Qu _)))))))))))),?_⟩
 refine Qkx ?_
 intro rT9 rT8 rT7 rT6 rT5 rT4 rT3 rT2
 have hz:(2000000:Nat) < sizeLine:=by decide
 obtain ⟨S0,B,rfl,hBne,hG,hBl⟩:=hP.gd.last
 obtain ⟨as,a,hpl,npa,nas,hpp,hba⟩:=hP.ps.last
 obtain ⟨nba,up,ha,hBp,hnp⟩:=id hba
 obtain ⟨ud,hT⟩:=top_of hP.dk.2.2
 obtain ⟨xd,ad,hbl,had,hBd⟩:=id hT
 obtain ⟨asd,add,hbl2,_⟩:=hP.dk.2.2.last
 have hblr:H bl=some (.lst ((asd ++ [add]).map V.ref)):=by rw [hbl2,xY];rfl
 have hgn:=Ju hG
 have lp:=hBp.length
 have ld:=hBd.length
 have lS0:S0.length<=20:=by rw [jW] at hS;have h9:S0.length + 1<=20:=hS;lia
 have hav1:∀ x ∈ pl :: av,H x ≠ none:=fun x hx=>by
  rcases jJ.mp hx with rfl | hx
  ·rw [hpl];exact xX _
  ·exact hP.al x hx
 have a0:atI [V.str wd,V.int z,row] 0=some (.str wd):=Zn (k:=0) rfl
 have a1:atI [V.str wd,V.int z,row] 1=some (.int z):=Zn (k:=1) rfl
 refine ⟨_,rfl,_,rfl,pl,_,_,_,rfl,rfl,Qc hpl,Yw _ _,?_⟩
 refine ⟨_,rfl,_,rfl,dk,bl,t,pl :: av,S0,B,ud,wd,z,row,rfl,ht,hP.dk,hT,hav1,by lia,by lia,hgn,?_⟩
 have a_ne:∀ {H1:Hp},Fr [bl] H H1->H1 a=some (.lst up):=fun f1=>f1 _ _ (fun z=>nba (jJ.mpr (.inl (jQ.mp z)))) ha
 have pl_ne:∀ {H1:Hp},Fr [bl] H H1->H1 pl=some (.lst (as.map V.ref ++ [.ref a])):=fun f1=>f1 _ _ (fun z=>hP.ps.1 (jJ.mpr (.inl (jQ.mp z)))) hpl
 -- the book is done,and the law keeps its copy
 have done:∀ (A':List BR) (H1 H3 H4:Hp) (D:Addr) (ys:List V),A' ≠ []->Good A'->A'.length<=n + 1->Fr [bl] H H1->DkAt H1 CD (pl :: av) dk bl (S0 ++ [B] ++ [A'])->Same H1 H3->Same H3 H4->H3 D=none->H4 D=some (.lst ys)->RowsB H4 ys A'->(∀ l,V.ref l ∈ ys->H3 l=none)->Q (.bl true) (upd H4 pl (.lst (as.map V.ref ++ [.ref a] ++ [.ref D]))):=fun A' H1 H3 H4 D ys hne hGA hlA f1 hD1 s3 s4 hD h4 hB4 hn4=>by
  have s14:=s3.trans s4
  obtain ⟨nb1,asb,eb1,_⟩:=id hD1.2.2
  have f9:Fr (bl :: av) H H4:=(f1.mono fun x hx=>jJ.mpr (.inl (jQ.mp hx))).trans (Qy s14)
  have hp4:H4 pl=some (.lst ((as ++ [a]).map V.ref)):=by rw [s14 _ _ (pl_ne f1),xY];rfl
  have al1:=Qmy hP.al f1 eb1
  have hpl':Paired (BkA H4 (bl :: av)) (as ++ [a]) (S0 ++ [B]):=Paired.snoc (Paired.mapP hpp fun a b z=>z.fr f9) (hba.fr f9)
  have al3:∀ x ∈ bl :: av,H3 x ≠ none:=fun x hx=>by
   rcases jJ.mp hx with rfl | hx
   ·rw [s3 _ _ eb1];exact xX _
   ·exact nn s3 (al1 x hx)
  have hst:=Stk.push (a:=D) hP.ps.1 hp4 (fun z=>by
   rcases yQ.mp z with z | z
   ·exact nas z
   ·exact npa (jQ.mp z)) hpl' (fun e=>by have h9:=s3 _ _ (pl_ne f1);rw [e,hD] at h9;cases h9) (BkN.av ⟨hD,ys,h4,hB4,hn4⟩ al3)
  rw [xY] at hst
  refine q _ _ ((fr1 (f1.trans (Qy s14))).trans (Jq (by simp))) ⟨(hD1.fr (Qy s14)).fr (Jq jX),hst,fun x hx=>?_,(hP.gd.mono (jZa _)).snoc hne hGA hlA⟩ (by simp)
  by_cases c9:x=pl
  ·rw [c9,Qd];exact xX _
  ·rw [Ql c9];exact nn s14 (al1 x hx)
 have bkw:wd ≠ "back"->decide (V.str wd=V.str ("back":Str))=false:=fun h=>zY fun e=>h (V.str.inj e)
 have fin:∀ H2,Same H H2->Q (.bl true) H2:=fun H2 s2=>q H2 _ (Qy s2) ⟨(hP.same s2).dk,(hP.same s2).ps,(hP.same s2).al,hP.gd.mono (jZa _)⟩ (jZa _)
 rcases hwd with ⟨rfl,hrow⟩ | rfl | rfl
 ·refine .inl ⟨rfl,hrow.row,?_⟩
  by_cases hr2:z < 0\/(ud.length:Int) < z
  ·refine .inl ⟨hr2,fun e H1 s1 hN=>?_⟩
   refine ⟨_,rfl,t,_,_,_,rfl,rfl,s1.tup ht,a0,rfl,_,rfl,?_⟩
   rw [bkw (by decide +kernel)]
   refine iteF ?_
   refine ⟨_,rfl,t,_,_,_,rfl,rfl,s1.tup ht,a1,_,_,rfl,rfl,_,rfl,ite2 (fun c=>?_) (fun c=>?_)⟩
   ·exact iteT ⟨_,rfl,_,rfl,t,_,_,_,rfl,rfl,s1.tup ht,a1,e,"book",z,rfl,hN,fun H2 s2=>fin H2 (s1.trans s2)⟩
   ·refine ⟨_,rfl,t,_,_,_,rfl,rfl,s1.tup ht,a1,_,rfl,a,_,rfl,.inl (Qc (s1 _ _ ha)),_,_,rfl,rfl,_,rfl,ite2 (fun c2=>?_) (fun c2=>?_)⟩
    ·exact iteT ⟨_,rfl,_,rfl,t,_,_,_,rfl,rfl,s1.tup ht,a1,e,"book",z,rfl,hN,fun H2 s2=>fin H2 (s1.trans s2)⟩
    ·exfalso
     rcases hr2 with h | h
     ·exact c (yV h)
     ·exact c2 (yV (by rw [lp,← ld];exact h))
  ·obtain ⟨k,rfl,hk⟩:∃ k:Nat,z=(k:Int)/\k<=ud.length:=⟨z.toNat,by lia,by lia⟩
   refine .inr ⟨k,rfl,hk,?_⟩
   clear hr2
   have hkp:k<=up.length:=by lia
   have hVd:∀ v ∈ ud.take k ++ [row] ++ ud.drop k,RowV K H v:=fun v hv=>by
    have hus:=Qal (K:=K) hBd hgn
    rcases yQ.mp hv with hv | hv
    ·rcases yQ.mp hv with hv | hv
     ·exact hus v (wZ hv)
     ·rw [jQ.mp hv];exact hrow.row
    ·exact hus v (jQb hv)
   -- behind the deed the law lays its own list
   have mid:∀ (v4:V) (H1:Hp),SqT K H1 t [.str "put",.int (k:Int),row]->H1 a=some (.lst up)->RowsB H1 up B->(∀ g H2 ws zs,Same H1 H2->H2 g=some (.lst (ws ++ [row] ++ zs))->RowsB H2 ws (B.take k)->RowsB H2 zs (B.drop k)->rT6 { nx:=fun x H'=>Q V.non H',rt:=Q } [some (.ref dk),some (.ref pl),some (.ref t),some (.ref a),some v4,some (.ref g),none] H2)->rT3 { nx:=fun x H'=>Q V.non H',rt:=Q } [some (.ref dk),some (.ref pl),some (.ref t),some (.ref a),some v4,none,none] H1:=fun v4 H1 ht1 ha1 hB1 h=>by
    refine ⟨_,rfl,t,_,_,_,rfl,rfl,ht1,a0,rfl,_,rfl,?_⟩
    rw [bkw (by decide +kernel)]
    refine iteF ?_
    refine ⟨_,rfl,t,_,_,_,rfl,rfl,ht1,a1,_,_,rfl,rfl,_,rfl,ite2 (fun c=>absurd (yK c) (by show ¬ ((k:Int) < 0);lia)) (fun _=>?_)⟩
    refine ⟨_,rfl,t,_,_,_,rfl,rfl,ht1,a1,_,rfl,a,_,rfl,.inl (Qc ha1),_,_,rfl,rfl,_,rfl,ite2 (fun c=>absurd (yK c) (by show ¬ ((up.length:Int) < (k:Int));lia)) (fun _=>?_)⟩
    refine ⟨_,rfl,t,_,_,_,rfl,rfl,ht1,a0,rfl,_,rfl,?_⟩
    rw [show decide (V.str ("put":Str)=V.str ("take":Str))=false from zY fun h=>absurd (V.str.inj h) (by decide +kernel)]
    refine iteF (iteF ?_)
    exact ⟨_,rfl,_,rfl,a,t,up,B,"put",k,row,rfl,ha1,hB1,by lia,ht1,hkp,.inr ⟨rfl,h⟩⟩
   rcases Qpa H (ud.take k ++ [row] ++ ud.drop k) with ⟨i,hLB⟩ | ⟨A',hne,hGA,hBA⟩
   ·refine .inl ⟨(i:Int),hLB,fun e H1 s1 hN=>?_⟩
    refine mid (.ref e) H1 (s1.tup ht) (s1 _ _ ha) (hBp.same s1) fun g H2 ws zs s2 hg hw hzs=>?_
    have s12:=s1.trans s2
    have hc:Cps K H2 (ud.take k ++ [row] ++ ud.drop k) (ws ++ [row] ++ zs):=((Qbu ((hBd.take k).same s12) hw (fun r hr=>hgn r (wZ hr))).app (Qpd (hrow.row.same s12))).app (Qbu ((hBd.drop k).same s12) hzs (fun r hr=>hgn r (jQb hr)))
    have hL2:=Qoz hLB hVd s12 hc
    have lc:=hc.1
    refine ⟨_,rfl,g,_,rfl,hg,fun v hv=>?_,by rw [← lc];simp only [jW,yW,zK,zJ,jZd];lia,lb_c hL2 (fun e=>nomatch e) fun z' ez=>?_⟩
    ·obtain ⟨j,ej⟩:=jXa.mp hv
     have hj:=(kZ.mp ej).1
     exact (hc.2 j _ v (gE (by rw [lc];exact hj)) ej).row
    cases ez
    rintro e2 dx2 H3 s3 he2 hdx2
    refine ⟨_,rfl,rfl,_,rfl,iteT ?_⟩
    exact ⟨_,rfl,_,rfl,e2,C,dx2,_,.int (i:Int),rfl,he2,hdx2,EK.xf,rfl,e,"book",(i:Int),rfl,hN.same (s2.trans s3),fun H4 s4=>fin H4 ((s12.trans s3).trans s4)⟩
   ·refine .inr ⟨A',hne,hGA,hBA,fun H1 f1 hD1=>?_⟩
    obtain ⟨r,lr,er,rfl,hlr⟩:∃ r lr,A'[k]?=some r/\row=.ref lr/\H lr=some (.lst (r.cells.map kV)):=hBA.get (i:=k) (by rw [List.append_assoc,jQd (by rw [yW];lia),yW,xK hk,Nat.sub_self];rfl)
    have eA:A'=B.take k ++ [r] ++ B.drop k:=Wt hBA (((hBd.take k).snoc hlr).app (hBd.drop k))
    have hlr1:H1 lr=some (.lst (r.cells.map kV)):=f1 _ _ (fun w=>by rw [jQ.mp w,hblr] at hlr;exact Jj (Kr _) r (HO.lst.inj (Option.some.inj hlr)).symm) hlr
    have hA0:A' ≠ []:=fun e=>hne (zZ (by rw [hBA.length,e];rfl))
    have lA:A'.length<=n + 1:=by rw [eA];simp only [jW,yW,zK,zJ,jZd];lia
    refine mid .non H1 (Qjp ht f1 hblr) (a_ne f1) (f1.rows hblr hBp) fun g H2 ws zs s2 hg hw hzs=>?_
    have hBL:RowsB H2 (ws ++ [.ref lr] ++ zs) A':=by rw [eA];exact (hw.snoc (s2 _ _ hlr1)).app hzs
    have lL:=hBL.length
    refine ⟨_,rfl,g,_,rfl,hg,Qal hBL (Ju hGA),by lia,lb_c (.ok (fun e=>hA0 (zZ (by rw [← lL,e];rfl))) hGA hBL) (fun _ H3 s3=>?_) (fun z e=>nomatch e)⟩
    refine ⟨_,rfl,rfl,_,rfl,iteF ?_⟩
    have s13:=s2.trans s3
    have hpl3:=s13 _ _ (pl_ne f1)
    refine ⟨_,rfl,.inl ⟨rfl,_,Qc hpl3⟩,_,rfl,g,rfl,⟨_,Qc (s3 _ _ hg)⟩,fun D hD=>?_⟩
    refine Kt rfl (s3 _ _ hg) (hBL.same s3) (by lia) hD (fun l xs H1 P hl hp=>⟨_,rfl,l,xs,rfl,.inl (Qc hl),hp⟩) fun H4 ys s4 h4 hB4 hn4=>?_
    have lpp:=Paired.length hpp
    refine ⟨pl,_,_,rfl,rfl,s4 _ _ hpl3,by rw [jW,jK];show _ + 1 < _;lia,?_⟩
    exact ⟨_,rfl,rfl,done A' H1 H3 H4 D ys hA0 hGA lA f1 hD1 s13 s4 hD h4 hB4 hn4⟩
 ·refine .inr (.inl ⟨rfl,?_⟩)
  by_cases hr2:z < 0\/(ud.length:Int)<=z
  ·refine .inl ⟨hr2,fun e H1 s1 hN=>?_⟩
   refine ⟨_,rfl,t,_,_,_,rfl,rfl,s1.tup ht,a0,rfl,_,rfl,?_⟩
   rw [bkw (by decide +kernel)]
   refine iteF ?_
   have yes:∀ H9,Same H H9->H9=H1->True:=fun _ _ _=>trivial
   refine ⟨_,rfl,t,_,_,_,rfl,rfl,s1.tup ht,a1,_,_,rfl,rfl,_,rfl,ite2 (fun c=>?_) (fun c=>?_)⟩
   ·exact iteT ⟨_,rfl,_,rfl,t,_,_,_,rfl,rfl,s1.tup ht,a1,e,"book",z,rfl,hN,fun H2 s2=>fin H2 (s1.trans s2)⟩
   ·refine ⟨_,rfl,t,_,_,_,rfl,rfl,s1.tup ht,a1,_,rfl,a,_,rfl,.inl (Qc (s1 _ _ ha)),_,_,rfl,rfl,_,rfl,ite2 (fun c2=>?_) (fun c2=>?_)⟩
    ·exact iteT ⟨_,rfl,_,rfl,t,_,_,_,rfl,rfl,s1.tup ht,a1,e,"book",z,rfl,hN,fun H2 s2=>fin H2 (s1.trans s2)⟩
    ·refine ⟨_,rfl,t,_,_,_,rfl,rfl,s1.tup ht,a0,rfl,_,rfl,?_⟩
     rw [show decide (V.str ("take":Str)=V.str ("take":Str))=true from yesS _]
     refine iteT ?_
     refine ⟨_,rfl,t,_,_,_,rfl,rfl,s1.tup ht,a1,_,rfl,a,_,rfl,.inl (Qc (s1 _ _ ha)),rfl,_,rfl,ite2 (fun c3=>?_) (fun c3=>?_)⟩
     ·exact ⟨_,rfl,_,rfl,t,_,_,_,rfl,rfl,s1.tup ht,a1,e,"book",z,rfl,hN,fun H2 s2=>fin H2 (s1.trans s2)⟩
     ·exfalso
      have c1':¬ z < 0:=fun h=>c (yV h)
      have c2':¬ (up.length:Int) < z:=fun h=>c2 (yV h)
      exact c3 (yV (by congr 1;lia))
  ·obtain ⟨k,rfl,hk⟩:∃ k:Nat,z=(k:Int)/\k < ud.length:=⟨z.toNat,by lia,by lia⟩
   refine .inr ⟨k,rfl,hk,?_⟩
   clear hr2
   have hkp:k < up.length:=by lia
   have hVd:∀ v ∈ ud.take k ++ ud.drop (k + 1),RowV K H v:=fun v hv=>by
    have hus:=Qal (K:=K) hBd hgn
    rcases yQ.mp hv with hv | hv
    ·exact hus v (wZ hv)
    ·exact hus v (jQb hv)
   have mid:∀ (v4:V) (H1:Hp),SqT K H1 t [.str "take",.int (k:Int),row]->H1 a=some (.lst up)->RowsB H1 up B->(∀ g H2 ws,Same H1 H2->H2 g=some (.lst ws)->RowsB H2 ws (B.take k ++ B.drop (k + 1))->rT6 { nx:=fun x H'=>Q V.non H',rt:=Q } [some (.ref dk),some (.ref pl),some (.ref t),some (.ref a),some v4,some (.ref g),none] H2)->rT3 { nx:=fun x H'=>Q V.non H',rt:=Q } [some (.ref dk),some (.ref pl),some (.ref t),some (.ref a),some v4,none,none] H1:=fun v4 H1 ht1 ha1 hB1 h=>by
    refine ⟨_,rfl,t,_,_,_,rfl,rfl,ht1,a0,rfl,_,rfl,?_⟩
    rw [bkw (by decide +kernel)]
    refine iteF ?_
    refine ⟨_,rfl,t,_,_,_,rfl,rfl,ht1,a1,_,_,rfl,rfl,_,rfl,ite2 (fun c=>absurd (yK c) (by show ¬ ((k:Int) < 0);lia)) (fun _=>?_)⟩
    refine ⟨_,rfl,t,_,_,_,rfl,rfl,ht1,a1,_,rfl,a,_,rfl,.inl (Qc ha1),_,_,rfl,rfl,_,rfl,ite2 (fun c=>absurd (yK c) (by show ¬ ((up.length:Int) < (k:Int));lia)) (fun _=>?_)⟩
    refine ⟨_,rfl,t,_,_,_,rfl,rfl,ht1,a0,rfl,_,rfl,?_⟩
    rw [show decide (V.str ("take":Str)=V.str ("take":Str))=true from yesS _]
    refine iteT ?_
    refine ⟨_,rfl,t,_,_,_,rfl,rfl,ht1,a1,_,rfl,a,_,rfl,.inl (Qc ha1),rfl,_,rfl,ite2 (fun c=>?_) (fun _=>?_)⟩
    ·have e:=yK c
     injection e with e
     lia
    exact ⟨_,rfl,_,rfl,a,t,up,B,"take",k,row,rfl,ha1,hB1,by lia,ht1,kQc hkp,.inl ⟨rfl,h⟩⟩
   rcases Qpa H (ud.take k ++ ud.drop (k + 1)) with ⟨i,hLB⟩ | ⟨A',hne,hGA,hBA⟩
   ·refine .inl ⟨(i:Int),hLB,fun e H1 s1 hN=>?_⟩
    refine mid (.ref e) H1 (s1.tup ht) (s1 _ _ ha) (hBp.same s1) fun g H2 ws s2 hg hw=>?_
    have s12:=s1.trans s2
    have hc:Cps K H2 (ud.take k ++ ud.drop (k + 1)) ws:=Qbu (((hBd.take k).app (hBd.drop (k + 1))).same s12) hw (fun r hr=>by
     rcases yQ.mp hr with hr | hr
     ·exact hgn r (wZ hr)
     ·exact hgn r (jQb hr))
    have hL2:=Qoz hLB hVd s12 hc
    have lc:=hc.1
    refine ⟨_,rfl,g,_,rfl,hg,fun v hv=>?_,by rw [← lc];simp only [jW,yW,zK,zJ,jZd];lia,lb_c hL2 (fun e=>nomatch e) fun z' ez=>?_⟩
    ·obtain ⟨j,ej⟩:=jXa.mp hv
     have hj:=(kZ.mp ej).1
     exact (hc.2 j _ v (gE (by rw [lc];exact hj)) ej).row
    cases ez
    rintro e2 dx2 H3 s3 he2 hdx2
    refine ⟨_,rfl,rfl,_,rfl,iteT ?_⟩
    exact ⟨_,rfl,_,rfl,e2,C,dx2,_,.int (i:Int),rfl,he2,hdx2,EK.xf,rfl,e,"book",(i:Int),rfl,hN.same (s2.trans s3),fun H4 s4=>fin H4 ((s12.trans s3).trans s4)⟩
   ·refine .inr ⟨A',hne,hGA,hBA,fun H1 f1 hD1=>?_⟩
    have eA:A'=B.take k ++ B.drop (k + 1):=Wt hBA ((hBd.take k).app (hBd.drop (k + 1)))
    have hA0:A' ≠ []:=fun e=>hne (zZ (by rw [hBA.length,e];rfl))
    have lA:A'.length<=n + 1:=by rw [eA];simp only [jW,yW,zK,zJ,jZd];lia
    refine mid .non H1 (Qjp ht f1 hblr) (a_ne f1) (f1.rows hblr hBp) fun g H2 ws s2 hg hw=>?_
    have hBL:RowsB H2 ws A':=by rw [eA];exact hw
    have lL:=hBL.length
    refine ⟨_,rfl,g,_,rfl,hg,Qal hBL (Ju hGA),by lia,lb_c (.ok (fun e=>hA0 (zZ (by rw [← lL,e];rfl))) hGA hBL) (fun _ H3 s3=>?_) (fun z e=>nomatch e)⟩
    refine ⟨_,rfl,rfl,_,rfl,iteF ?_⟩
    have s13:=s2.trans s3
    have hpl3:=s13 _ _ (pl_ne f1)
    refine ⟨_,rfl,.inl ⟨rfl,_,Qc hpl3⟩,_,rfl,g,rfl,⟨_,Qc (s3 _ _ hg)⟩,fun D hD=>?_⟩
    refine Kt rfl (s3 _ _ hg) (hBL.same s3) (by lia) hD (fun l xs H1 P hl hp=>⟨_,rfl,l,xs,rfl,.inl (Qc hl),hp⟩) fun H4 ys s4 h4 hB4 hn4=>?_
    have lpp:=Paired.length hpp
    refine ⟨pl,_,_,rfl,rfl,s4 _ _ hpl3,by rw [jW,jK];show _ + 1 < _;lia,?_⟩
    exact ⟨_,rfl,rfl,done A' H1 H3 H4 D ys hA0 hGA lA f1 hD1 s13 s4 hD h4 hB4 hn4⟩
 ·refine .inr (.inr ⟨rfl,?_⟩)
  by_cases h0:S0=[]
  ·subst h0
   refine .inl ⟨rfl,fun e H1 s1 hN=>?_⟩
   refine ⟨_,rfl,t,_,_,_,rfl,rfl,s1.tup ht,a0,rfl,_,rfl,?_⟩
   rw [show decide (V.str ("back":Str)=V.str ("back":Str))=true from yesS _]
   refine iteT ?_
   have e9:as=[]:=zZ (Paired.length hpp)
   subst e9
   refine ⟨_,rfl,pl,_,rfl,.inl (Qc (s1 _ _ hpl)),rfl,_,rfl,iteT ?_⟩
   refine ⟨_,rfl,e,"step",0,rfl,hN,fun H2 s2=>?_⟩
   exact fin H2 (s1.trans s2)
  ·refine .inr ⟨h0,fun H1 f1 hD1=>?_⟩
   have ht1:SqT K H1 t [.str "back",.int z,row]:=Qjp ht f1 hbl
   have hpl1:H1 pl=some (.lst (as.map V.ref ++ [.ref a])):=f1 _ _ (fun z=>hP.ps.1 (jJ.mpr (.inl (jQ.mp z)))) hpl
   refine ⟨_,rfl,t,_,_,_,rfl,rfl,ht1,a0,rfl,_,rfl,?_⟩
   rw [show decide (V.str ("back":Str)=V.str ("back":Str))=true from yesS _]
   refine iteT ?_
   refine ⟨_,rfl,pl,_,rfl,.inl (Qc hpl1),rfl,_,rfl,ite2 (fun c=>?_) (fun c=>?_)⟩
   ·have e:=yK c
    injection e with e
    rw [jW,jK,Paired.length hpp] at e
    exact absurd (jQa.mp (show S0.length=0 by have e':((S0.length + 1:Nat):Int)=1:=e;lia)) h0
   ·refine ⟨_,rfl,.inl ⟨rfl,_,Qc hpl1⟩,pl,_,_,rfl,rfl,hpl1,by rw [jW];exact List.getElem?_concat_length,?_⟩
    have f9:Fr (bl :: av) H H1:=f1.mono fun x hx=>jJ.mpr (.inl (jQ.mp hx))
    refine ⟨_,rfl,rfl,q _ S0 ?_ ⟨hD1.fr (Jq jX),Stk.pop hP.ps.1 hpl1 nas (Paired.mapP hpp fun a b z=>z.fr f9),fun x hx=>?_,(hP.gd.init h0).mono (jZa _)⟩ (by rw [jW];lia)⟩
    ·exact (fr1 f1).trans (Jq (by simp))
    ·obtain ⟨_,as9,e9,_⟩:=hD1.2.2
     have h9:=Qmy hP.al f1 e9 x hx
     by_cases c9:x=pl
     ·rw [c9,Qd];exact xX _
     ·rw [Ql c9];exact h9
abbrev sLNd:Stmt:=top 160
def Qff:Sp:=fun vs H Q _=>∃ (b:Addr) (us:List V) (B:List BR),vs=[.ref b]/\H b=some (.lst us)/\RowsB H us B/\Good B/\B.length<=5000/\∀ H',Same H H'->Q (.bl true) H'
def BadL (H:Hp) (v:V):Prop:=∃ l ws,v=.ref l/\H l=some (.lst ws)/\(∀ w ∈ ws,RowF H w)/\ws.length<=100000
theorem Xw {H H':Hp} (s:Same H H'):Keep H H':=fun l xs=>⟨s _ _,s _ _⟩
theorem BadL.same {H H':Hp} {v:V} (h:BadL H v) (s:Same H H'):BadL H' v:=by obtain ⟨l,ws,e,hl,hw,hn⟩:=h;exact ⟨l,ws,e,s _ _ hl,fun w hm=>(hw w hm).keep (Xw s),hn⟩
theorem Qjq {H:Hp} {us:List V} {B:List BR} (h:RowsB H us B) (hg:∀ r ∈ B,r.gn):∀ v ∈ us,RowF H v:=fun v hv=>by
 obtain ⟨i,e⟩:=jXa.mp hv
 obtain ⟨r,l,er,rfl,hl⟩:=h.get e
 refine .inr ⟨l,r.cells,rfl,hl,?_,fun k hk=>?_⟩
 ·have:=Yy r
  rw [jK] at this
  lia
 ·unfold BR.cells BR.key at hk
  rcases yQ.mp hk with h1 | h1
  ·rcases jJ.mp h1 with rfl | h1
   ·exact Kq r
   ·obtain ⟨x,hx,rfl⟩:=jQe.mp h1
    exact Vh (hg r (yX er) x hx)
  ·obtain ⟨x,hx,rfl⟩:=jQe.mp h1
   exact trivial
theorem BadL.upd {H:Hp} {l g x:Addr} {r zs:List V} (h:BadL H (.ref l)) (hg:H g=some (.lst (.ref x :: r))) (n:l ≠ g):BadL (L2.upd H g (.lst zs)) (.ref l):=by
 obtain ⟨l',ws,e,hl,hw,hn⟩:=h
 cases e
 refine ⟨l,ws,rfl,by rw [Ql n];exact hl,fun w hm=>?_,hn⟩
 rcases hw w hm with ⟨l2,xs,e2,h2⟩ | ⟨l2,ks,e2,h2,h3⟩
 ·exact .inl ⟨l2,xs,e2,by rw [Ql (Qam h2 hg (by intro z;cases z))];exact h2⟩
 ·have n2:l2 ≠ g:=Qam h2 hg fun z=>by
   have z':=HO.lst.inj z
   cases ks with
   | nil=>cases z'
   | cons k ks=>cases k <;> cases z'
  exact .inr ⟨l2,ks,e2,by rw [Ql n2];exact h2,h3⟩
theorem Qmz {H:Hp} {a b:Addr} {o:HO} (h:H a=some o) (h':H b=none):a ≠ b:=fun z=>by rw [z,h'] at h;cases h
theorem Yj {H H':Hp} {x:Addr} (s:Same H H') (h:H' x=none):H x=none:=by
 cases e:H x with
 | none=>rfl
 | some o=>rw [s _ _ e] at h;cases h
theorem Qbv {H:Hp} {l:Addr} (ks:List Key) (h:H l=some (.lst (ks.map kV))) (hn:ks.length<=1000) (hk:ks.all (fun k=>match k with | .inl _=>true | .inr x=>x.cps.all (· < 128) && decide (x.length<=100000))=true):RowF H (.ref l):=.inr ⟨l,ks,rfl,h,hn,fun k hm=>by
 have:=wJ.mp hk k hm
 cases k with
 | inl z=>exact trivial
 | inr x =>
  have h2:=Bool.and_eq_true_iff.mp this
  exact ⟨h2.1,yK h2.2⟩⟩
theorem scLNd:FnScope ["_law_book_here","_law_bads","_law_bad","_law_due","_law_caught","e"] ["_law_book_here"] (Qh sLNd):=⟨rfl,rfl,rfl,by decide +kernel,rfl,by decide +kernel,by decide +kernel⟩
theorem okLNd {C D CN CS CD:Addr} (EK:ExK K mg C D CN CS) (T:DkTxt K mg CD) {fI:Addr} {fdI:FuncData} (MI:Mk K CD fI) (GI:FnOk P w K mg base (CXg P w C) 6 fI fdI ["self","book"] (Qjm K C CD)) (bI:Binds K fdI ["self","book"] []) (F:Fn K mg "_law_no_desk" sLNd) (M:Mg mg) (cl_named:Cal P w K mg base 2 "_law_named" ["_law_caught","_law_name_here","_law_row"] (Qed C CS)) (cl_looked:Cal P w K mg base 5 "_law_looked" ["_law_book_here"] (Ws K C)):Cal P w K mg base 8 "_law_no_desk" ["_law_book_here"] (Qff):=by
 refine Xv F scLNd (fun _ _ _ _ _ _=>bind1 (fun _=>rfl)) (fun vs H Q E h=>?_) (fun f cdv A outer s H vs Q E hr h=>?_)
 ·obtain ⟨b,us,B,rfl,_⟩:=h
  rfl
 obtain ⟨b,us,B,rfl,hb,hB,hG,hBl,q⟩:=h
 refine ⟨_,(QSs.pss (Jg (Qid (i:=1) scLNd.nd rfl (Or.inl rfl) (Kb (Wd (Kb Ka) (Qeq (QE.of (Qj Jp (pv 0) (QE.pe (Kb (Wd (Kb (Xn (QE.of Qx) (Xn (QE.of Qb) Ka))) Ka))))) (Qcs (QE.of (Xu Yn (pv 0) (Yf Qb) Ym)) (Qeq (QE.of (Qj Jp (pv 0) (QE.pe (Kb (Wd (Kb (Xn (QE.of Qx) Ka)) Ka))))) Ka))))))
  (Jg (QS.of (Xg (Zs PySem.F.plainAttrs_list PySem.F.slot_list_append PySem.F.type_list_append Xc (pv 1) (Qa (Qj Jp (QE.pe (Kb (Wd (Kb (Xn (QE.of Qx) (Xn (QE.of Qb) Ka))) (Wd (Kb (Xn (QE.of Qx) (Xn (QE.of Qx) (Xn (QE.of Qx) (Xn (QE.of Qb) (Xn (QE.of Qb) Ka)))))) Ka)))) (pv 0)) Qg))))
  (Jg (QS.of (Yz PassesOwn.never rfl (Ye (pv 1)) (Xb (i:=2) scLNd.nd rfl (Or.inl rfl) (Or.inl rfl)) (QSs.pss (Jg (Qid (i:=3) scLNd.nd rfl (Or.inl rfl) (QE.of (Xz cl_looked (hr.mono (by decide)) (Qa (pv 2) Qg))))
  (Jg (Qid (i:=4) scLNd.nd rfl (Or.inl rfl) (QE.of Zy))
  (Jg (QS.of (Qji rfl rfl rfl (Qoy rfl MI GI (hr.mono (by decide)) T.mgC bI (Qa (pv 2) Qg)) EK.pe EK.isA EK.isS scLNd.nd (i:=4) (j:=5) rfl rfl (by decide) rfl rfl))
  (Qdr (qs_if (PW.pt (Wv (PW.pt (Qby (Qr Qdh (pv 3) Zy (Qu _)) (Vl (Zx (Zl (Xz cl_named (hr.mono (by decide)) (Qa (pv 4) (Qa Qx (Qa (Qbl (pv 3) rfl) Qg))))))))) (Vm (PW.pt (Qby (Qr Qej (pv 3) Zy (Qu _)) (Vl (Qr Qdh (pv 4) Zy (Qu _)))))))) (Qdr (Qmk (QE.of Jr))) Qny))))))))
  (Qdr (Qmk (QE.of Jr))))))),?_⟩
 refine Qba ?_
 intro rT4 rT3 rT2
 have hz:(2000000:Nat) < sizeLine:=by decide
 have hul:=hB.length
 have hgn:=Ju hG
 refine ⟨by show 0<=sizeLine;decide,fun p0 hp0=>?_⟩
 have s0:=Qf hp0 (.lst [])
 have e0:upd H p0 (.lst []) p0=some (.lst []):=Qd
 generalize upd H p0 (.lst [])=H0 at s0 e0 ⊢
 refine ⟨_,rfl,by show 2<=sizeLine;decide,fun p1 hp1=>?_⟩
 have s1:=Qf hp1 (.lst [.str "days",.int 1])
 have e1:upd H0 p1 (.lst [.str "days",.int 1]) p1=some (.lst [.str "days",.int 1]):=Qd
 generalize upd H0 p1 (.lst [.str "days",.int 1])=H1 at s1 e1 ⊢
 refine ⟨by show 1<=sizeLine;decide,fun p2 hp2=>?_⟩
 have s2:=Qf hp2 (.lst [.ref p1])
 have e2:upd H1 p2 (.lst [.ref p1]) p2=some (.lst [.ref p1]):=Qd
 generalize upd H1 p2 (.lst [.ref p1])=H2 at s2 e2 ⊢
 have t02:=(s0.trans s1).trans s2
 refine ⟨b,p2,_,_,rfl,rfl,t02 _ _ hb,e2,by show _ + 1<=_;lia,fun p3 hp3=>?_⟩
 have s3:=Qf hp3 (.lst (us ++ [.ref p1]))
 have e3:upd H2 p3 (.lst (us ++ [.ref p1])) p3=some (.lst (us ++ [.ref p1])):=Qd
 generalize upd H2 p3 (.lst (us ++ [.ref p1]))=H3 at s3 e3 ⊢
 have t03:=t02.trans s3
 refine ⟨_,rfl,_,rfl,b,us,rfl,Qc (t03 _ _ hb),fun p4 hp4=>?_⟩
 have s4:=Qf hp4 (.lst (cutV us (some 1) none))
 have e4:upd H3 p4 (.lst (cutV us (some 1) none)) p4=some (.lst (cutV us (some 1) none)):=Qd
 generalize upd H3 p4 (.lst (cutV us (some 1) none))=H4 at s4 e4 ⊢
 have t04:=t03.trans s4
 refine ⟨_,rfl,by show 1<=sizeLine;decide,fun p5 hp5=>?_⟩
 have s5:=Qf hp5 (.lst [.str "work"])
 have e5:upd H4 p5 (.lst [.str "work"]) p5=some (.lst [.str "work"]):=Qd
 generalize upd H4 p5 (.lst [.str "work"])=H5 at s5 e5 ⊢
 refine ⟨by show 1<=sizeLine;decide,fun p6 hp6=>?_⟩
 have s6:=Qf hp6 (.lst [.ref p5])
 have e6:upd H5 p6 (.lst [.ref p5]) p6=some (.lst [.ref p5]):=Qd
 generalize upd H5 p6 (.lst [.ref p5])=H6 at s6 e6 ⊢
 have t06:=(t04.trans s5).trans s6
 refine ⟨b,p6,_,_,rfl,rfl,t06 _ _ hb,e6,by show _ + 1<=_;lia,fun p7 hp7=>?_⟩
 have s7:=Qf hp7 (.lst (us ++ [.ref p5]))
 have e7:upd H6 p7 (.lst (us ++ [.ref p5])) p7=some (.lst (us ++ [.ref p5])):=Qd
 generalize upd H6 p7 (.lst (us ++ [.ref p5]))=H7 at s7 e7 ⊢
 refine ⟨by show 4<=sizeLine;decide,fun p8 hp8=>?_⟩
 have s8:=Qf hp8 (.lst [.ref p0,.ref p3,.ref p4,.ref p7])
 have e8:upd H7 p8 (.lst [.ref p0,.ref p3,.ref p4,.ref p7]) p8=some (.lst [.ref p0,.ref p3,.ref p4,.ref p7]):=Qd
 generalize upd H7 p8 (.lst [.ref p0,.ref p3,.ref p4,.ref p7])=H8 at s8 e8 ⊢
 have t08:=(t06.trans s7).trans s8
 refine ⟨_,rfl,.inl ⟨rfl,_,Qc e8⟩,by show 2<=sizeLine;decide,fun p9 hp9=>?_⟩
 have s9:=Qf hp9 (.lst [.str "days",.int 1])
 have e9:upd H8 p9 (.lst [.str "days",.int 1]) p9=some (.lst [.str "days",.int 1]):=Qd
 generalize upd H8 p9 (.lst [.str "days",.int 1])=H9 at s9 e9 ⊢
 refine ⟨by show 5<=sizeLine;decide,fun p10 hp10=>?_⟩
 have s10:=Qf hp10 (.lst [.str "way",.str "a",.str "b",.int 1,.int 1])
 have e10:upd H9 p10 (.lst [.str "way",.str "a",.str "b",.int 1,.int 1]) p10=some (.lst [.str "way",.str "a",.str "b",.int 1,.int 1]):=Qd
 generalize upd H9 p10 (.lst [.str "way",.str "a",.str "b",.int 1,.int 1])=H10 at s10 e10 ⊢
 refine ⟨by show 2<=sizeLine;decide,fun p11 hp11=>?_⟩
 have s11:=Qf hp11 (.lst [.ref p9,.ref p10])
 have e11:upd H10 p11 (.lst [.ref p9,.ref p10]) p11=some (.lst [.ref p9,.ref p10]):=Qd
 generalize upd H10 p11 (.lst [.ref p9,.ref p10])=H11 at s11 e11 ⊢
 have t811:=(s9.trans s10).trans s11
 have t11:=t08.trans t811
 refine ⟨_,rfl,p11,b,_,_,rfl,rfl,e11,t11 _ _ hb,by show 2 + _<=_;lia,fun p12 hp12=>?_⟩
 have s12:=Qf hp12 (.lst ([.ref p9,.ref p10] ++ us))
 have e12:upd H11 p12 (.lst ([.ref p9,.ref p10] ++ us)) p12=some (.lst ([.ref p9,.ref p10] ++ us)):=Qd
 generalize upd H11 p12 (.lst ([.ref p9,.ref p10] ++ us))=H12 at s12 e12 ⊢
 have t12:=t11.trans s12
 refine ⟨p8,_,_,rfl,rfl,s12 _ _ (t811 _ _ e8),by show 4 < sizeLine;decide,?_⟩
 have f0:H12 p8=some (.lst [.ref p0,.ref p3,.ref p4,.ref p7]):=s12 _ _ (t811 _ _ e8)
 have t7:=t06.trans s7
 have g0:H7 p0=some (.lst []):=s7 _ _ (s6 _ _ (s5 _ _ (s4 _ _ (s3 _ _ (s2 _ _ (s1 _ _ e0))))))
 have g1:H7 p1=some (.lst [.str "days",.int 1]):=s7 _ _ (s6 _ _ (s5 _ _ (s4 _ _ (s3 _ _ (s2 _ _ e1)))))
 have g3:H7 p3=some (.lst (us ++ [.ref p1])):=s7 _ _ (s6 _ _ (s5 _ _ (s4 _ _ e3)))
 have g4:H7 p4=some (.lst (cutV us (some 1) none)):=s7 _ _ (s6 _ _ (s5 _ _ e4))
 have g5:H7 p5=some (.lst [.str "work"]):=s7 _ _ (s6 _ _ e5)
 have hus:=Qjq hB hgn
 have t812:=t811.trans s12
 have t712:=s8.trans t812
 have b12:∀ v ∈ [V.ref p0,.ref p3,.ref p4,.ref p7],BadL H12 v/\∃ l,v=.ref l/\l ≠ p8:=fun v hv=>by
  have q9:BadL H7 v/\∃ l o,v=.ref l/\H7 l=some o:=by
   rcases jJ.mp hv with rfl | hv
   ·exact ⟨⟨p0,[],rfl,g0,fun w h=>(nomatch h),wX _⟩,p0,_,rfl,g0⟩
   rcases jJ.mp hv with rfl | hv
   ·refine ⟨⟨p3,_,rfl,g3,fun w hw=>?_,by rw [jW];show _ + 1<=_;lia⟩,p3,_,rfl,g3⟩
    rcases yQ.mp hw with hw | hw
    ·exact (hus w hw).keep (Xw t7)
    ·rw [jQ.mp hw];exact Qbv [.inr "days",.inl 1] g1 (by decide) (by decide +kernel)
   rcases jJ.mp hv with rfl | hv
   ·have ec:cutV us (some 1) none=us.drop 1:=by
     cases us with
     | nil=>rfl
     | cons u us=>exact cut1' u us
    refine ⟨⟨p4,_,rfl,g4,fun w hw=>?_,by rw [ec,zK];lia⟩,p4,_,rfl,g4⟩
    rw [ec] at hw
    exact (hus w (jQb hw)).keep (Xw t7)
   ·rw [jQ.mp hv]
    refine ⟨⟨p7,_,rfl,e7,fun w hw=>?_,by rw [jW];show _ + 1<=_;lia⟩,p7,_,rfl,e7⟩
    rcases yQ.mp hw with hw | hw
    ·exact (hus w hw).keep (Xw t7)
    ·rw [jQ.mp hw];exact Qbv [.inr "work"] g5 (by decide) (by decide +kernel)
  obtain ⟨h1,l,o9,rfl,h2⟩:=q9
  exact ⟨h1.same t712,l,rfl,Qmz h2 hp8⟩
 have b12':BadL H12 (.ref p12):=⟨p12,_,rfl,e12,fun w hw=>by
  rcases yQ.mp hw with hw | hw
  ·rcases jJ.mp hw with rfl | hw
   ·exact Qbv [.inr "days",.inl 1] (s12 _ _ (s11 _ _ (s10 _ _ e9))) (by decide) (by decide +kernel)
   ·rw [jQ.mp hw];exact Qbv [.inr "way",.inr "a",.inr "b",.inl 1,.inl 1] (s12 _ _ (s11 _ _ e10)) (by decide) (by decide +kernel)
  ·exact (hus w hw).keep (Xw t12),by rw [jW];show 2 + _<=_;lia⟩
 have n12:p12 ≠ p8:=fun z=>Qmz (t811 _ _ e8) hp12 z.symm
 have t13:Same H (upd H12 p8 (.lst ([.ref p0,.ref p3,.ref p4,.ref p7] ++ [.ref p12]))):=Yr t12 (Yj t7 hp8)
 have e13:upd H12 p8 (.lst ([.ref p0,.ref p3,.ref p4,.ref p7] ++ [.ref p12])) p8=some (.lst [.ref p0,.ref p3,.ref p4,.ref p7,.ref p12]):=Qd
 have b13:∀ v ∈ [V.ref p0,.ref p3,.ref p4,.ref p7,.ref p12],BadL (upd H12 p8 (.lst ([.ref p0,.ref p3,.ref p4,.ref p7] ++ [.ref p12]))) v:=fun v hv=>by
  rcases yQ.mp (show v ∈ [V.ref p0,.ref p3,.ref p4,.ref p7] ++ [.ref p12] from hv) with hv | hv
  ·obtain ⟨h1,l,rfl,h2⟩:=b12 v hv
   exact h1.upd f0 h2
  ·rw [jQ.mp hv]
   exact b12'.upd f0 n12
 generalize upd H12 p8 (.lst ([.ref p0,.ref p3,.ref p4,.ref p7] ++ [.ref p12]))=H13 at t13 e13 b13 ⊢
 clear b12 b12' f0 hus g0 g1 g3 g4 g5
 let Pv9:Nat->St->Hp->Prop:=fun i σ H1=>∃ u2 u3 u4:Option V,σ=[some (.ref b),some (.ref p8),u2,u3,u4,none]/\Same H13 H1
 refine ⟨_,rfl,p8,rfl,⟨_,Qc e13⟩,Vd (K:=K) (a:=p8) (xs:=[.ref p0,.ref p3,.ref p4,.ref p7,.ref p12]) Pv9 ⟨none,none,none,rfl,Same.refl _⟩ (fun i σ H1 _ h=>?_) ?_ ?_⟩
 ·obtain ⟨u2,u3,u4,_,s1⟩:=h
  exact Qc (s1 _ _ e13)
 ·rintro i x σ H1 ex ⟨u2,u3,u4,rfl,s1⟩
  obtain ⟨l,ws,rfl,hl,hw,hn⟩:=(b13 x (yX ex)).same s1
  have mk:∀ {H2:Hp},Same H1 H2->∀ {x dx:Addr},H2 x=none->H2 dx=none->dx ≠ x->Same H1 (upd (upd H2 dx (.own x)) x (.ins CD dx [])):=fun {H2} s2 {x dx} hx hdx hne=>(s2.trans (Qf hdx _)).trans (Qf (by rw [Ql (Ne.symm hne)];exact hx) _)
  have back:∀ {H2 H3:Hp} {x dx:Addr},H2 x=none->H2 dx=none->dx ≠ x->Fr [x] (upd (upd H2 dx (.own x)) x (.ins CD dx [])) H3->Same H2 H3:=fun {H2 H3 x dx} hx hdx hne f b o e=>f b o (fun z=>by rw [jQ.mp z,hx] at e;cases e) (by rw [Ql (Qq e hx),Ql (Qq e hdx)];exact e)
  rcases Qpa H1 ws with ⟨j,hLB⟩ | ⟨A',hne,hGA,hBA⟩
  ·refine ⟨_,rfl,l,ws,rfl,hl,fun v hv=>(hw v hv).row,by lia,lb_c hLB (fun e=>nomatch e) fun z' ez=>?_⟩
   cases ez
   rintro e1 dx1 H2 s2 he1 hdx1
   refine ⟨_,rfl,fun x dx hx hdx hxd=>?_⟩
   have s3:=mk s2 hx hdx hxd
   refine ⟨x,l,dx,[],ws,rfl,Qd,jXb,fun a h=>(nomatch h),s3 _ _ hl,fun v hv=>(hw v hv).keep (Xw s3),hn,.inl ⟨(j:Int),Qjl hLB hw (Xw s3),fun de H4 f4 hde e2 de' ede he2=>?_⟩⟩
   cases ede
   have s24:=back hx hdx hxd f4
   have s5:=Qf he2 (excD e2 C de)
   have s25:=s24.trans s5
   refine ⟨_,rfl,rfl,_,rfl,iteT ?_⟩
   refine ⟨_,rfl,_,rfl,e1,C,dx1,_,.int (j:Int),rfl,s25 _ _ he1,s25 _ _ hdx1,EK.xf,rfl,e2,"book",(j:Int),rfl,.inl ⟨de,rfl,Qd,s5 _ _ hde⟩,fun H6 s6=>?_⟩
   refine ⟨_,rfl,iteF ?_⟩
   refine ⟨_,rfl,rfl,_,rfl,iteF (iteF ?_)⟩
   exact ⟨_,_,_,rfl,((s1.trans s2).trans s25).trans s6⟩
  ·refine ⟨_,rfl,l,ws,rfl,hl,fun v hv=>(hw v hv).row,by lia,lb_c (.ok hne hGA hBA) (fun _ H2 s2=>?_) fun z' ez=>nomatch ez⟩
   refine ⟨_,rfl,fun x dx hx hdx hxd=>?_⟩
   have s3:=mk s2 hx hdx hxd
   refine ⟨x,l,dx,[],ws,rfl,Qd,jXb,fun a h=>(nomatch h),s3 _ _ hl,fun v hv=>(hw v hv).keep (Xw s3),hn,.inr ⟨A',hne,hGA,hBA.same s3,fun bl H4 hbl f4 _=>⟨rfl,?_⟩⟩⟩
   have s24:=back hx hdx hxd f4
   refine ⟨_,rfl,rfl,_,rfl,iteF ?_⟩
   refine ⟨_,rfl,rfl,_,rfl,iteT ?_⟩
   refine ⟨_,rfl,rfl,_,rfl,iteF ?_⟩
   exact ⟨_,_,_,rfl,(s1.trans s2).trans s24⟩
 ·rintro σ H1 ⟨u2,u3,u4,rfl,s1⟩
  exact q H1 (t13.trans s1)
abbrev sLOt:Stmt:=top 154
abbrev sLDe:Stmt:=top 153
structure KR (H:Hp) (l:Addr) (ks:List Key):Prop where
 hl:H l=some (.lst (ks.map kV))
 len:ks.length<=5
 pl:∀ k ∈ ks,Qaa k
theorem KR.same {H H':Hp} {l:Addr} {ks:List Key} (h:KR H l ks) (s:Same H H'):KR H' l ks:=⟨s _ _ h.hl,h.len,h.pl⟩
theorem KR.rowF {H:Hp} {l:Addr} {ks:List Key} (h:KR H l ks):RowF H (.ref l):=.inr ⟨l,ks,rfl,h.hl,xW h.len (by decide),h.pl⟩
theorem Qlr {r:BR} (h:r.gn):∀ k ∈ r.cells,Qaa k:=fun k hk=>by
 unfold BR.cells BR.key at hk
 rcases yQ.mp hk with h1 | h1
 ·rcases jJ.mp h1 with rfl | h1
  ·exact Kq r
  ·obtain ⟨x,hx,rfl⟩:=jQe.mp h1
   exact Vh (h x hx)
 ·obtain ⟨x,hx,rfl⟩:=jQe.mp h1
  exact trivial
theorem Qfg {B:List BR} (hG:Good B) {k:Key} (h:k ∈ thOf B "work"):Qaa k:=by
 have hs:=(th_iff (i:=4) (.inr (.inr rfl)) rfl).mp h
 obtain ⟨x,rfl,hx⟩:=Zv hG hs k jX
 exact Vh hx
theorem Qjr {ks:List Key} {z:Int} (h0:0<=z) (h1:z < (ks.length:Nat)):∃ k,k ∈ ks/\atI (ks.map kV) z=some (kV k):=by
 have hk:z.toNat < ks.length:=by lia
 obtain ⟨k,ek⟩:∃ k,ks[z.toNat]?=some k:=⟨_,gE hk⟩
 refine ⟨k,yX ek,?_⟩
 have e:z=((z.toNat:Nat):Int):=by lia
 rw [e]
 exact Zn (by rw [xJ,ek];rfl)
def Qjs:Sp:=fun vs H Q _=>∃ (v:V) (b:Addr) (z:Int) (us:List V) (B:List BR),vs=[v,.int z,.ref b]/\H b=some (.lst us)/\RowsB H us B/\Good B/\B.length<=10000/\0<=z/\∀ l ks H',Same H H'->KR H' l ks->Q (.ref l) H'
def Qna (K:Fg):Sp:=fun vs H Q _=>∃ (l b:Addr) (ds:List Int) (at_:Int) (us:List V) (B:List BR),vs=[.ref l,.int at_,.ref b]/\Dr K H l ds/\0<=at_/\at_ + 1 < (ds.length:Int)/\H b=some (.lst us)/\RowsB H us B/\Good B/\B ≠ []/\B.length<=10000 /\
 ∀ t wd z rl ks H',Same H H'->SqT K H' t [.str wd,.int z,.ref rl]->KR H' rl ks->(wd="take"\/wd="put")->Q (.ref t) H'
theorem scLOt:FnScope ["_law_row","_law_number","_law_book_here","_law_works","_law_one","_law_other_here"] ["_law_row","_law_number","_law_book_here"] (Qh sLOt):=⟨rfl,rfl,rfl,by decide +kernel,rfl,by decide +kernel,by decide +kernel⟩
theorem okLOt  (F:Fn K mg "_law_other" sLOt) (M:Mg mg):Cal P w K mg base 1 "_law_other" ["_law_row","_law_number","_law_book_here"] (Qjs):=by
 refine Xv F scLOt (fun _ _ _ _ _ _=>Qgc (fun _ _ _=>rfl)) (fun vs H Q E h=>?_) (fun f cdv A outer s H vs Q E hr h=>?_)
 ·obtain ⟨v,b,z,us,B,rfl,_⟩:=h
  rfl
 obtain ⟨v,b,z,us,B,rfl,hb,hB,hG,hBl,z0,q⟩:=h
 refine ⟨_,(Qe (Jf (i:=3) ["_law_one"] [none] rfl scLOt.nd rfl (Or.inl rfl) (Ye (pv 2)) (fun _ _ _=>(Xb (i:=0) (show (["_law_one"]:List Str).Nodup by decide +kernel) rfl (Or.inl rfl) (Or.inr rfl))) (fun _ _ _=>(Qmf (Qr Xy (Qp (Zg (K:=K) rfl) (pv 0) Qb (fun _ _=>rfl)) Qx (Qu _)))) (fun _ _ _=>(Qp (Zg (K:=K) rfl) (pv 0) Qb (fun _ _=>rfl))))
  (Qe (Xm (Qr Qhc (Qm Qn rfl M.len Xp (Qa (pv 3) Qg)) Qb (Qu _)) (Qi (Xa (Xi (Qa Qx (Qa Qx (Qa (Qj Qv (pv 1) Qb) Qg)))))) Qt)
  (Qe (Qs (i:=4) scLOt.nd rfl (Or.inl rfl) (Qp Qk (pv 3) (Qj Qv (pv 1) (Qm Qn rfl M.len Xp (Qa (pv 3) Qg))) (fun _ _=>rfl)))
  (Qe (Qs (i:=5) scLOt.nd rfl (Or.inl rfl) (Qp Qk (pv 3) (Qj Qv (Qj Qo (Qj Qo (pv 1) Qb) (Qj Qv (Qj Xh (pv 1) Qb) (Qj Qei (Qm Qn rfl M.len Xp (Qa (pv 3) Qg)) Qb))) (Qm Qn rfl M.len Xp (Qa (pv 3) Qg))) (fun _ _=>rfl)))
  (Qi (Xa (Xi (Qa Qx (Qa (pv 4) (Qa (pv 5) (Qa (Qj Qv (Qj Xh (pv 1) Qb) Qb) Qg))))))))))),?_⟩
 refine Kd ?_
 intro rT5 rT4 rT3 rT2
 have hz:(2000000:Nat) < sizeLine:=by decide
 obtain ⟨zs,rfl,rfl,hzs⟩:=Kk hB
 rw [jK] at hBl
 refine ⟨_,rfl,b,rfl,⟨_,Qc hb⟩,fun D hD=>?_⟩
 refine Qjb kV (fun z:Addr × BR=>z.2.c1) (fun z:Addr × BR=>isW "work" z.2) rfl (Ze (val:=fun z:Addr × BR=>V.ref z.1) (Qc hb)) (by lia) hD (fun z hz' H1 s1 P h=>?_) (fun z hz' _ H1 s1 P h=>?_) fun H1 s1 h1=>?_
 ·exact ⟨_,rfl,z.1,_,_,_,rfl,rfl,Qc (s1 _ _ (hzs z hz')),Km z.2,rfl,_,rfl,h H1 (Same.refl _)⟩
 ·exact ⟨_,rfl,z.1,_,_,_,rfl,rfl,Qc (s1 _ _ (hzs z hz')),at_c1 z.2,h H1 (Same.refl _)⟩
 have h1:H1 D=some (.lst ((thOf (zs.map (·.2)) "work").map kV)):=by
  rw [h1]
  unfold thOf
  simp only [List.filter_map,jKa]
  rfl
 have wp:∀ k ∈ thOf (zs.map (·.2)) "work",Qaa k:=fun k hk=>Qfg hG hk
 generalize thOf (zs.map (·.2)) "work"=ws at h1 wp
 refine ⟨_,rfl,D,_,rfl,.inl (Qc h1),_,_,rfl,rfl,_,rfl,ite2 (fun c=>?_) (fun c=>?_)⟩
 ·refine ⟨_,rfl,_,_,rfl,rfl,(by show (0:Int) < _;decide +kernel),by show 3<=sizeLine;decide,fun p hp=>?_⟩
  exact q p [.inr "bench",.inr "quay",.inl (z % 3)] _ (s1.trans (Qf hp _)) ⟨Qd,by show 3<=5;decide,fun k hk=>by
   rcases jJ.mp hk with rfl | hk
   ·exact ⟨by decide +kernel,by decide +kernel⟩
   rcases jJ.mp hk with rfl | hk
   ·exact ⟨by decide +kernel,by decide +kernel⟩
   ·rw [jQ.mp hk];exact trivial⟩
 ·have hlen:2<=ws.length:=by
   have c':¬ ((((ws.map kV).length:Nat):Int) < 2):=fun h=>c (yV h)
   rw [jK] at c'
   lia
  have lw:(ws.map kV).length=ws.length:=jK ..
  have m0:=zQ z (show (ws.length:Int) ≠ 0 by lia)
  have m1:=yZ z (show (0:Int) < (ws.length:Int) by lia)
  obtain ⟨k1,hk1,e1⟩:=Qjr m0 m1
  refine ⟨_,rfl,_,rfl,_,rfl,D,_,rfl,.inl (Qc h1),_,_,rfl,rfl,by show (0:Int) < _;lia,D,_,_,_,rfl,rfl,Qc h1,by rw [lw];exact e1,?_⟩
  have n0:=zQ (z + 1 + z / 16 % ((ws.length:Int) - 1)) (show (ws.length:Int) ≠ 0 by lia)
  have n1:=yZ (z + 1 + z / 16 % ((ws.length:Int) - 1)) (show (0:Int) < (ws.length:Int) by lia)
  obtain ⟨k2,hk2,e2⟩:=Qjr n0 n1
  refine ⟨_,rfl,_,rfl,_,_,rfl,rfl,_,rfl,_,_,rfl,rfl,⟨by decide,by decide⟩,_,rfl,D,_,rfl,.inl (Qc h1),_,_,rfl,rfl,_,_,rfl,rfl,by show (0:Int) < _ - 1;lia,_,_,rfl,rfl,_,rfl,D,_,rfl,.inl (Qc h1),_,_,rfl,rfl,by show (0:Int) < _;lia,D,_,_,_,rfl,rfl,Qc h1,by rw [lw];exact e2,?_⟩
  refine ⟨_,rfl,_,rfl,_,rfl,_,_,rfl,rfl,⟨by decide,by decide⟩,_,_,rfl,rfl,(by show (0:Int) < _;decide +kernel),by show 4<=sizeLine;decide,fun p hp=>?_⟩
  exact q p [.inr "after",k1,k2,.inl (z / 64 % 3)] _ (s1.trans (Qf hp _)) ⟨Qd,by show 4<=5;decide,fun k hk=>by
   rcases jJ.mp hk with rfl | hk
   ·exact ⟨by decide +kernel,by decide +kernel⟩
   rcases jJ.mp hk with rfl | hk
   ·exact wp _ hk1
   rcases jJ.mp hk with rfl | hk
   ·exact wp _ hk2
   ·rw [jQ.mp hk];exact trivial⟩
theorem scLDe:FnScope ["_law_draws_here","_law_at","_law_book_here","_law_number","_law_place","_law_row","_law_works"] ["_law_draws_here","_law_at","_law_book_here"] (Qh sLDe):=⟨rfl,rfl,rfl,by decide +kernel,rfl,by decide +kernel,by decide +kernel⟩
theorem okLDe  (F:Fn K mg "_law_deed" sLDe) (M:Mg mg) (cl_other:Cal P w K mg base 1 "_law_other" ["_law_row","_law_number","_law_book_here"] (Qjs)):Cal P w K mg base 2 "_law_deed" ["_law_draws_here","_law_at","_law_book_here"] (Qna K):=by
 refine Xv F scLDe (fun _ _ _ _ _ _=>Qgc (fun _ _ _=>rfl)) (fun vs H Q E h=>?_) (fun f cdv A outer s H vs Q E hr h=>?_)
 ·obtain ⟨l,b,ds,at_,us,B,rfl,_⟩:=h
  rfl
 obtain ⟨l,b,ds,at_,us,B,rfl,hD0,a0,a1,hb,hB,hG,hne,hBl,q⟩:=h
 have hu6:(A.deeper (PyProof.Rows.envOfC "_law_deed" (Qh sLDe) s.heap.objs.size f cdv)).units + 6 < cLine:=jZf (jZc (by decide) _) hr.un
 refine ⟨_,(Qe (Qs (i:=3) scLDe.nd rfl (Or.inl rfl) (Qp Qk (pv 0) (pv 1) (fun _ _=>rfl)))
  (Qe (Qs (i:=4) scLDe.nd rfl (Or.inl rfl) (Qj Qv (Qj Xh (pv 3) Qb) (Qj Qo (Qm Qn rfl M.len Xp (Qa (pv 2) Qg)) Qb)))
  (Qe (Xm (PW.pt (Qby (Qr Xy (Qj Qv (pv 3) Qb) Qb (Qu _)) (Vl (Qr (Qep (K:=K) (n:=6) rfl hu6) (pv 2) (Xi Qg) (Qu _))))) (Qi (Xa (Qae (Qa Qx (Qa (pv 4) (Qa (Xi Qg) Qg)))))) Qt)
  (Qe (Qs (i:=5) scLDe.nd rfl (Or.inl rfl) (Qp Qk (pv 2) (Qj Qv (Qj Xh (pv 3) Qb) (Qm Qn rfl M.len Xp (Qa (pv 2) Qg))) (fun _ _=>rfl)))
  (Qe (Xm (Qr Xy (Qj Qv (pv 3) Qb) Qb (Qu _)) (Qi (Qs (i:=5) scLDe.nd rfl (Or.inl rfl) (Xz cl_other (hr.mono (by decide)) (Qa (pv 5) (Qa (Qp Qk (pv 0) (Qj Qo (pv 1) Qb) (fun _ _=>rfl)) (Qa (pv 2) Qg)))))) Qt)
  (Qe (Xm (Qr Xy (Qj Qv (pv 3) Qb) Qb (Qu _)) (Qe (Qs (i:=5) scLDe.nd rfl (Or.inl rfl) (Xi (Qa Qx (Qa (Qp Qk (pv 5) (Ww Jo Qb) (fun _ _=>rfl)) (Qa (Qj Qv (Qp Qk (pv 0) (Qj Qo (pv 1) Qb) (fun _ _=>rfl)) Qb) (Qa (Qj Qo Qb (Qj Qv (Qj Xh (Qp Qk (pv 0) (Qj Qo (pv 1) Qb) (fun _ _=>rfl)) Qb) Qb)) Qg))))))
  (Qe (Jf (i:=6) ["_law_one"] [none] rfl scLDe.nd rfl (Or.inl rfl) (Ye (pv 2)) (fun _ _ _=>(Xb (i:=0) (show (["_law_one"]:List Str).Nodup by decide +kernel) rfl (Or.inl rfl) (Or.inr rfl))) (fun _ _ _=>(Qmf (Qr Xy (Qp (Zg (K:=K) rfl) (pv 0) Qb (fun _ _=>rfl)) Qx (Qu _)))) (fun _ _ _=>(Qp (Zg (K:=K) rfl) (pv 0) Qb (fun _ _=>rfl))))
  (Qe (Xm (Qr (Qep (K:=K) (n:=6) rfl hu6) (pv 6) (Xi Qg) (Qu _)) (Qi (Qlx (Qp Qk (pv 6) (Qj Qv (Qj Xh (Qp Qk (pv 0) (Qj Qo (pv 1) Qb) (fun _ _=>rfl)) Qb) (Qm Qn rfl M.len Xp (Qa (pv 6) Qg))) (fun _ _=>rfl)) (pg_sub (pv 5) Qb set_list))) Qt)
  (Qi (Qs (i:=4) scLDe.nd rfl (Or.inl rfl) (Qm Qn rfl M.len Xp (Qa (pv 2) Qg))))))) Qt)
  (Qi (Xa (Qae (Qa Qx (Qa (pv 4) (Qa (pv 5) Qg)))))))))))),?_⟩
 refine Qkw ?_
 intro rT7 rT6 rT5 rT4 rT3 rT2
 have hz:(2000000:Nat) < sizeLine:=by decide
 obtain ⟨z,ez,z0,_⟩:=hD0.get at_ a0 (by lia)
 obtain ⟨z1,ez1,z10,_⟩:=hD0.get (at_ + 1) (by lia) (by lia)
 have hul:=hB.length
 have hul1:1<=us.length:=by
  rcases Nat.eq_zero_or_pos B.length with h | h
  ·exact absurd (jQa.mp h) hne
  ·lia
 refine ⟨_,rfl,_,rfl,l,_,_,_,rfl,rfl,hD0.lst,ez,?_⟩
 refine ⟨_,rfl,_,_,rfl,rfl,⟨by decide,by decide⟩,_,rfl,b,_,rfl,.inl (Qc hb),_,_,rfl,rfl,_,_,rfl,rfl,by show (0:Int) < _;lia,?_⟩
 obtain ⟨pl,epl⟩:∃ pl,pl=z / 4 % ((us.length:Int) + 1):=⟨_,rfl⟩
 show Js 4 (V.int (z / 4 % ((us.length:Int) + 1))) _ _ _
 rw [← epl]
 clear epl
 have putT:∀ (H1:Hp) (pl':Int) (rl:Addr) (ks:List Key) (u6:Option V),Same H H1->KR H1 rl ks->rT7 { nx:=fun x H'=>Q V.non H',rt:=Q } [some (.ref l),some (.int at_),some (.ref b),some (.int z),some (.int pl'),some (.ref rl),u6] H1:=fun H1 pl' rl ks u6 s1 hk=>by
  refine ⟨_,rfl,_,rfl,by show 3<=sizeLine;decide,fun t ht=>?_⟩
  have s2:=Qf ht (.tup [.str "put",.int pl',.ref rl])
  exact q t "put" pl' rl ks _ (s1.trans s2) (Yb Qd) (hk.same s2) (.inr rfl)
 have step4:∀ H1,Same H H1->rT4 { nx:=fun x H'=>Q V.non H',rt:=Q } [some (.ref l),some (.int at_),some (.ref b),some (.int z),some (.int pl),none,none] H1:=fun H1 s1=>by
  have m0:=zQ (z / 64) (show (us.length:Int) ≠ 0 by lia)
  have m1:=yZ (z / 64) (show (0:Int) < (us.length:Int) by lia)
  obtain ⟨i,ei⟩:∃ i:Nat,z / 64 % (us.length:Int)=(i:Int):=⟨(z / 64 % (us.length:Int)).toNat,by lia⟩
  obtain ⟨v0,ev0⟩:∃ v,us[i]?=some v:=⟨_,gE (by lia)⟩
  obtain ⟨r,rl,er,rfl,hrl⟩:=hB.get ev0
  have gr:=Ju hG r (yX er)
  have kr:KR H rl r.cells:=⟨hrl,by have:=Yy r;rw [jK] at this;exact this,Qlr gr⟩
  refine ⟨_,rfl,_,rfl,_,_,rfl,rfl,⟨by decide,by decide⟩,_,rfl,b,_,rfl,.inl (Qc (s1 _ _ hb)),_,_,rfl,rfl,by show (0:Int) < _;lia,b,_,_,_,rfl,rfl,Qc (s1 _ _ hb),by rw [ei];exact Zn ev0,?_⟩
  have step6:∀ (H2:Hp) (rl:Addr) (ks:List Key),Same H H2->KR H2 rl ks->(z % 4=2->ks ≠ [])->rT6 { nx:=fun x H'=>Q V.non H',rt:=Q } [some (.ref l),some (.int at_),some (.ref b),some (.int z),some (.int pl),some (.ref rl),none] H2:=fun H2 rl ks s2 hk hn=>by
   refine ⟨_,rfl,_,_,rfl,rfl,(by show (0:Int) < _;decide +kernel),rfl,_,rfl,ite2 (fun c=>?_) (fun _=>putT H2 pl rl ks none s2 hk)⟩
   have c':z % 4=2:=by
    have:=yK c
    injection this
   obtain ⟨xs,x,ex⟩:∃ xs x,ks=xs ++ [x]:=by
    rcases List.eq_nil_or_concat ks with e | ⟨xs,x,e⟩
    ·exact absurd e (hn c')
    ·exact ⟨xs,x,by rw [e,List.concat_eq_append]⟩
   have hx:Qaa x:=hk.pl x (by rw [ex];exact yY _ jX)
   have hD2:=hD0.same s2
   refine ⟨_,rfl,_,rfl,rl,_,_,_,rfl,rfl,Qc hk.hl,by rw [ex,xY];exact Yw _ _,_,rfl,_,rfl,_,_,rfl,rfl,l,_,_,_,rfl,rfl,hD2.lst,ez1,_,_,rfl,rfl,(by show (0:Int) < _;decide +kernel),_,rfl,_,rfl,_,_,rfl,rfl,l,_,_,_,rfl,rfl,hD2.lst,ez1,_,_,rfl,rfl,⟨by decide,by decide⟩,_,_,rfl,rfl,(by show (0:Int) < _;decide +kernel),_,_,rfl,rfl,by show 4<=sizeLine;decide,fun p hp=>?_⟩
   have s3:=Qf hp (.lst [.str "late",kV x,.int (z1 % 4),.int (1 + z1 / 4 % 9)])
   have e3:upd H2 p (.lst [.str "late",kV x,.int (z1 % 4),.int (1 + z1 / 4 % 9)]) p=some (.lst [.str "late",kV x,.int (z1 % 4),.int (1 + z1 / 4 % 9)]):=Qd
   dsimp only
   have np:H p=none:=by
    cases e:H p with
    | none=>rfl
    | some o=>rw [s2 _ _ e] at hp;cases hp
   generalize upd H2 p (.lst [.str "late",kV x,.int (z1 % 4),.int (1 + z1 / 4 % 9)])=H3 at s3 e3 ⊢
   have s03:=s2.trans s3
   have krow:∀ {H':Hp} (y:Key),Qaa y->H' p=some (.lst [.str "late",kV y,.int (z1 % 4),.int (1 + z1 / 4 % 9)])->KR H' p [.inr "late",y,.inl (z1 % 4),.inl (1 + z1 / 4 % 9)]:=fun y hy h=>⟨h,by show 4<=5;decide,fun k hk=>by
    rcases jJ.mp hk with rfl | hk
    ·exact ⟨by decide +kernel,by decide +kernel⟩
    rcases jJ.mp hk with rfl | hk
    ·exact hy
    rcases jJ.mp hk with rfl | hk
    ·exact trivial
    ·rw [jQ.mp hk];exact trivial⟩
   have fin:∀ (H':Hp) (y:Key) (u6:Option V),Same H H'->Qaa y->H' p=some (.lst [.str "late",kV y,.int (z1 % 4),.int (1 + z1 / 4 % 9)])->∃ v:V,([some (V.ref l),some (.int at_),some (.ref b),some (.int z),some (.int pl),some (.ref p),u6]:St)[2]?=some (some v)/\∃ p2 vs2,[v]=[V.ref p2]/\(SqL K H' p2 vs2\/SqT K H' p2 vs2)/\rT7 { nx:=fun x H'=>Q V.non H',rt:=Q } [some (.ref l),some (.int at_),some (.ref b),some (.int z),some (.int ((vs2.length:Nat):Int)),some (.ref p),u6] H':=fun H' y u6 s' hy h=>⟨_,rfl,b,us,rfl,.inl (Qc (s' _ _ hb)),putT H' _ p _ u6 s' (krow y hy h)⟩
   obtain ⟨zs,ezs,eB,hzs⟩:=Kk (hB.same s03)
   have hb3:=s03 _ _ hb
   rw [ezs] at hb3
   have lz:zs.length<=10000:=by have:=congrArg List.length eB;rw [jK] at this;lia
   refine ⟨_,rfl,b,rfl,⟨_,Qc hb3⟩,fun D hD=>?_⟩
   refine Qjb kV (fun z:Addr × BR=>z.2.c1) (fun z:Addr × BR=>isW "work" z.2) rfl (Ze (val:=fun z:Addr × BR=>V.ref z.1) (Qc hb3)) (by lia) hD (fun z hz' H1 s1 P h=>?_) (fun z hz' _ H1 s1 P h=>?_) fun H1 s1 h1=>?_
   ·exact ⟨_,rfl,z.1,_,_,_,rfl,rfl,Qc (s1 _ _ (hzs z hz')),Km z.2,rfl,_,rfl,h H1 (Same.refl _)⟩
   ·exact ⟨_,rfl,z.1,_,_,_,rfl,rfl,Qc (s1 _ _ (hzs z hz')),at_c1 z.2,h H1 (Same.refl _)⟩
   have h1:H1 D=some (.lst ((thOf (zs.map (·.2)) "work").map kV)):=by
    rw [h1]
    unfold thOf
    simp only [List.filter_map,jKa]
    rfl
   rw [eB] at h1
   have wp:∀ k ∈ thOf B "work",Qaa k:=fun k hk=>Qfg hG hk
   generalize thOf B "work"=ws at h1 wp
   have s04:=s03.trans s1
   refine ⟨_,rfl,by show 0<=sizeLine;decide,fun e he=>?_⟩
   have s5:=Qf he (.lst [])
   have e5:upd H1 e (.lst []) e=some (.lst []):=Qd
   generalize upd H1 e (.lst [])=H5 at s5 e5 ⊢
   have s05:=s04.trans s5
   have p5:=s5 _ _ (s1 _ _ e3)
   refine ⟨D,e,ws.map kV,rfl,rfl,Qc (s5 _ _ h1),Qc e5,_,rfl,ite2 (fun c5=>?_) (fun _=>fin H5 x _ s05 hx p5)⟩
   have hw1:1<=ws.length:=by
    cases ws with
    | nil=>exact (nomatch c5)
    | cons _ _=>rw [zJ];lia
   have lw:(ws.map kV).length=ws.length:=jK ..
   have hD5:=hD0.same s05
   have m0':=zQ (z1 / 64) (show (ws.length:Int) ≠ 0 by lia)
   have m1':=yZ (z1 / 64) (show (0:Int) < (ws.length:Int) by lia)
   obtain ⟨y,hy,ey⟩:=Qjr m0' m1'
   refine ⟨_,rfl,_,rfl,_,rfl,_,_,rfl,rfl,l,_,_,_,rfl,rfl,hD5.lst,ez1,_,_,rfl,rfl,⟨by decide,by decide⟩,_,rfl,D,_,rfl,.inl (Qc (s5 _ _ h1)),_,_,rfl,rfl,by show (0:Int) < _;lia,D,_,_,_,rfl,rfl,Qc (s5 _ _ h1),by rw [lw];exact ey,?_⟩
   refine ⟨_,rfl,p,_,1,1,rfl,rfl,p5,rfl,?_⟩
   exact fin _ y _ (Yr s05 np) (wp y hy) Qd
  refine ⟨_,rfl,_,_,rfl,rfl,(by show (0:Int) < _;decide +kernel),rfl,_,rfl,ite2 (fun cc=>?_) (fun _=>step6 H1 rl _ s1 (kr.same s1) fun _=>Kz r)⟩
  have hD1:=hD0.same s1
  refine ⟨_,rfl,_,rfl,_,rfl,_,_,rfl,rfl,l,_,_,_,rfl,rfl,hD1.lst,ez1,_,rfl,_,b,z1,us,B,rfl,s1 _ _ hb,hB.same s1,hG,hBl,z10,fun l' ks H2 s2 hk=>?_⟩
  exact step6 H2 l' ks (s1.trans s2) hk fun h=>absurd (show z % 4=1 by have:=yK cc;injection this) (by lia)
 refine ⟨_,rfl,_,_,rfl,rfl,(by show (0:Int) < _;decide +kernel),rfl,_,rfl,ite2 (fun _=>?_) (fun _=>step4 H (Same.refl _))⟩
 refine ⟨_,rfl,by show 0<=sizeLine;decide,fun e he=>?_⟩
 have s1:=Qf he (.lst [])
 refine ⟨b,e,us,rfl,rfl,Qc (s1 _ _ hb),Qc Qd,_,rfl,ite2 (fun _=>?_) (fun _=>step4 _ s1)⟩
 generalize upd H e (.lst [])=H1 at s1 ⊢
 refine ⟨_,rfl,by show 0<=sizeLine;decide,fun rl hrl=>?_⟩
 have s2:=Qf hrl (.lst [])
 have k2:KR (upd H1 rl (.lst [])) rl []:=⟨Qd,wX _,fun k hk=>(nomatch hk)⟩
 generalize upd H1 rl (.lst [])=H2 at s2 k2 ⊢
 refine ⟨by show 3<=sizeLine;decide,fun t ht=>?_⟩
 have s3:=Qf ht (.tup [.str "take",.int pl,.ref rl])
 exact q t "take" pl rl [] _ ((s1.trans s2).trans s3) (Yb Qd) (k2.same s3) (.inl rfl)
abbrev Qfh:Stmt:=top 152
theorem Ku {ns:List Str} {i:Nat} {v:V} (h:(ns.map V.str)[i]?=some v):∃ n,ns[i]?=some n/\v=.str n:=by
 rw [xJ] at h
 cases e:ns[i]? with
 | none=>rw [e] at h;cases h
 | some n=>rw [e] at h;exact ⟨n,rfl,(Option.some.inj h).symm⟩
theorem Yk {qs:List Str} (h:qs.Nodup) {i:Nat} {b x:Str} (e:qs[i]?=some b) (hx:x ∈ qs.take i):x ≠ b:=by
 rintro rfl
 obtain ⟨j,hj,ej⟩:=List.getElem_of_mem hx
 rw [yW] at hj
 obtain ⟨hi,ei⟩:=kZ.mp e
 rw [List.getElem_take] at ej
 have:=(List.getElem_inj h).mp (ej.trans ei.symm)
 lia
theorem Xq {qs:List Str} {i:Nat} {b:Str} (e:qs[i]?=some b):b ∈ qs.take (i + 1):=by
 rw [takeS e];exact yY _ (jQ.mpr rfl)
theorem Xx {qs:List Str} {i:Nat} {b x:Str} (e:qs[i]?=some b) (h:x ∈ qs.take i):x ∈ qs.take (i + 1):=by
 rw [takeS e];exact jXd _ h
theorem bind7 {F:List Value->Prop} (h:∀ a b c d e f g,F [a,b,c,d,e,f,g]):∀ us:List Value,us.length=7->F us:=fun us hl=>by
 match us,hl with
 | [a,b,c,d,e,f,g],_=>exact h a b c d e f g
theorem Qls {k k':Fin 3} (h:useW k=useW k'):k=k':=by
 match k,k',h with
 | 0,0,_=>rfl
 | 1,1,_=>rfl
 | 2,2,_=>rfl
 | 0,1,z=>exact absurd z (by decide +kernel)
 | 0,2,z=>exact absurd z (by decide +kernel)
 | 1,0,z=>exact absurd z (by decide +kernel)
 | 1,2,z=>exact absurd z (by decide +kernel)
 | 2,0,z=>exact absurd z (by decide +kernel)
 | 2,1,z=>exact absurd z (by decide +kernel)
theorem Qee {w v t t':Str} {k k':Fin 3} {m m':Int} (h:k'=k->t' ≠ t):Qgd (.use k' w v t' m') (.use k w v t m):=by
 refine .inr (.inr fun z=>?_)
 have z':[(Sum.inr (useW k'):Key),Sum.inr w,Sum.inr v,Sum.inr t']=[Sum.inr (useW k),Sum.inr w,Sum.inr v,Sum.inr t]:=z
 injection z' with z1 z2
 injection z2 with _ z3
 injection z3 with _ z4
 injection z4 with z5
 injection z5 with z6
 injection z1 with z7
 exact h (Qls z7) z6
theorem Qef {w v w' v' t:Str} {l c m:Int} {k:Fin 3}:Qgd (.way w v l c) (.use k w' v' t m):=Qgf (by show (5:Nat) ≠ 6 + k.val;lia)
structure WayTo (n:Int) (w v:Str) (qs ts:List Str) (i j:Nat) (R:List BR):Prop where
 hd:∃ l c U,R=.way w v l c :: U/\1<=l/\l<=n/\0<=c/\c<=999999/\∀ r ∈ U,∃ k t m,r=.use k w v t m/\1<=m/\m<=99/\((k=0/\t ∈ qs.take i)\/(k ≠ 0/\t ∈ ts.take j))
 nd:R.Pairwise Qgd
theorem WayTo.put {n:Int} {w v t:Str} {qs ts:List Str} {i j i' j':Nat} {R:List BR} {k:Fin 3} {m:Int} (h:WayTo n w v qs ts i j R) (m1:1<=m) (m2:m<=99) (hi:∀ x ∈ qs.take i,x ∈ qs.take i') (hj:∀ x ∈ ts.take j,x ∈ ts.take j') (hk:(k=0/\t ∈ qs.take i')\/(k ≠ 0/\t ∈ ts.take j'))
  (na:∀ k' t' m',BR.use k' w v t' m' ∈ R->k'=k->t' ≠ t):WayTo n w v qs ts i' j' (R ++ [.use k w v t m]):=by
 obtain ⟨l,c,U,rfl,l1,l2,c1,c2,hU⟩:=h.hd
 refine ⟨⟨l,c,U ++ [.use k w v t m],rfl,l1,l2,c1,c2,fun r hr=>?_⟩,List.pairwise_append.mpr ⟨h.nd,List.pairwise_singleton _ _,fun r hr x hx=>?_⟩⟩
 ·rcases yQ.mp hr with z | z
  ·obtain ⟨k',t',m',e,a,b,d⟩:=hU r z
   exact ⟨k',t',m',e,a,b,d.imp (fun y=>⟨y.1,hi _ y.2⟩) (fun y=>⟨y.1,hj _ y.2⟩)⟩
  ·exact ⟨k,t,m,jQ.mp z,m1,m2,hk⟩
 ·rw [jQ.mp hx]
  rcases jJ.mp hr with z | z
  ·rw [z];exact Qef
  ·obtain ⟨k',t',m',rfl,_⟩:=hU r z
   exact Qee (na k' t' m' hr)
theorem WayTo.more {n:Int} {w v:Str} {qs ts:List Str} {i j i' j':Nat} {R:List BR} (h:WayTo n w v qs ts i j R) (hi:∀ x ∈ qs.take i,x ∈ qs.take i') (hj:∀ x ∈ ts.take j,x ∈ ts.take j'):WayTo n w v qs ts i' j' R:=by
 obtain ⟨l,c,U,rfl,l1,l2,c1,c2,hU⟩:=h.hd
 exact ⟨⟨l,c,U,rfl,l1,l2,c1,c2,fun r hr=>let ⟨k',t',m',e,a,b,d⟩:=hU r hr;⟨k',t',m',e,a,b,d.imp (fun y=>⟨y.1,hi _ y.2⟩) (fun y=>⟨y.1,hj _ y.2⟩)⟩⟩,h.nd⟩
theorem WayTo.of {n:Int} {w v:Str} {qs ts:List Str} {i j:Nat} {R:List BR} (h:WayTo n w v qs ts i j R) {k:Fin 3} {t:Str} {m:Int} (hm:BR.use k w v t m ∈ R):(k=0/\t ∈ qs.take i)\/(k ≠ 0/\t ∈ ts.take j):=by
 obtain ⟨l,c,U,rfl,l1,l2,c1,c2,hU⟩:=h.hd
 rcases jJ.mp hm with z | z
 ·cases z
 ·obtain ⟨k',t',m',e,_,_,d⟩:=hU _ z
  cases e;exact d
theorem put_row {H H1:Hp} {g p:Addr} {vs:List V} {B:List BR} (r:BR) (nG:H g=none) (s1:Same H H1) (hg:H1 g=some (.lst vs)) (hB:RowsB H1 vs B) (hp:H1 p=none) :
  upd H1 p (.lst (r.cells.map kV)) g=some (.lst vs)/\RowsB (upd (upd H1 p (.lst (r.cells.map kV))) g (.lst (vs ++ [.ref p]))) (vs ++ [.ref p]) (B ++ [r])/\Same H (upd (upd H1 p (.lst (r.cells.map kV))) g (.lst (vs ++ [.ref p]))):=by
 have sp:=Qf hp (.lst (r.cells.map kV))
 have hg4:=sp _ _ hg
 refine ⟨hg4,((hB.same sp).snoc Qd).updL hg4 hB.noRow,fun c o e=>?_⟩
 rw [Ql (Qq e nG)]
 exact (s1.trans sp) _ _ e
def Qjt (K:Fg):Sp:=fun vs H Q _=>∃ (l q t:Addr) (ds:List Int) (at_ j n:Int) (w:Str) (qs ts:List Str),vs=[.ref l,.int at_,.str w,.int j,.int n,.ref q,.ref t]/\Dr K H l ds/\0<=j/\j<=100/\3 * j<=at_/\at_ + 2 < (ds.length:Int)/\1<=n/\n<=12/\SqL K H q (qs.map V.str)/\SqL K H t (ts.map V.str)/\qs.length<=2/\ts.length<=2/\qs.Nodup/\ts.Nodup /\
 ∀ (g:Addr) (vs:List V) (R:List BR) (v:Str) (H':Hp),Same H H'->H' g=some (.lst vs)->RowsB H' vs R->(∀ z,atI (ds.map V.int) (at_ - 3 * j)=some (.int z)->fl v=97 + ((z + 3 * j) % 26).toNat)->NmOk v->WayTo n w v qs ts qs.length ts.length R->R.length<=7->Q (.ref g) H'
theorem scWay80:FnScope ["_law_draws_here","_law_at","_law_work","_law_j","_law_days","_law_quays","_law_stocks","_law_way_here","_law_number","_law_found","_law_bench","_law_store"] ["_law_draws_here","_law_at","_law_work","_law_j","_law_days","_law_quays","_law_stocks"] (Qh Qfh):=⟨rfl,rfl,rfl,by decide +kernel,rfl,by decide +kernel,by decide +kernel⟩
theorem Qpe  (F:Fn K mg "_law_way" Qfh) (M:Mg mg) (cl_name:Cal P w K mg base 1 "_law_name" ["_law_k","_law_number"] (Qbf)):Cal P w K mg base 2 "_law_way" ["_law_draws_here","_law_at","_law_work","_law_j","_law_days","_law_quays","_law_stocks"] (Qjt K):=by
 refine Xv F scWay80 (fun _ _ _ _ _ _=>bind7 (fun _ _ _ _ _ _ _=>rfl)) (fun vs H Q E h=>?_) (fun f cdv A outer s H vs Q E hr h=>?_)
 ·obtain ⟨l,q,t,ds,at_,j,n,w0,qs,ts,rfl,_⟩:=h
  rfl
 obtain ⟨l,q,t,ds,at_,j,n,w0,qs,ts,rfl,hD0,j0,j1,aj,al,n1,n12,hq,ht,lq,lt,nq,nt,qq⟩:=h
 refine ⟨_,(Qe (Qs (i:=7) scWay80.nd rfl (Or.inl rfl) (Xz cl_name (hr.mono (by decide)) (Qa (Qj Zm Qb (pv 3)) (Qa (Qp Qk (pv 0) (Qj Qei (pv 1) (Qj Zm Qb (pv 3))) (fun _ _=>rfl)) Qg))))
  (Qe (Qs (i:=8) scWay80.nd rfl (Or.inl rfl) (Qp Qk (pv 0) (Qj Qo (pv 1) Qb) (fun _ _=>rfl)))
  (Qe (Qs (i:=9) scWay80.nd rfl (Or.inl rfl) (Xi (Qa (Xi (Qa Qx (Qa (pv 2) (Qa (pv 7) (Qa (Qj Qo Qb (Qj Qv (pv 8) (Qm (Zz rfl) rfl M.min Qcj (Qa (pv 4) (Qa Qb Qg))))) (Qa (Qj Qv (Qj Xh (pv 8) Qb) Qb) Qg)))))) Qg)))
  (Qe (Yz PassesOwn.never rfl (Ye (pv 5)) (Xb (i:=10) scWay80.nd rfl (Or.inl rfl) (Or.inl rfl)) (Qi (Xm (Qr Xy (Qj Qv (Qp Qk (pv 0) (Qj Qo (pv 1) Qb) (fun _ _=>rfl)) Qb) Qb (Qu _)) (Qi (Xg (Zs PySem.F.plainAttrs_list PySem.F.slot_list_append PySem.F.type_list_append Xc (pv 9) (Qa (Xi (Qa Qx (Qa (pv 2) (Qa (pv 7) (Qa (pv 10) (Qa (Qj Qo Qb (Qj Qv (Qj Xh (Qp Qk (pv 0) (Qj Qo (pv 1) Qb) (fun _ _=>rfl)) Qb) Qb)) Qg)))))) Qg)))) Qt)))
  (Qe (Yz PassesOwn.never rfl (Ye (pv 6)) (Xb (i:=11) scWay80.nd rfl (Or.inl rfl) (Or.inl rfl)) (Qe (Xm (Qr Xy (Qj Qv (Qj Xh (Qp Qk (pv 0) (Qj Qo (pv 1) Qb) (fun _ _=>rfl)) Qb) Qb) Qb (Qu _)) (Qi (Xg (Zs PySem.F.plainAttrs_list PySem.F.slot_list_append PySem.F.type_list_append Xc (pv 9) (Qa (Xi (Qa Qx (Qa (pv 2) (Qa (pv 7) (Qa (pv 11) (Qa (Qj Qo Qb (Qj Qv (Qj Xh (Qp Qk (pv 0) (Qj Qo (pv 1) Qb) (fun _ _=>rfl)) Qb) Qb)) Qg)))))) Qg)))) Qt)
  (Qi (Xm (Qr Xy (Qj Qv (Qj Xh (Qp Qk (pv 0) (Qj Qo (pv 1) Qb) (fun _ _=>rfl)) Qb) Qb) Qb (Qu _)) (Qi (Xg (Zs PySem.F.plainAttrs_list PySem.F.slot_list_append PySem.F.type_list_append Xc (pv 9) (Qa (Xi (Qa Qx (Qa (pv 2) (Qa (pv 7) (Qa (pv 11) (Qa (Qj Qo Qb (Qj Qv (Qj Xh (Qp Qk (pv 0) (Qj Qo (pv 1) Qb) (fun _ _=>rfl)) Qb) Qb)) Qg)))))) Qg)))) Qt))))
  (Qi (Xa (pv 9)))))))),?_⟩
 have hz:(20000:Nat) < sizeLine:=by decide
 have lqm:(qs.map V.str).length=qs.length:=jK ..
 have ltm:(ts.map V.str).length=ts.length:=jK ..
 obtain ⟨z0,ez0,z00,z01⟩:=hD0.get (at_ - 3 * j) (by lia) (by lia)
 obtain ⟨z1,ez1,z10,z11⟩:=hD0.get (at_ + 1) (by lia) (by lia)
 obtain ⟨z2,ez2,z20,z21⟩:=hD0.get (at_ + 2) (by lia) (by lia)
 refine ⟨_,rfl,_,_,rfl,rfl,.inl ⟨by decide,by decide⟩,_,rfl,_,rfl,_,rfl,_,_,rfl,rfl,.inl ⟨by decide,by decide⟩,_,_,rfl,rfl,l,_,_,_,rfl,rfl,hD0.lst,ez0,_,_,rfl,fun v hv hvl=>?_⟩
 refine ⟨_,rfl,_,rfl,_,_,rfl,rfl,l,_,_,_,rfl,rfl,hD0.lst,ez1,?_⟩
 have pm:(0:Int) < (if 3 < n then 3 else n):=by split <;> lia
 have pn:(if 3 < n then 3 else n)<=n:=by split <;> lia
 have k0:=zQ z1 (Int.ne_of_gt pm)
 have k1:=yZ z1 pm
 have k2:=zQ (z1 / 3) (show (20:Int) ≠ 0 by decide)
 have k3:=yZ (z1 / 3) (show (0:Int) < 20 by decide)
 refine ⟨_,rfl,_,rfl,_,rfl,_,rfl,_,_,rfl,_,_,rfl,rfl,pm,_,_,rfl,rfl,_,rfl,_,_,rfl,rfl,⟨by decide,by decide⟩,_,_,rfl,rfl,(by show (0:Int) < _;decide +kernel),by show 5<=sizeLine;decide,fun p hp=>⟨by show 1<=sizeLine;decide,fun g hg=>?_⟩⟩
 generalize z1 % (if 3 < n then 3 else n)=ll at k0 k1 hp hg ⊢
 have sp:=Qf hp (.lst [.str "way",.str w0,.str v,.int (1 + ll),.int (z1 / 3 % 20)])
 have nG:H g=none:=by
  cases e:H g with
  | none=>rfl
  | some o=>rw [sp _ _ e] at hg;cases hg
 have sg:=Qf hg (.lst [.ref p])
 have hp0:=sg _ _ (Qd (H:=H) (a:=p) (o:=.lst ((BR.way w0 v (1 + ll) (z1 / 3 % 20)).cells.map kV)))
 have s0:=sp.trans sg
 have hg0:upd (upd H p (.lst [.str "way",.str w0,.str v,.int (1 + ll),.int (z1 / 3 % 20)])) g (.lst [.ref p]) g=some (.lst [.ref p]):=Qd
 have hB0:RowsB (upd (upd H p (.lst [.str "way",.str w0,.str v,.int (1 + ll),.int (z1 / 3 % 20)])) g (.lst [.ref p])) [.ref p] [.way w0 v (1 + ll) (z1 / 3 % 20)]:=RowsB.snoc (vs:=[]) (B:=[]) .nil hp0
 generalize upd (upd H p (.lst [.str "way",.str w0,.str v,.int (1 + ll),.int (z1 / 3 % 20)])) g (.lst [.ref p])=H0 at s0 hg0 hB0 ⊢
 have W0:WayTo n w0 v qs ts 0 0 [.way w0 v (1 + ll) (z1 / 3 % 20)]:=⟨⟨_,_,[],rfl,by lia,by lia,by lia,by lia,fun _ h=>(nomatch h)⟩,List.pairwise_singleton _ _⟩
 let Pv10:Nat->St->Hp->Prop:=fun i σ H1=>∃ (v10:Option V) (vs:List V) (B:List BR),σ=[some (.ref l),some (.int at_),some (.str w0),some (.int j),some (.int n),some (.ref q),some (.ref t),some (.str v),some (.int z1),some (.ref g),v10,none]/\H1 g=some (.lst vs)/\RowsB H1 vs B/\WayTo n w0 v qs ts i 0 B/\B.length<=1 + i/\Same H H1
 refine ⟨_,rfl,q,rfl,⟨_,s0.seq hq⟩,Vd (K:=K) (a:=q) (xs:=qs.map V.str) Pv10 ⟨none,_,_,rfl,hg0,hB0,W0,kQ _,s0⟩ (fun i σ H1 _ h=>?_) ?_ ?_⟩
 ·obtain ⟨v10,vs,B,rfl,hg1,hB,hW,hl,s1⟩:=h
  exact s1.seq hq
 ·rintro i x σ H1 e1 ⟨v10,vs,B,rfl,hg1,hB,hW,hl,s1⟩
  obtain ⟨b,eb,rfl⟩:=Ku e1
  have hi:i < qs.length:=(kZ.mp eb).1
  have lv:=hB.length
  refine ⟨_,rfl,_,rfl,_,_,rfl,rfl,l,_,_,_,rfl,rfl,(hD0.same s1).lst,ez2,_,_,rfl,rfl,(by show (0:Int) < _;decide +kernel),rfl,_,rfl,ite2 (fun _=>?_) (fun _=>⟨_,vs,B,rfl,hg1,hB,hW.more (fun x hx=>Xx eb hx) (fun x hx=>hx),by lia,s1⟩)⟩
  refine ⟨_,rfl,.inl ⟨rfl,_,Qc hg1⟩,_,rfl,_,rfl,_,rfl,_,rfl,_,rfl,_,_,rfl,rfl,l,_,_,_,rfl,rfl,(hD0.same s1).lst,ez2,_,_,rfl,rfl,⟨by decide,by decide⟩,_,_,rfl,rfl,(by show (0:Int) < _;decide +kernel),_,_,rfl,rfl,by show 5<=sizeLine;decide,fun p4 hp4=>?_⟩
  obtain ⟨hg4,hB5,s5⟩:=put_row (.use 0 w0 v b (1 + z2 / 2 % 2)) nG s1 hg1 hB hp4
  refine ⟨g,_,_,rfl,rfl,hg4,by lia,_,_,_,rfl,Qd,hB5,hW.put (by lia) (by lia) (fun x hx=>Xx eb hx) (fun x hx=>hx) (.inl ⟨rfl,Xq eb⟩) (fun k' t' m' hm ek=>?_),by rw [jW];show B.length + 1<=_;lia,s5⟩
  rcases hW.of hm with ⟨_,y⟩ | ⟨y,_⟩
  ·exact Yk nq eb y
  ·exact absurd ek y
 rintro σ H1 ⟨v10,vs,B,rfl,hg1,hB,hW,hl,s1⟩
 rw [lqm] at hW hl
 let Pv11:Nat->St->Hp->Prop:=fun i σ H1=>∃ (v11:Option V) (vs:List V) (B:List BR),σ=[some (.ref l),some (.int at_),some (.str w0),some (.int j),some (.int n),some (.ref q),some (.ref t),some (.str v),some (.int z1),some (.ref g),v10,v11]/\H1 g=some (.lst vs)/\RowsB H1 vs B/\WayTo n w0 v qs ts qs.length i B/\B.length<=3 + 2 * i/\Same H H1
 refine ⟨_,rfl,t,rfl,⟨_,s1.seq ht⟩,Vd (K:=K) (a:=t) (xs:=ts.map V.str) Pv11 ⟨none,vs,B,rfl,hg1,hB,hW,by lia,s1⟩ (fun i σ H1 _ h=>?_) ?_ ?_⟩
 ·obtain ⟨v11,vs,B,rfl,hg1,hB,hW,hl,s1⟩:=h
  exact s1.seq ht
 ·rintro i x σ H1 e1 ⟨v11,vs,B,rfl,hg1,hB,hW,hl,s1⟩
  obtain ⟨b,eb,rfl⟩:=Ku e1
  have hi:i < ts.length:=(kZ.mp eb).1
  have lv:=hB.length
  show tSeq _ _ _ _ _
  refine Qbc (fun σ' H2=>∃ (vs:List V) (B:List BR),σ'=[some (.ref l),some (.int at_),some (.str w0),some (.int j),some (.int n),some (.ref q),some (.ref t),some (.str v),some (.int z1),some (.ref g),v10,some (.str b)]/\H2 g=some (.lst vs)/\RowsB H2 vs B/\WayTo n w0 v qs ts qs.length (i + 1) B/\(∀ m,BR.use 2 w0 v b m ∉ B)/\B.length<=4 + 2 * i/\Same H H2) ?_ fun REST=>?_
  ·rintro σ' H2 ⟨vs2,B2,rfl,hg2,hB2,hW2,hn2,hl2,s2⟩
   have lv2:=hB2.length
   refine ⟨_,rfl,_,rfl,_,_,rfl,rfl,l,_,_,_,rfl,rfl,(hD0.same s2).lst,ez2,_,_,rfl,rfl,⟨by decide,by decide⟩,_,_,rfl,rfl,(by show (0:Int) < _;decide +kernel),rfl,_,rfl,ite2 (fun _=>?_) (fun _=>⟨_,vs2,B2,rfl,hg2,hB2,hW2,by lia,s2⟩)⟩
   refine ⟨_,rfl,.inl ⟨rfl,_,Qc hg2⟩,_,rfl,_,rfl,_,rfl,_,rfl,_,rfl,_,_,rfl,rfl,l,_,_,_,rfl,rfl,(hD0.same s2).lst,ez2,_,_,rfl,rfl,⟨by decide,by decide⟩,_,_,rfl,rfl,(by show (0:Int) < _;decide +kernel),_,_,rfl,rfl,by show 5<=sizeLine;decide,fun p4 hp4=>?_⟩
   obtain ⟨hg4,hB5,s5⟩:=put_row (.use 2 w0 v b (1 + z2 / 32 % 2)) nG s2 hg2 hB2 hp4
   refine ⟨g,_,_,rfl,rfl,hg4,by lia,_,_,_,rfl,Qd,hB5,hW2.put (by lia) (by lia) (fun x hx=>hx) (fun x hx=>hx) (.inr ⟨by decide,Xq eb⟩) (fun k' t' m' hm ek=>?_),by rw [jW];show B2.length + 1<=_;lia,s5⟩
   subst ek
   rintro rfl
   exact hn2 _ hm
  ·have na:∀ (k:Fin 3) m,k ≠ 0->BR.use k w0 v b m ∉ B:=fun k m hk hm=>by
    rcases hW.of hm with ⟨y,_⟩ | ⟨_,y⟩
    ·exact hk y
    ·exact Yk nt eb y rfl
   refine ⟨_,rfl,_,rfl,_,_,rfl,rfl,l,_,_,_,rfl,rfl,(hD0.same s1).lst,ez2,_,_,rfl,rfl,⟨by decide,by decide⟩,_,_,rfl,rfl,(by show (0:Int) < _;decide +kernel),rfl,_,rfl,ite2 (fun _=>?_) (fun _=>REST _ _ ⟨vs,B,rfl,hg1,hB,hW.more (fun x hx=>hx) (fun x hx=>Xx eb hx),fun m=>na 2 m (by decide),by lia,s1⟩)⟩
   refine ⟨_,rfl,.inl ⟨rfl,_,Qc hg1⟩,_,rfl,_,rfl,_,rfl,_,rfl,_,rfl,_,_,rfl,rfl,l,_,_,_,rfl,rfl,(hD0.same s1).lst,ez2,_,_,rfl,rfl,⟨by decide,by decide⟩,_,_,rfl,rfl,(by show (0:Int) < _;decide +kernel),_,_,rfl,rfl,by show 5<=sizeLine;decide,fun p4 hp4=>?_⟩
   obtain ⟨hg4,hB5,s5⟩:=put_row (.use 1 w0 v b (1 + z2 / 8 % 2)) nG s1 hg1 hB hp4
   refine ⟨g,_,_,rfl,rfl,hg4,by lia,REST _ _ ⟨_,_,rfl,Qd,hB5,hW.put (by lia) (by lia) (fun x hx=>hx) (fun x hx=>Xx eb hx) (.inr ⟨by decide,Xq eb⟩) (fun k' t' m' hm ek=>?_),fun m hm=>?_,by rw [jW];show B.length + 1<=_;lia,s5⟩⟩
   ·subst ek
    rintro rfl
    exact na 1 _ (by decide) hm
   ·rcases yQ.mp hm with y | y
    ·exact na 2 m (by decide) y
    ·have:=jQ.mp y
     injection this with y1
     exact absurd y1 (by decide)
 ·rintro σ H1 ⟨v11,vs,B,rfl,hg1,hB,hW,hl,s1⟩
  rw [ltm] at hW hl
  exact ⟨_,rfl,qq g vs B v H1 s1 hg1 hB (fun z hz'=>by rw [ez0] at hz';cases hz';exact hv) hvl hW (by lia)⟩
end
theorem Zw {B:List BR} {r:BR} (h:Said B r.key):∃ q ∈ B,q.kind=r.kind/\q.names=r.names:=by
 obtain ⟨q,hq,e⟩:=h
 have e':(Sum.inr q.word:Key) :: q.names.map Sum.inr=Sum.inr r.word :: r.names.map Sum.inr:=e
 injection e' with e1 e2
 refine ⟨q,hq,Qcz (Sum.inr.inj e1),?_⟩
 have:∀ {xs ys:List Str},xs.map (Sum.inr:Str->Key)=ys.map Sum.inr->xs=ys:=fun {xs}=>by
  induction xs with
  | nil=>intro ys h;cases ys with | nil=>rfl | cons _ _=>cases h
  | cons x xs ih =>
   intro ys h
   cases ys with
   | nil=>cases h
   | cons y ys=>injection h with h1 h2;rw [Sum.inr.inj h1,ih h2]
 exact this e2
theorem Vj {B C:List BR} {k:List Key} (h:Said B k):Said (B ++ C) k:=h.mono fun q hq=>jXd _ hq
theorem Qju {B:List BR} {r:BR} (h:B ≠ []):Zh (B ++ [r])=Zh B:=by
 cases B with
 | nil=>exact absurd rfl h
 | cons q B=>cases q <;> rfl
structure GI (n:Int) (B:List BR) (SD:List Key->Prop) (lim:BR->Prop):Prop where
 gd:Good B
 ne:B ≠ []
 dy:Zh B=n
 lm:∀ q ∈ B,lim q
 sd:∀ k,SD k->Said B k
theorem GI.put {n:Int} {B:List BR} {SD SD':List Key->Prop} {lim lim':BR->Prop} (h:GI n B SD lim) (r:BR) (f:∃ q,Fit B r.cells q) (hl:∀ q ∈ B,lim q->lim' q) (hr:lim' r) (hs:∀ k,SD' k->SD k\/k=r.key):GI n (B ++ [r]) SD' lim':=by
 obtain ⟨q,f⟩:=f
 have e:q=r:=Kj f.eq.symm
 subst e
 refine ⟨h.gd.snoc f,by simp,by rw [Qju h.ne];exact h.dy,fun p hp=>?_,fun k hk=>?_⟩
 ·rcases yQ.mp hp with z | z
  ·exact hl p z (h.lm p z)
  ·rw [jQ.mp z];exact hr
 ·rcases hs k hk with z | z
  ·exact Vj (h.sd k z)
  ·exact ⟨q,yY _ jX,z.symm⟩
theorem GI.mono {n:Int} {B:List BR} {SD SD':List Key->Prop} {lim lim':BR->Prop} (h:GI n B SD lim) (hl:∀ q ∈ B,lim q->lim' q) (hs:∀ k,SD' k->SD k):GI n B SD' lim':=⟨h.gd,h.ne,h.dy,fun q hq=>hl q hq (h.lm q hq),fun k hk=>h.sd k (hs k hk)⟩
abbrev bK (b:Str):List Key:=[.inr "bench",.inr b]
abbrev sK (b:Str):List Key:=[.inr "store",.inr b]
abbrev wK (b:Str):List Key:=[.inr "work",.inr b]
def limB (qs:List Str) (i:Nat):BR->Prop
 | .days _=>True
 | .bench b _=>b ∈ qs.take i
 | .shut _ _ _=>True
 | _=>False
def limS (ts:List Str) (i:Nat):BR->Prop
 | .days _=>True
 | .bench _ _=>True
 | .shut _ _ _=>True
 | .store s _ _=>s ∈ ts.take i
 | _=>False
def limV (ws:List Str) (i i':Nat) (w0:Str) (z:Int) (j:Nat):BR->Prop
 | .work w=>w ∈ ws.take i'
 | .way w v _ _=>w ∈ ws.take i\/(w=w0/\∃ j' < j,fl v=97 + ((z + 3 * (j':Int)) % 26).toNat)
 | .use _ w v _ _=>w ∈ ws.take i\/(w=w0/\∃ j' < j,fl v=97 + ((z + 3 * (j':Int)) % 26).toNat)
 | .after _ _ _=>False
 | .late _ _ _=>False
 | _=>True
def limA (ws:List Str) (m:Nat):BR->Prop
 | .after w x _=>∃ k,k < m/\((ws[k]?=some w/\ws[k + 1]?=some x)\/(ws[k + 1]?=some w/\ws[0]?=some x))
 | .late _ _ _=>False
 | _=>True
def limL (ws:List Str) (i:Nat):BR->Prop
 | .late w _ _=>w ∈ ws.take i
 | _=>True
def SD1 (qs:List Str) (k:List Key):Prop:=∃ b ∈ qs,k=bK b
def SD2 (qs ts:List Str) (k:List Key):Prop:=SD1 qs k\/∃ b ∈ ts,k=sK b
def SD3 (qs ts ws:List Str) (k:List Key):Prop:=SD2 qs ts k\/∃ b ∈ ws,k=wK b
theorem GI.start {n:Int} (h1:1<=n) (h2:n<=12) (qs:List Str):GI n [.days n] (SD1 (qs.take 0)) (limB qs 0):=by
 refine ⟨?_,by simp,rfl,fun q hq=>by rw [jQ.mp hq];exact trivial,fun k ⟨b,hb,_⟩=>by rw [kXe] at hb;cases hb⟩
 have:=Good.nil.snoc (ks:=(BR.days n).cells) (r:=.days n) ⟨rfl,fun x hx=>(nomatch hx),⟨.cons ⟨h1,h2⟩ .nil,True.intro⟩,fun _ ⟨q,hq,_⟩=>(nomatch hq),fun k hk=>(nomatch hk)⟩
 exact this
section
variable {n:Int} {B:List BR} {qs ts ws:List Str}
theorem GI.bench {i:Nat} {b:Str} {m:Int} (h:GI n B (SD1 (qs.take i)) (limB qs i)) (nd:qs.Nodup) (e:qs[i]?=some b) (hb:NmOk b) (m0:0<=m) (m1:m<=99):GI n (B ++ [.bench b m]) (SD1 (qs.take (i + 1))) (limB qs (i + 1)):=by
 refine h.put _ ((Qjd h.gd h.ne).mpr ⟨⟨b,rfl,hb⟩,fun hs=>?_,m,rfl,m0,m1⟩) (fun q hq hl=>?_) (Xq e) fun k ⟨b',hb',ek⟩=>?_
 ·obtain ⟨q,hq,hk,hn⟩:=Zw (r:=.bench b m) hs
  obtain ⟨b',m',rfl⟩:=Jl hk
  injection hn with e1
  exact Yk nd e (h.lm _ hq) e1
 ·cases q with
  | bench b' m'=>exact Xx e hl
  | _=>exact hl
 ·rw [Kf e] at hb'
  rcases yQ.mp hb' with z | z
  ·exact .inl ⟨b',z,ek⟩
  ·rw [jQ.mp z] at ek;exact .inr ek
theorem GI.shut {i:Nat} {b:Str} {x y:Int} (h:GI n B (SD1 (qs.take i)) (limB qs i)) (hb:b ∈ qs.take i) (x0:0<=x) (xy:x + 1<=y) (yn:y<=n):GI n (B ++ [.shut b x y]) (SD1 (qs.take i)) (limB qs i):=by
 refine h.put _ ((Qll h.gd).mpr ⟨h.sd _ ⟨b,hb,rfl⟩,x,rfl,x0,by rw [h.dy];lia,y,rfl,xy,by rw [h.dy];exact yn⟩) (fun q hq hl=>hl) trivial fun k hk=>.inl hk
theorem GI.toS (h:GI n B (SD1 (qs.take qs.length)) (limB qs qs.length)):GI n B (SD2 qs (ts.take 0)) (limS ts 0):=by
 rw [wV] at h
 refine h.mono (fun q hq hl=>?_) fun k hk=>?_
 ·cases q with
  | days=>trivial
  | bench=>trivial
  | shut=>trivial
  | _=>exact hl.elim
 ·rcases hk with z | ⟨b,hb,_⟩
  ·exact z
  ·rw [kXe] at hb;cases hb
theorem GI.store {i:Nat} {b:Str} {m f:Int} (h:GI n B (SD2 qs (ts.take i)) (limS ts i)) (nd:ts.Nodup) (e:ts[i]?=some b) (hb:NmOk b) (m0:0<=m) (m1:m<=999) (f0:0<=f) (f1:f<=m):GI n (B ++ [.store b m f]) (SD2 qs (ts.take (i + 1))) (limS ts (i + 1)):=by
 refine h.put _ ((Qje h.gd h.ne).mpr ⟨⟨b,rfl,hb⟩,fun hs=>?_,m,rfl,m0,m1,f,rfl,f0,f1⟩) (fun q hq hl=>?_) (Xq e) fun k hk=>?_
 ·obtain ⟨q,hq,hk,hn⟩:=Zw (r:=.store b m f) hs
  obtain ⟨b',m',f',rfl⟩:=Zp hk
  injection hn with e1
  exact Yk nd e (h.lm _ hq) e1
 ·cases q with
  | store=>exact Xx e hl
  | _=>exact hl
 ·rcases hk with z | ⟨b',hb',ek⟩
  ·exact .inl (.inl z)
  ·rw [Kf e] at hb'
   rcases yQ.mp hb' with z | z
   ·exact .inl (.inr ⟨b',z,ek⟩)
   ·rw [jQ.mp z] at ek;exact .inr ek
theorem GI.toW (h:GI n B (SD2 qs (ts.take ts.length)) (limS ts ts.length)):GI n B (SD3 qs ts (ws.take 0)) (limV ws 0 0 "" 0 0):=by
 rw [wV] at h
 refine h.mono (fun q hq hl=>?_) fun k hk=>?_
 ·cases q with
  | days=>trivial
  | bench=>trivial
  | shut=>trivial
  | store=>trivial
  | _=>exact hl.elim
 ·rcases hk with z | ⟨b,hb,_⟩
  ·exact z
  ·rw [kXe] at hb;cases hb
theorem GI.work {i:Nat} {b w:Str} {z z':Int} (h:GI n B (SD3 qs ts (ws.take i)) (limV ws i i w z 0)) (nd:ws.Nodup) (e:ws[i]?=some b) (hb:NmOk b):GI n (B ++ [.work b]) (SD3 qs ts (ws.take (i + 1))) (limV ws i (i + 1) b z' 0):=by
 refine h.put _ ((Qlk h.gd h.ne).mpr ⟨⟨b,rfl,hb⟩,fun hs=>?_⟩) (fun q hq hl=>?_) (Xq e) fun k hk=>?_
 ·obtain ⟨q,hq,hk,hn⟩:=Zw (r:=.work b) hs
  obtain ⟨b',rfl⟩:=Ke hk
  injection hn with e1
  exact Yk nd e (h.lm _ hq) e1
 ·cases q with
  | work=>exact Xx e hl
  | way=>exact hl.imp id fun ⟨_,j',hj,_⟩=>absurd hj (Nat.not_lt_zero _)
  | use=>exact hl.imp id fun ⟨_,j',hj,_⟩=>absurd hj (Nat.not_lt_zero _)
  | _=>exact hl
 ·rcases hk with z | ⟨b',hb',ek⟩
  ·exact .inl (.inl z)
  ·rw [Kf e] at hb'
   rcases yQ.mp hb' with z | z
   ·exact .inl (.inr ⟨b',z,ek⟩)
   ·rw [jQ.mp z] at ek;exact .inr ek
theorem fl_ne {z:Int} {j j':Nat} (h:j' < j) (hj:j<=1):(97 + ((z + 3 * (j':Int)) % 26).toNat) ≠ 97 + ((z + 3 * (j:Int)) % 26).toNat:=by lia
theorem GI.uses {i i' j:Nat} {w0 v:Str} {z:Int} {SD:List Key->Prop} (hv:fl v=97 + ((z + 3 * (j:Int)) % 26).toNat):∀ (U:List BR) {B:List BR},GI n B SD (limV ws i i' w0 z (j + 1))->Said B [.inr "way",.inr w0,.inr v]->(∀ t ∈ qs,Said B (bK t))->(∀ t ∈ ts,Said B (sK t)) ->
  (∀ r ∈ U,∃ k t m,r=.use k w0 v t m/\1<=m/\m<=99/\((k=0/\t ∈ qs)\/(k ≠ 0/\t ∈ ts)))->U.Pairwise Qgd->(∀ r ∈ U,¬ Said B r.key)->GI n (B ++ U) SD (limV ws i i' w0 z (j + 1))
 | [],B,h,_,_,_,_,_,_=>by rw [jJe];exact h
 | r :: U,B,h,hw,hq,ht,hU,hp,hn=>by
  obtain ⟨k,t,m,rfl,m1,m2,hk⟩:=hU _ jX
  have hp':=List.pairwise_cons.mp hp
  have st:Said B [.inr (thK k),.inr t]:=by
   match k,hk with
   | 0,.inl ⟨_,h⟩=>exact hq t h
   | 0,.inr ⟨h,_⟩=>exact absurd rfl h
   | 1,.inr ⟨_,h⟩=>exact ht t h
   | 2,.inr ⟨_,h⟩=>exact ht t h
   | 1,.inl ⟨h,_⟩=>exact absurd h (by decide)
   | 2,.inl ⟨h,_⟩=>exact absurd h (by decide)
  have g:=h.put (SD':=SD) (lim':=limV ws i i' w0 z (j + 1)) (.use k w0 v t m) ((Qox h.gd k).mpr ⟨hn _ jX,hw,st,m,rfl,m1,m2⟩) (fun q _ hl=>hl) (.inr ⟨rfl,j,jYb _,hv⟩) (fun k hk=>.inl hk)
  have:=GI.uses hv U g (Vj hw) (fun t' h'=>Vj (hq t' h')) (fun t' h'=>Vj (ht t' h')) (fun r hr=>hU r (jY _ hr)) hp'.2 (fun r hr=>?_)
  ·rw [List.append_assoc] at this;exact this
  ·rintro ⟨q,hq',e⟩
   rcases yQ.mp hq' with y | y
   ·exact hn r (jY _ hr) ⟨q,y,e⟩
   ·rw [jQ.mp y] at e
    obtain ⟨k',t',m',rfl,_⟩:=hU r (jY _ hr)
    rcases hp'.1 _ hr with a | a | a
    ·exact absurd ((Jh _ (k:=2) (by decide)).mp a) (by show 6 + k.val ≠ 2;lia)
    ·exact absurd ((Jh _ (k:=2) (by decide)).mp a) (by show 6 + k'.val ≠ 2;lia)
    ·exact a e
theorem GI.way {i j:Nat} {w0 v:Str} {z:Int} {R:List BR} (h:GI n B (SD3 qs ts (ws.take (i + 1))) (limV ws i (i + 1) w0 z j)) (nd:ws.Nodup) (e:ws[i]?=some w0) (hj:j<=1) (hv:fl v=97 + ((z + 3 * (j:Int)) % 26).toNat) (nv:NmOk v) (hW:WayTo n w0 v qs ts qs.length ts.length R):GI n (B ++ R) (SD3 qs ts (ws.take (i + 1))) (limV ws i (i + 1) w0 z (j + 1)):=by
 obtain ⟨l,c,U,rfl,l1,l2,c1,c2,hU⟩:=hW.hd
 have hp:=List.pairwise_cons.mp hW.nd
 have nw:∀ q ∈ B,q.kind=5\/(∃ k:Fin 3,q.kind=6 + k.val)->∀ t,q.names=w0 :: v :: t->False:=fun q hq hk t hn=>by
  have hl:=h.lm q hq
  have no:(∃ w' v',q.names=w' :: v' :: t/\(w' ∈ ws.take i\/(w'=w0/\∃ j' < j,fl v'=97 + ((z + 3 * (j':Int)) % 26).toNat)))->False:=fun ⟨w',v',e1,h1⟩=>by
   rw [hn] at e1
   injection e1 with e2 e3
   injection e3 with e4 _
   subst e2 e4
   rcases h1 with h1 | ⟨_,j',hj',h1⟩
   ·exact Yk nd e h1 rfl
   ·rw [hv] at h1;exact fl_ne hj' hj h1.symm
  rcases hk with hk | ⟨k,hk⟩
  ·obtain ⟨w',v',l',c',rfl⟩:=Qbb hk
   have:t=[]:=by injection hn with _ h2;injection h2 with _ h3;exact h3.symm
   exact no ⟨w',v',by rw [this];rfl,hl⟩
  ·obtain ⟨w',v',t',m',rfl⟩:=Qbn k hk
   have:t=[t']:=by injection hn with _ h2;injection h2 with _ h3;exact h3.symm
   exact no ⟨w',v',by rw [this];rfl,hl⟩
 have g:=h.put (SD':=SD3 qs ts (ws.take (i + 1))) (lim':=limV ws i (i + 1) w0 z (j + 1)) (.way w0 v l c) ((Qou h.gd).mpr ⟨h.sd _ (.inr ⟨w0,Xq e,rfl⟩),⟨v,rfl,nv⟩,fun hs=>?_,⟨l,rfl,l1,by rw [h.dy];exact l2⟩,c,rfl,c1,c2⟩) (fun q hq hl=>?_) (.inr ⟨rfl,j,jYb _,hv⟩) (fun k hk=>.inl hk)
 rotate_left
 ·obtain ⟨q,hq,hk,hn⟩:=Zw (r:=.way w0 v l c) hs
  exact nw q hq (.inl hk) [] hn
 ·cases q with
  | way=>exact hl.imp id fun ⟨a,j',hj,b⟩=>⟨a,j',wW hj,b⟩
  | use=>exact hl.imp id fun ⟨a,j',hj,b⟩=>⟨a,j',wW hj,b⟩
  | _=>exact hl
 have g2:=GI.uses (qs:=qs) (ts:=ts) hv U g ⟨_,yY _ jX,rfl⟩ (fun t ht=>g.sd _ (.inl (.inl ⟨t,ht,rfl⟩))) (fun t ht=>g.sd _ (.inl (.inr ⟨t,ht,rfl⟩))) (fun r hr=>?_) hp.2 (fun r hr=>?_)
 ·rw [List.append_assoc] at g2;exact g2
 ·obtain ⟨k,t,m,e1,m1,m2,hk⟩:=hU r hr
  rw [wV,wV] at hk
  exact ⟨k,t,m,e1,m1,m2,hk⟩
 ·obtain ⟨k,t,m,rfl,_⟩:=hU r hr
  rintro hs
  obtain ⟨q,hq,hk,hn⟩:=Zw (r:=.use k w0 v t m) hs
  rcases yQ.mp hq with y | y
  ·exact nw q y (.inr ⟨k,hk⟩) [t] hn
  ·rw [jQ.mp y] at hk
   exact absurd hk (by show ¬ (5:Nat)=6 + k.val;lia)
theorem GI.nextW {i:Nat} {w0:Str} {z:Int} {j:Nat} (h:GI n B (SD3 qs ts (ws.take (i + 1))) (limV ws i (i + 1) w0 z j)) (e:ws[i]?=some w0):GI n B (SD3 qs ts (ws.take (i + 1))) (limV ws (i + 1) (i + 1) "" 0 0):=by
 refine h.mono (fun q hq hl=>?_) fun k hk=>hk
 cases q with
 | way=>exact .inl (hl.elim (Xx e) fun ⟨a,_⟩=>by rw [a];exact Xq e)
 | use=>exact .inl (hl.elim (Xx e) fun ⟨a,_⟩=>by rw [a];exact Xq e)
 | _=>exact hl
theorem GI.toA {i:Nat} {w:Str} {z:Int} {j:Nat} (h:GI n B (SD3 qs ts (ws.take ws.length)) (limV ws i ws.length w z j)):GI n B (SD3 qs ts ws) (limA ws 0):=by
 rw [wV] at h
 refine h.mono (fun q hq hl=>?_) fun k hk=>hk
 cases q with
 | after=>exact hl.elim
 | late=>exact hl.elim
 | _=>trivial
theorem GI.after {m:Nat} {w x:Str} {g:Int} (h:GI n B (SD3 qs ts ws) (limA ws m)) (nd:ws.Nodup) (hw:w ∈ ws) (hx:x ∈ ws) (hwx:x ≠ w) (hn:(ws[m]?=some w/\ws[m + 1]?=some x)\/(ws[m + 1]?=some w/\ws[0]?=some x)) (g0:0<=g) (g1:g<=n):GI n (B ++ [.after w x g]) (SD3 qs ts ws) (limA ws (m + 1)):=by
 refine h.put _ ((Qjf h.gd).mpr ⟨fun hs=>?_,h.sd _ (.inr ⟨w,hw,rfl⟩),h.sd _ (.inr ⟨x,hx,rfl⟩),fun e=>hwx (Sum.inr.inj e),g,rfl,g0,by rw [h.dy];exact g1⟩) (fun q hq hl=>?_) ⟨m,jYb _,hn⟩ (fun k hk=>.inl hk)
 ·obtain ⟨q,hq,hk,hn'⟩:=Zw (r:=.after w x g) hs
  obtain ⟨w',x',g',rfl⟩:=Ji hk
  injection hn' with e1 e2
  injection e2 with e2
  subst e1 e2
  obtain ⟨k,hk,hc⟩:=h.lm _ hq
  have inj:∀ {a b:Nat} {y:Str},ws[a]?=some y->ws[b]?=some y->a=b:=fun {a b y} ha hb=>by
   rcases Nat.lt_trichotomy a b with h | h | h
   ·exact absurd rfl (Yk nd hb (yX (i:=a) (by rw [jYd h];exact ha)))
   ·exact h
   ·exact absurd rfl (Yk nd ha (yX (i:=b) (by rw [jYd h];exact hb)))
  rcases hn with ⟨a1,a2⟩ | ⟨a1,a2⟩
  ·rcases hc with ⟨b1,b2⟩ | ⟨b1,b2⟩
   ·have:=inj a1 b1;lia
   ·have h1:=inj a2 b2;lia
  ·rcases hc with ⟨b1,b2⟩ | ⟨b1,b2⟩
   ·have h1:=inj a2 b2;lia
   ·have:=inj a1 b1;lia
 ·cases q with
  | after=>obtain ⟨k,hk,hc⟩:=hl;exact ⟨k,wW hk,hc⟩
  | _=>exact hl
theorem GI.skipA {m:Nat} (h:GI n B (SD3 qs ts ws) (limA ws m)):GI n B (SD3 qs ts ws) (limA ws (m + 1)):=by
 refine h.mono (fun q hq hl=>?_) fun k hk=>hk
 cases q with
 | after=>obtain ⟨k,hk,hc⟩:=hl;exact ⟨k,wW hk,hc⟩
 | _=>exact hl
theorem GI.toL {m:Nat} (h:GI n B (SD3 qs ts ws) (limA ws m)):GI n B (SD3 qs ts ws) (limL ws 0):=by
 refine h.mono (fun q hq hl=>?_) fun k hk=>hk
 cases q with
 | late=>exact hl.elim
 | _=>trivial
theorem GI.late {i:Nat} {w:Str} {d c:Int} (h:GI n B (SD3 qs ts ws) (limL ws i)) (nd:ws.Nodup) (e:ws[i]?=some w) (d0:0<=d) (d1:d<=n) (c0:1<=c) (c1:c<=999999):GI n (B ++ [.late w d c]) (SD3 qs ts ws) (limL ws (i + 1)):=by
 refine h.put _ ((Qlm h.gd).mpr ⟨fun hs=>?_,h.sd _ (.inr ⟨w,yX e,rfl⟩),⟨d,rfl,d0,by rw [h.dy];exact d1⟩,c,rfl,c0,c1⟩) (fun q hq hl=>?_) (Xq e) (fun k hk=>.inl hk)
 ·obtain ⟨q,hq,hk,hn⟩:=Zw (r:=.late w d c) hs
  obtain ⟨w',d',c',rfl⟩:=Wf hk
  injection hn with e1
  exact Yk nd e (h.lm _ hq) e1
 ·cases q with
  | late=>exact Xx e hl
  | _=>exact hl
theorem GI.skipL {i:Nat} {w:Str} (h:GI n B (SD3 qs ts ws) (limL ws i)) (e:ws[i]?=some w):GI n B (SD3 qs ts ws) (limL ws (i + 1)):=by
 refine h.mono (fun q hq hl=>?_) fun k hk=>hk
 cases q with
 | late=>exact Xx e hl
 | _=>exact hl
end
abbrev Qbw:Stmt:=top 151
def Lets (z c:Int) (qs:List Str):Prop:=∀ (i:Nat) (x:Str),qs[i]?=some x->fl x=97 + ((z + c * (i:Int)) % 26).toNat
theorem Lets.nodup {z c:Int} {qs:List Str} (h:Lets z c qs) (hl:qs.length<=3) (hc:c=1\/c=7):qs.Nodup:=by
 rw [List.nodup_iff_pairwise_ne,List.pairwise_iff_getElem]
 intro i j hi hj hij e
 have a:=h i _ (gE hi)
 have b:=h j _ (gE hj)
 rw [e,b] at a
 have p:=zQ (z + c * (i:Int)) (show (26:Int) ≠ 0 by decide)
 have q:=zQ (z + c * (j:Int)) (show (26:Int) ≠ 0 by decide)
 rcases hc with rfl | rfl <;> lia
theorem Lets.snoc {z c:Int} {qs:List Str} {x:Str} (h:Lets z c qs) (hx:fl x=97 + ((z + c * (qs.length:Int)) % 26).toNat):Lets z c (qs ++ [x]):=fun i y e=>by
 by_cases hi:i < qs.length
 ·rw [jYc hi] at e;exact h i y e
 ·rw [jQd (by lia)] at e
  have:=(kZ.mp e).1
  rw [List.length_singleton] at this
  have hi2:i=qs.length:=by lia
  subst hi2
  rw [Nat.sub_self] at e
  cases e
  exact hx
theorem Qjv {z c:Int} {k:Nat} {D:Addr} {H:Hp} {cs τ0:St} {te:TE} {Q:Addr->Hp->Prop} (hτ:τ0=none :: cs) (hk:k<=3) (hc:c=1\/c=7) (hD:H D=none)
  (hs:∀ (i:Nat) (H1:Hp) (P:V->Hp->Prop),Same H H1->(∀ x:Str,fl x=97 + ((z + c * (i:Int)) % 26).toNat->NmOk x->P (.str x) H1)->te (some (.int (0 + (i:Int))) :: cs) H1 P)
  (hd:∀ (xs:List Str) H1,xs.length=k->xs.Nodup->(∀ x ∈ xs,NmOk x)->H1 D=some (.lst (xs.map V.str))->Same H H1->Q D H1):LcW (Itr 0 k) D τ0 H (Js 0) tYes te Q:=by
 subst hτ
 have hz:(20000:Nat) < sizeLine:=by decide
 let Pv12:Nat->St->List V->Hp->Prop:=fun i τ ys Hq=>∃ (x:Option V) (xs:List Str),τ=x :: cs/\ys=xs.map V.str/\xs.length=i/\Lets z c xs/\(∀ x ∈ xs,NmOk x)/\Hq D=some (.lst ys)/\Same H Hq
 refine Qhu (n:=k) Pv12 ?_ (fun i τ ys Hq hi h=>?_) (fun i τ ys Hq hi h=>hi) (fun τ ys Hq h=>kQ _) ?_ ?_
 ·exact ⟨none,[],rfl,rfl,rfl,fun i x e=>by simp at e,fun x h=>(nomatch h),Qd,Qf hD _⟩
 ·obtain ⟨x,xs,rfl,rfl,lx,hL,hN,hE,s'⟩:=h
  exact ⟨hE,by rw [jK];lia⟩
 ·rintro i τ ys Ha x Hb hi ⟨x',xs,rfl,rfl,lx,hL,hN,hE,s'⟩ ⟨rfl,rfl⟩
  exact hs i _ _ s' fun x hx nx=>⟨hE,_,xs ++ [x],rfl,by rw [xY];rfl,by rw [jW,lx];rfl,hL.snoc (by rw [hx,lx]),(fun y hy=>by
   rcases yQ.mp hy with h | h
   ·exact hN y h
   ·rw [jQ.mp h];exact nx),Qd,fun b o e=>by rw [Ql (Qq e hD)];exact s' _ _ e⟩
 ·rintro τ ys Hq ⟨x,xs,rfl,rfl,lx,hL,hN,hE,s'⟩
  exact hd xs Hq lx (hL.nodup (lx ▸ hk) hc) hN hE s'
theorem Dr.at60 {K:Fg} {H:Hp} {l:Addr} {ds:List Int} (h:Dr K H l ds) (hl:60<=ds.length) (k:Int) (h0:autoParam (0<=k/\k < 60) L2.aDec._auto_1):∃ z:Int,atI (ds.map V.int) k=some (.int z)/\0<=z/\z < 2147483648:=h.get k h0.1 (Int.lt_of_lt_of_le h0.2 (by lia))
structure BI (H Hq:Hp) (es:List (Addr × List Str)) (g:Addr) (bs:List V) (B:List BR):Prop where
 hg:Hq g=some (.lst bs)
 rb:RowsB Hq bs B
 fg:H g=none
 sm:Same H Hq
 he:∀ e ∈ es,Hq e.1=some (.lst (e.2.map V.str))
theorem BI.same {H Hq H':Hp} {es:List (Addr × List Str)} {g:Addr} {bs:List V} {B:List BR} (h:BI H Hq es g bs B) (s:Same Hq H'):BI H H' es g bs B:=⟨s _ _ h.hg,h.rb.same s,h.fg,h.sm.trans s,fun e he=>s _ _ (h.he e he)⟩
theorem BI.row {H Hq:Hp} {es:List (Addr × List Str)} {g p:Addr} {bs:List V} {B:List BR} (h:BI H Hq es g bs B) (hB:B ≠ []) (r:BR) (hp:Hq p=none):upd Hq p (.lst (r.cells.map kV)) g=some (.lst bs)/\BI H (upd (upd Hq p (.lst (r.cells.map kV))) g (.lst (bs ++ [.ref p]))) es g (bs ++ [.ref p]) (B ++ [r]):=by
 obtain ⟨hg4,hB5,s5⟩:=put_row r h.fg h.sm h.hg h.rb hp
 refine ⟨hg4,Qd,hB5,h.fg,s5,fun e he=>?_⟩
 have h1:=h.he e he
 have n1:e.1 ≠ g:=fun z=>by
  rw [z,h.hg] at h1
  have h2:=HO.lst.inj (Option.some.inj h1)
  cases bs with
  | nil=>have:=h.rb.length;exact hB (zZ this.symm)
  | cons b bs =>
   obtain ⟨r,l,_,rfl,_⟩:=h.rb.get (i:=0) (v:=b) rfl
   cases e2:e.2 with
   | nil=>rw [e2] at h2;cases h2
   | cons x xs=>rw [e2] at h2;cases h2
 rw [Ql n1,Ql (Qq h1 hp)]
 exact h1
theorem BI.cat {H Hq:Hp} {es:List (Addr × List Str)} {g g':Addr} {bs vs:List V} {B R:List BR} (h:BI H Hq es g bs B) (hn:Hq g'=none) (hR:RowsB Hq vs R):BI H (upd Hq g' (.lst (bs ++ vs))) es g' (bs ++ vs) (B ++ R):=by
 have s:=Qf hn (.lst (bs ++ vs))
 refine ⟨Qd,(h.rb.app hR).same s,?_,h.sm.trans s,fun e he=>s _ _ (h.he e he)⟩
 cases e:H g' with
 | none=>rfl
 | some o=>rw [h.sm _ _ e] at hn;cases hn
def Qfi (K:Fg):Sp:=fun vs H Q _=>∃ (l:Addr) (ds:List Int),vs=[.ref l,.int 0,.int 3,.int 3]/\Dr K H l ds/\60<=ds.length /\
 ∀ (g:Addr) (vs:List V) (B:List BR) (H':Hp),Same H H'->H g=none->H' g=some (.lst vs)->RowsB H' vs B->Good B->B ≠ []->B.length<=100->Q (.ref g) H'
section
variable {P:Program} {w:World} {K:Fg} {mg:Str->Option Value} {base:Heap}
theorem scBook80:FnScope ["_law_draws_here","_law_at","_law_most","_law_many","_law_days","_law_book_here","_law_quays","_law_k","_law_bench","_law_begin","_law_stocks","_law_store","_law_full","_law_works","_law_work","_law_j","_law_number"] ["_law_draws_here","_law_at","_law_most","_law_many"] (Qh Qbw):=⟨rfl,rfl,rfl,by decide +kernel,rfl,by decide +kernel,by decide +kernel⟩
theorem Qlt  (F:Fn K mg "_law_book" Qbw) (M:Mg mg) (cl_name:Cal P w K mg base 1 "_law_name" ["_law_k","_law_number"] (Qbf)) (cl_way:Cal P w K mg base 2 "_law_way" ["_law_draws_here","_law_at","_law_work","_law_j","_law_days","_law_quays","_law_stocks"] (Qjt K)):Cal P w K mg base 3 "_law_book" ["_law_draws_here","_law_at","_law_most","_law_many"] (Qfi K):=by
 refine Xv F scBook80 (fun _ _ _ _ _ _=>bind4 (fun _ _ _ _=>rfl)) (fun vs H Q E h=>?_) (fun f cdv A outer s H vs Q E hr h=>?_)
 ·obtain ⟨l,ds,rfl,_⟩:=h
  rfl
 obtain ⟨l,ds,rfl,hD0,h60,qq⟩:=h
 refine ⟨_,(Qe (Qs (i:=4) scBook80.nd rfl (Or.inl rfl) (Qj Qo Qb (Qj Qv (Qp Qk (pv 0) (pv 1) (fun _ _=>rfl)) (pv 2))))
  (Qe (Qs (i:=5) scBook80.nd rfl (Or.inl rfl) (Xi (Qa (Xi (Qa Qx (Qa (pv 4) Qg))) Qg)))
  (Qe (Jf (i:=6) ["_law_k","_law_draws_here","_law_at"] [none,some 0,some 1] rfl scBook80.nd rfl (Or.inl rfl) (Yp rfl M.range_ (Qa (Qj Qv (Qp Qk (pv 0) (Qj Qo (pv 1) Qb) (fun _ _=>rfl)) Qb) Qg)) (fun _ _ _=>(Xb (i:=0) (show (["_law_k","_law_draws_here","_law_at"]:List Str).Nodup by decide +kernel) rfl (Or.inl rfl) (Or.inr rfl))) (fun _ _ _=>Zd) (fun _ _ _=>(Xz cl_name (hr.mono (by decide)) (Qa (pv 0) (Qa (Qp (Zg (K:=K) rfl) (pv 1) (Qj Qo (pv 2) Qb) (fun _ _=>rfl)) Qg)))))
  (Qe (Yz PassesOwn.never rfl (Qay true rfl M.enumerate_ (Qa (pv 6) Qg)) (Vx (K:=K) (i:=7) (j:=8) rfl rfl scBook80.nd rfl rfl rfl rfl) (Qe (Xg (Zs PySem.F.plainAttrs_list PySem.F.slot_list_append PySem.F.type_list_append Xc (pv 5) (Qa (Xi (Qa Qx (Qa (pv 8) (Qa (Qj Qv (Qp Qk (pv 0) (Qj Qo (Qj Qo (pv 1) Qb) (pv 7)) (fun _ _=>rfl)) Qb) Qg)))) Qg)))
  (Qe (Qs (i:=9) scBook80.nd rfl (Or.inl rfl) (Qj Qv (Qp Qk (pv 0) (Qj Qo (Qj Qo (pv 1) Qb) (pv 7)) (fun _ _=>rfl)) (pv 4)))
  (Qi (Xm (Qr Xy (Qj Qv (Qj Xh (Qp Qk (pv 0) (Qj Qo (Qj Qo (pv 1) Qb) (pv 7)) (fun _ _=>rfl)) Qb) Qb) Qb (Qu _)) (Qi (Xg (Zs PySem.F.plainAttrs_list PySem.F.slot_list_append PySem.F.type_list_append Xc (pv 5) (Qa (Xi (Qa Qx (Qa (pv 8) (Qa (pv 9) (Qa (Qj Qo (Qj Qo (pv 9) Qb) (Qj Qv (Qj Xh (Qp Qk (pv 0) (Qj Qo (Qj Qo (pv 1) Qb) (pv 7)) (fun _ _=>rfl)) Qb) (Qj Qei (pv 4) (pv 9)))) Qg))))) Qg)))) Qt)))))
  (Qe (Jf (i:=10) ["_law_k","_law_draws_here","_law_at"] [none,some 0,some 1] rfl scBook80.nd rfl (Or.inl rfl) (Yp rfl M.range_ (Qa (Qj Qv (Qp Qk (pv 0) (Qj Qo (pv 1) Qb) (fun _ _=>rfl)) Qb) Qg)) (fun _ _ _=>(Xb (i:=0) (show (["_law_k","_law_draws_here","_law_at"]:List Str).Nodup by decide +kernel) rfl (Or.inl rfl) (Or.inr rfl))) (fun _ _ _=>Zd) (fun _ _ _=>(Xz cl_name (hr.mono (by decide)) (Qa (Qj Zm Qb (pv 0)) (Qa (Qp (Zg (K:=K) rfl) (pv 1) (Qj Qo (pv 2) Qb) (fun _ _=>rfl)) Qg)))))
  (Qe (Yz PassesOwn.never rfl (Ye (pv 10)) (Xb (i:=11) scBook80.nd rfl (Or.inl rfl) (Or.inl rfl)) (Qe (Qs (i:=12) scBook80.nd rfl (Or.inl rfl) (Qj Qv (Qp Qk (pv 0) (Qj Qo (pv 1) Qb) (fun _ _=>rfl)) Qb))
  (Qi (Xg (Zs PySem.F.plainAttrs_list PySem.F.slot_list_append PySem.F.type_list_append Xc (pv 5) (Qa (Xi (Qa Qx (Qa (pv 11) (Qa (pv 12) (Qa (Qj Qv (Qj Xh (Qp Qk (pv 0) (Qj Qo (pv 1) Qb) (fun _ _=>rfl)) Qb) (Qj Qo (pv 12) Qb)) Qg))))) Qg))))))
  (Qe (Jf (i:=13) ["_law_k","_law_draws_here","_law_at"] [none,some 0,some 1] rfl scBook80.nd rfl (Or.inl rfl) (Yp rfl M.range_ (Qa (Qj Qv (Qp Qk (pv 0) (Qj Qo (pv 1) Qb) (fun _ _=>rfl)) (Qj Qo (pv 3) Qb)) Qg)) (fun _ _ _=>(Xb (i:=0) (show (["_law_k","_law_draws_here","_law_at"]:List Str).Nodup by decide +kernel) rfl (Or.inl rfl) (Or.inr rfl))) (fun _ _ _=>Zd) (fun _ _ _=>(Xz cl_name (hr.mono (by decide)) (Qa (pv 0) (Qa (Qp (Zg (K:=K) rfl) (pv 1) (Qj Qo (pv 2) Qb) (fun _ _=>rfl)) Qg)))))
  (Qe (Yz PassesOwn.never rfl (Qay true rfl M.enumerate_ (Qa (pv 13) Qg)) (Vx (K:=K) (i:=7) (j:=14) rfl rfl scBook80.nd rfl rfl rfl rfl) (Qe (Xg (Zs PySem.F.plainAttrs_list PySem.F.slot_list_append PySem.F.type_list_append Xc (pv 5) (Qa (Xi (Qa Qx (Qa (pv 14) Qg))) Qg)))
  (Qi (Yz PassesOwn.never rfl (Yp rfl M.range_ (Qa (Qj Qv (Qp Qk (pv 0) (Qj Qo (Qj Qo (pv 1) Qb) (pv 7)) (fun _ _=>rfl)) Qb) Qg)) (Xb (i:=15) scBook80.nd rfl (Or.inl rfl) (Or.inl rfl)) (Qi (Qs (i:=5) scBook80.nd rfl (Or.inl rfl) (Qj Jp (pv 5) (Xz cl_way (hr.mono (by decide)) (Qa (pv 0) (Qa (Qj Qo (Qj Qo (Qj Qo (pv 1) Qb) (Qj Zm Qb (pv 7))) (Qj Zm Qb (pv 15))) (Qa (pv 14) (Qa (pv 15) (Qa (pv 4) (Qa (pv 6) (Qa (pv 10) Qg)))))))))))))))
  (Qe (Yz PassesOwn.never rfl (Qgx rfl M.range_ (Qa Qb (Qa (Qm Qn rfl M.len Xp (Qa (pv 13) Qg)) Qg))) (Xb (i:=7) scBook80.nd rfl (Or.inl rfl) (Or.inl rfl)) (Qe (Qs (i:=16) scBook80.nd rfl (Or.inl rfl) (Qp Qk (pv 0) (Qj Qo (Qj Qo (pv 1) Qb) (pv 7)) (fun _ _=>rfl)))
  (Qe (Xm (Qr Xy (Qj Qv (pv 16) Qb) Qb (Qu _)) (Qi (Xg (Zs PySem.F.plainAttrs_list PySem.F.slot_list_append PySem.F.type_list_append Xc (pv 5) (Qa (Xi (Qa Qx (Qa (Qp Qk (pv 13) (Qj Qei (pv 7) Qb) (fun _ _=>rfl)) (Qa (Qp Qk (pv 13) (pv 7) (fun _ _=>rfl)) (Qa (Qj Qv (Qj Xh (pv 16) Qb) (Qm (Zz rfl) rfl M.min Qcj (Qa Qb (Qa (Qj Qo (pv 4) Qb) Qg)))) Qg))))) Qg)))) Qt)
  (Qi (Xm (Qr Xy (Qj Qv (pv 16) Qb) Qb (Qu _)) (Qi (Xg (Zs PySem.F.plainAttrs_list PySem.F.slot_list_append PySem.F.type_list_append Xc (pv 5) (Qa (Xi (Qa Qx (Qa (Qp Qk (pv 13) (pv 7) (fun _ _=>rfl)) (Qa (Qp Qk (pv 13) Qb (fun _ _=>rfl)) (Qa (Qj Qv (Qj Xh (pv 16) Qb) (Qm (Zz rfl) rfl M.min Qcj (Qa Qb (Qa (Qj Qo (pv 4) Qb) Qg)))) Qg))))) Qg)))) Qt)))))
  (Qe (Yz PassesOwn.never rfl (Qay true rfl M.enumerate_ (Qa (pv 13) Qg)) (Vx (K:=K) (i:=7) (j:=14) rfl rfl scBook80.nd rfl rfl rfl rfl) (Qe (Qs (i:=16) scBook80.nd rfl (Or.inl rfl) (Qp Qk (pv 0) (Qj Qo (Qj Qo (pv 1) Qb) (pv 7)) (fun _ _=>rfl)))
  (Qi (Xm (Qr Xy (Qj Qv (pv 16) Qb) Qb (Qu _)) (Qi (Xg (Zs PySem.F.plainAttrs_list PySem.F.slot_list_append PySem.F.type_list_append Xc (pv 5) (Qa (Xi (Qa Qx (Qa (pv 14) (Qa (Qj Qv (Qj Xh (pv 16) Qb) (Qj Qo (pv 4) Qb)) (Qa (Qj Qo Qb (Qj Qv (Qj Xh (pv 16) Qb) Qb)) Qg))))) Qg)))) Qt))))
  (Qi (Xa (pv 5))))))))))))),?_⟩
 have hz:(20000:Nat) < sizeLine:=by decide
 obtain ⟨d0,ed0,d00,d01⟩:=hD0.get 0 (by lia) (by lia)
 refine ⟨_,rfl,_,rfl,l,_,_,_,rfl,rfl,hD0.lst,ed0,_,rfl,_,_,rfl,rfl,(by show (0:Int) < _;decide +kernel),_,_,rfl,rfl,?_⟩
 have n0:=zQ d0 (show (3:Int) ≠ 0 by decide)
 have n1:=yZ d0 (show (0:Int) < 3 by decide)
 obtain ⟨n,en⟩:∃ n,n=1 + d0 % 3:=⟨_,rfl⟩
 have hn1:1<=n:=by lia
 have hn3:n<=3:=by lia
 show Js 4 (V.int (1 + d0 % 3)) _ _ _
 rw [← en]
 clear en n0 n1
 refine ⟨_,rfl,by show 2<=sizeLine;decide,fun p hp=>⟨by show 1<=sizeLine;decide,fun g0 hg0=>?_⟩⟩
 have sp:=Qf hp (.lst [.str "days",.int n])
 have sg:=Qf hg0 (.lst [.ref p])
 have hp0:=sg _ _ (Qd (H:=H) (a:=p) (o:=.lst ((BR.days n).cells.map kV)))
 have s0:=sp.trans sg
 have hgg:upd (upd H p (.lst [.str "days",.int n])) g0 (.lst [.ref p]) g0=some (.lst [.ref p]):=Qd
 have hB0:RowsB (upd (upd H p (.lst [.str "days",.int n])) g0 (.lst [.ref p])) [.ref p] [.days n]:=RowsB.snoc (vs:=[]) (B:=[]) .nil hp0
 have fg0:H g0=none:=by
  cases e:H g0 with
  | none=>rfl
  | some o=>rw [sp _ _ e] at hg0;cases hg0
 generalize upd (upd H p (.lst [.str "days",.int n])) g0 (.lst [.ref p])=H0 at s0 hgg hB0 ⊢
 have hD1:=hD0.same s0
 obtain ⟨d2,ed2,d20,d21⟩:=hD1.at60 h60 (0 + 2)
 obtain ⟨d1,ed1,d10,d11⟩:=hD1.at60 h60 (0 + 1)
 have q0:=zQ d2 (show (3:Int) ≠ 0 by decide)
 have q1:=yZ d2 (show (0:Int) < 3 by decide)
 refine ⟨_,rfl,_,rfl,_,_,rfl,rfl,l,_,_,_,rfl,rfl,hD1.lst,ed2,_,_,rfl,rfl,(by show (0:Int) < _;decide +kernel),d2 % 3,rfl,by lia,by lia,fun E1 hE1=>Qjv (z:=d1) (c:=1) (k:=(d2 % 3).toNat) (cs:=[some (.ref l),some (.int 0)]) rfl (by lia) (.inl rfl) hE1 (fun i Ha P s' h=>?_) (fun nm1 H1 ln1 nd1 nn1 hM1 s1'=>?_)⟩
 ·exact ⟨_,rfl,_,rfl,_,rfl,_,_,rfl,rfl,l,_,_,_,rfl,rfl,(hD1.same s').lst,ed1,_,_,rfl,fun x hx hxl=>h x (by rw [hx,show (0:Int) + (i:Int)=1 * (i:Int) by lia]) hxl⟩
 have l1m:(nm1.map V.str).length=nm1.length:=jK ..
 have l1:nm1.length<=2:=by lia
 have I0:BI H H1 [(E1,nm1)] g0 [.ref p] [.days n]:=⟨s1' _ _ hgg,hB0.same s1',fg0,s0.trans s1',fun e he=>by rw [jQ.mp he];exact hM1⟩
 let Pv13:Nat->St->Hp->Prop:=fun k σ Hq=>∃ (v7 v8 v9:Option V) (bs:List V) (B:List BR),σ=[some (.ref l),some (.int 0),some (.int 3),some (.int 3),some (.int n),some (.ref g0),some (.ref E1),v7,v8,v9,none,none,none,none,none,none,none]/\BI H Hq [(E1,nm1)] g0 bs B/\GI n B (SD1 (nm1.take k)) (limB nm1 k)/\B.length<=1 + 2 * k
 refine ⟨_,rfl,E1,rfl,⟨_,Qc hM1⟩,Vf (K:=K) (m:=true) (a:=E1) (xs:=nm1.map V.str) Pv13 ⟨none,none,none,_,_,rfl,I0,GI.start hn1 (by lia) nm1,kQ _⟩ (fun k σ Hq _ h=>?_) ?_ ?_⟩
 ·obtain ⟨v7,v8,v9,bs,B,rfl,I,gi,hl⟩:=h
  exact Qc (I.he _ jX)
 ·rintro k x σ Ha T e1 ⟨v7,v8,v9,bs,B,rfl,I,gi,hl⟩ hTn
  obtain ⟨w',ew,rfl⟩:=Ku e1
  have hk:k < nm1.length:=(kZ.mp ew).1
  refine ⟨T,_,rfl,Yb Qd,rfl,_,_,rfl,_,_,rfl,rfl,?_⟩
  have I1:=I.same (Qf hTn (.tup [.int (k:Nat),.str w']))
  generalize upd Ha T (.tup [.int (k:Nat),.str w'])=Hb at I1 ⊢
  have hDb:=hD0.same I1.sm
  obtain ⟨z3,ez3,z30,z31⟩:=hDb.get (0 + 3 + (k:Int)) (by lia) (by lia)
  obtain ⟨z5,ez5,z50,z51⟩:=hD0.get (0 + 5 + (k:Int)) (by lia) (by lia)
  have lb:=I1.rb.length
  refine ⟨_,rfl,.inl ⟨rfl,_,Qc I1.hg⟩,_,rfl,_,rfl,_,rfl,_,_,rfl,rfl,_,rfl,_,_,rfl,rfl,l,_,_,_,rfl,rfl,hDb.lst,ez3,_,_,rfl,rfl,(by show (0:Int) < _;decide +kernel),by show 3<=sizeLine;decide,fun p7 hp7=>?_⟩
  obtain ⟨hg4,I2⟩:=I1.row gi.ne (.bench w' (z3 % 4)) hp7
  refine ⟨g0,_,_,rfl,rfl,hg4,by lia,?_⟩
  have gi2:=gi.bench nd1 ew (nn1 w' (yX ew)) (show 0<=z3 % 4 by lia) (by lia)
  dsimp only
  have I2:BI H (upd (upd Hb p7 (.lst [.str "bench",.str w',.int (z3 % 4)])) g0 (.lst (bs ++ [.ref p7]))) [(E1,nm1)] g0 (bs ++ [.ref p7]) (B ++ [.bench w' (z3 % 4)]):=I2
  generalize upd (upd Hb p7 (.lst [.str "bench",.str w',.int (z3 % 4)])) g0 (.lst (bs ++ [.ref p7]))=Hc at I2 ⊢
  have hDc:=hD0.same I2.sm
  refine ⟨_,rfl,_,rfl,_,_,rfl,rfl,_,rfl,_,_,rfl,rfl,l,_,_,_,rfl,rfl,hDc.lst,ez5,_,rfl,_,_,rfl,rfl,(by lia),?_⟩
  have b0:=zQ z5 (show n ≠ 0 by lia)
  have b1:=yZ z5 (show 0 < n by lia)
  obtain ⟨bg,ebg⟩:∃ bg,bg=z5 % n:=⟨_,rfl⟩
  show Js 9 (V.int (z5 % n)) _ _ _
  rw [← ebg] at b0 b1 ⊢
  clear ebg
  refine ⟨_,rfl,_,rfl,_,_,rfl,rfl,_,rfl,_,_,rfl,rfl,l,_,_,_,rfl,rfl,hDc.lst,ez5,_,_,rfl,rfl,⟨by decide,by decide⟩,_,_,rfl,rfl,(by show (0:Int) < _;decide +kernel),rfl,_,rfl,ite2 (fun _=>?_) (fun _=>⟨_,_,_,_,_,rfl,I2,gi2,by rw [jW];show B.length + 1<=_;lia⟩)⟩
  have lb2:=I2.rb.length
  have lbl:B.length + 1<=2 + 2 * k:=by lia
  refine ⟨_,rfl,.inl ⟨rfl,_,Qc I2.hg⟩,_,rfl,_,rfl,_,rfl,_,_,rfl,rfl,_,rfl,_,rfl,_,_,rfl,rfl,_,rfl,_,_,rfl,rfl,l,_,_,_,rfl,rfl,hDc.lst,ez5,_,_,rfl,rfl,⟨by decide,by decide⟩,_,rfl,_,rfl,_,_,rfl,rfl,_,_,rfl,rfl,(by lia),_,_,rfl,rfl,by show 4<=sizeLine;decide,fun p8 hp8=>?_⟩
  have c0:=zQ (z5 / 48) (show n - bg ≠ 0 by lia)
  have c1:=yZ (z5 / 48) (show 0 < n - bg by lia)
  obtain ⟨hg5,I3⟩:=I2.row gi2.ne (.shut w' bg (bg + 1 + z5 / 48 % (n - bg))) hp8
  refine ⟨g0,_,_,rfl,rfl,hg5,by rw [lb2,jW];show B.length + 1 < _;lia,_,_,_,_,_,rfl,I3,gi2.shut (Xq ew) (by lia) (by lia) (by lia),by rw [jW,jW];show B.length + 1 + 1<=_;lia⟩
 rintro σ Hq ⟨v7,v8,v9,bs,B,rfl,I,gi,hl⟩
 rw [l1m] at gi hl
 have hD2:=hD0.same I.sm
 obtain ⟨d8,ed8,d80,d81⟩:=hD2.at60 h60 (0 + 8)
 obtain ⟨d7,ed7,d70,d71⟩:=hD2.at60 h60 (0 + 7)
 have r0:=zQ d8 (show (2:Int) ≠ 0 by decide)
 have r1:=yZ d8 (show (0:Int) < 2 by decide)
 refine ⟨_,rfl,_,rfl,_,_,rfl,rfl,l,_,_,_,rfl,rfl,hD2.lst,ed8,_,_,rfl,rfl,(by show (0:Int) < _;decide +kernel),d8 % 2,rfl,by lia,by lia,fun E2 hE2=>Qjv (z:=d7) (c:=7) (k:=(d8 % 2).toNat) (cs:=[some (.ref l),some (.int 0)]) rfl (by lia) (.inr rfl) hE2 (fun i Ha P s' h=>?_) (fun nm2 H2 ln2 nd2 nn2 hM2 s2'=>?_)⟩
 ·exact ⟨_,rfl,_,_,rfl,rfl,.inl ⟨by decide,by decide⟩,_,rfl,_,rfl,_,_,rfl,rfl,l,_,_,_,rfl,rfl,(hD2.same s').lst,ed7,_,_,rfl,fun x hx hxl=>h x (by rw [hx,show (0:Int) + (i:Int)=(i:Int) by lia]) hxl⟩
 have gi:=gi.toS (ts:=nm2)
 have l2m:(nm2.map V.str).length=nm2.length:=jK ..
 have l2:nm2.length<=1:=by lia
 have I2:BI H H2 [(E1,nm1),(E2,nm2)] g0 bs B:=⟨(I.same s2').hg,(I.same s2').rb,I.fg,(I.same s2').sm,fun e he=>by
  rcases jJ.mp he with rfl | he
  ·exact s2' _ _ (I.he _ jX)
  ·rw [jQ.mp he];exact hM2⟩
 have hl5:B.length<=5:=by lia
 clear I hl
 let Pv14:Nat->St->Hp->Prop:=fun k σ Hq=>∃ (v11 v12:Option V) (bs:List V) (B:List BR),σ=[some (.ref l),some (.int 0),some (.int 3),some (.int 3),some (.int n),some (.ref g0),some (.ref E1),v7,v8,v9,some (.ref E2),v11,v12,none,none,none,none]/\BI H Hq [(E1,nm1),(E2,nm2)] g0 bs B/\GI n B (SD2 nm1 (nm2.take k)) (limS nm2 k)/\B.length<=5 + k
 refine ⟨_,rfl,E2,rfl,⟨_,Qc hM2⟩,Vd (K:=K) (a:=E2) (xs:=nm2.map V.str) Pv14 ⟨none,none,_,_,rfl,I2,gi,by lia⟩ (fun k σ Hq _ h=>?_) ?_ ?_⟩
 ·obtain ⟨v11,v12,bs,B,rfl,I,gi,hl⟩:=h
  exact Qc (I.he _ (jY _ jX))
 ·rintro k x σ Ha e1 ⟨v11,v12,bs,B,rfl,I,gi,hl⟩
  obtain ⟨w',ew,rfl⟩:=Ku e1
  have hk:k < nm2.length:=(kZ.mp ew).1
  have hDb:=hD0.same I.sm
  obtain ⟨z9,ez9,z90,z91⟩:=hD0.at60 h60 (0 + 9)
  have lb:=I.rb.length
  refine ⟨_,rfl,_,rfl,_,_,rfl,rfl,l,_,_,_,rfl,rfl,hDb.lst,ez9,_,_,rfl,rfl,(by show (0:Int) < _;decide +kernel),?_⟩
  have c0:=zQ z9 (show (5:Int) ≠ 0 by decide)
  have c1:=yZ z9 (show (0:Int) < 5 by decide)
  obtain ⟨fu,efu⟩:∃ fu,fu=z9 % 5:=⟨_,rfl⟩
  show Js 12 (V.int (z9 % 5)) _ _ _
  rw [← efu] at c0 c1 ⊢
  clear efu
  refine ⟨_,rfl,.inl ⟨rfl,_,Qc I.hg⟩,_,rfl,_,rfl,_,rfl,_,rfl,_,_,rfl,rfl,l,_,_,_,rfl,rfl,hDb.lst,ez9,_,_,rfl,rfl,⟨by decide,by decide⟩,_,rfl,_,_,rfl,rfl,_,_,rfl,rfl,(by lia),by show 4<=sizeLine;decide,fun p7 hp7=>?_⟩
  have f0:=zQ (z9 / 5) (show fu + 1 ≠ 0 by lia)
  have f1:=yZ (z9 / 5) (show 0 < fu + 1 by lia)
  obtain ⟨hg4,I3⟩:=I.row gi.ne (.store w' fu (z9 / 5 % (fu + 1))) hp7
  exact ⟨g0,_,_,rfl,rfl,hg4,by lia,_,_,_,_,rfl,I3,gi.store nd2 ew (nn2 w' (yX ew)) (by lia) (by lia) (by lia) (by lia),by rw [jW];show B.length + 1<=_;lia⟩
 rintro σ Hq ⟨v11,v12,bs,B,rfl,I,gi,hl⟩
 rw [l2m] at gi hl
 have hD3:=hD0.same I.sm
 obtain ⟨d11',ed11,d110,d111⟩:=hD3.at60 h60 (0 + 11)
 obtain ⟨d10',ed10,d100,d101⟩:=hD3.at60 h60 (0 + 10)
 have w0:=zQ d11' (show (3:Int) + 1 ≠ 0 by decide)
 have w1:=yZ d11' (show (0:Int) < 3 + 1 by decide)
 refine ⟨_,rfl,_,rfl,_,_,rfl,rfl,l,_,_,_,rfl,rfl,hD3.lst,ed11,_,rfl,_,_,rfl,rfl,_,_,rfl,rfl,(by show (0:Int) < _;decide +kernel),d11' % (3 + 1),rfl,by lia,by lia,fun E5 hE5=>Qjv (z:=d10') (c:=1) (k:=(d11' % (3 + 1)).toNat) (cs:=[some (.ref l),some (.int 0)]) rfl (by lia) (.inl rfl) hE5 (fun i Ha P s' h=>?_) (fun nm5 H5 ln5 nd5 nn5 hM5 s5'=>?_)⟩
 ·exact ⟨_,rfl,_,rfl,_,rfl,_,_,rfl,rfl,l,_,_,_,rfl,rfl,(hD3.same s').lst,ed10,_,_,rfl,fun x hx hxl=>h x (by rw [hx,show (0:Int) + (i:Int)=1 * (i:Int) by lia]) hxl⟩
 have gi:=gi.toW (ws:=nm5)
 have l5m:(nm5.map V.str).length=nm5.length:=jK ..
 have l5:nm5.length<=3:=by lia
 obtain ⟨ES,hES⟩:∃ ES,ES=[(E1,nm1),(E2,nm2),(E5,nm5)]:=⟨_,rfl⟩
 have i1:(E1,nm1) ∈ ES:=by rw [hES];exact jX
 have i2:(E2,nm2) ∈ ES:=by rw [hES];exact jY _ jX
 have i5:(E5,nm5) ∈ ES:=by rw [hES];exact jY _ (jY _ jX)
 have I5:BI H H5 ES g0 bs B:=⟨(I.same s5').hg,(I.same s5').rb,I.fg,(I.same s5').sm,fun e he=>by
  rw [hES] at he
  rcases jJ.mp he with rfl | he
  ·exact s5' _ _ (I.he _ jX)
  rcases jJ.mp he with rfl | he
  ·exact s5' _ _ (I.he _ (jY _ jX))
  ·rw [jQ.mp he];exact hM5⟩
 have hl6:B.length<=6:=by lia
 clear I hl hES
 let Pv15:Nat->St->Hp->Prop:=fun k σ Hq=>∃ (g:Addr) (v7 v14 v15:Option V) (bs:List V) (B:List BR),σ=[some (.ref l),some (.int 0),some (.int 3),some (.int 3),some (.int n),some (.ref g),some (.ref E1),v7,v8,v9,some (.ref E2),v11,v12,some (.ref E5),v14,v15,none]/\BI H Hq ES g bs B/\GI n B (SD3 nm1 nm2 (nm5.take k)) (limV nm5 k k "" 0 0)/\B.length<=6 + 15 * k
 refine ⟨_,rfl,E5,rfl,⟨_,Qc hM5⟩,Vf (K:=K) (m:=true) (a:=E5) (xs:=nm5.map V.str) Pv15 ⟨g0,_,none,none,_,_,rfl,I5,gi,by lia⟩ (fun k σ Hq _ h=>?_) ?_ ?_⟩
 ·obtain ⟨g,v7,v14,v15,bs,B,rfl,I,gi,hl⟩:=h
  exact Qc (I.he _ i5)
 ·rintro k x σ Ha T e1 ⟨g,v7,v14,v15,bs,B,rfl,I,gi,hl⟩ hTn
  obtain ⟨w',ew,rfl⟩:=Ku e1
  have hk:k < nm5.length:=(kZ.mp ew).1
  refine ⟨T,_,rfl,Yb Qd,rfl,_,_,rfl,_,_,rfl,rfl,?_⟩
  have I1:=I.same (Qf hTn (.tup [.int (k:Nat),.str w']))
  generalize upd Ha T (.tup [.int (k:Nat),.str w'])=Hb at I1 ⊢
  have lb:=I1.rb.length
  refine ⟨_,rfl,.inl ⟨rfl,_,Qc I1.hg⟩,_,rfl,by show 2<=sizeLine;decide,fun p7 hp7=>?_⟩
  obtain ⟨hg4,I2⟩:=I1.row gi.ne (.work w') hp7
  refine ⟨g,_,_,rfl,rfl,hg4,by lia,?_⟩
  obtain ⟨dz,edz,dz0,dz1⟩:=hD0.get (0 + 15 + 6 * (k:Int)) (by lia) (by lia)
  have gi2:=gi.work (z':=dz) nd5 ew (nn5 w' (yX ew))
  have I2:BI H (upd (upd Hb p7 (.lst [.str "work",.str w'])) g (.lst (bs ++ [.ref p7]))) ES g (bs ++ [.ref p7]) (B ++ [.work w']):=I2
  generalize upd (upd Hb p7 (.lst [.str "work",.str w'])) g (.lst (bs ++ [.ref p7]))=Hc at I2 ⊢
  have hDc:=hD0.same I2.sm
  obtain ⟨d12,ed12,d120,d121⟩:=hDc.get (0 + 12 + (k:Int)) (by lia) (by lia)
  have j0:=zQ d12 (show (3:Int) ≠ 0 by decide)
  have j1:=yZ d12 (show (0:Int) < 3 by decide)
  let Pv16:Nat->St->Hp->Prop:=fun j σ Hq=>∃ (g:Addr) (v15:Option V) (bs:List V) (B:List BR),σ=[some (.ref l),some (.int 0),some (.int 3),some (.int 3),some (.int n),some (.ref g),some (.ref E1),some (.int (k:Nat)),v8,v9,some (.ref E2),v11,v12,some (.ref E5),some (.str w'),v15,none]/\BI H Hq ES g bs B/\GI n B (SD3 nm1 nm2 (nm5.take (k + 1))) (limV nm5 k (k + 1) w' dz j)/\B.length<=6 + 15 * k + 1 + 7 * j
  refine ⟨_,rfl,_,rfl,_,_,rfl,rfl,_,rfl,_,_,rfl,rfl,l,_,_,_,rfl,rfl,hDc.lst,ed12,_,_,rfl,rfl,(by show (0:Int) < _;decide +kernel),d12 % 3,rfl,by lia,by lia,Za (lo:=0) (n:=(d12 % 3).toNat) Pv16 ⟨g,v15,_,_,rfl,I2,gi2,by rw [jW];show B.length + 1<=_;lia⟩ ?_ ?_⟩
  ·rintro j σ Ha hj ⟨g,v15,bs,B,rfl,I,gi,hl⟩
   have hj2:j<=1:=by lia
   rw [show (0:Int) + (j:Int)=((j:Nat):Int) by lia]
   have hDa:=hD0.same I.sm
   refine ⟨_,rfl,_,rfl,_,rfl,_,_,rfl,rfl,_,rfl,_,_,rfl,rfl,.inl ⟨by decide,by decide⟩,_,_,rfl,rfl,_,rfl,_,_,rfl,rfl,.inl ⟨by decide,by decide⟩,_,_,rfl,rfl,_,rfl,_,rfl,_,rfl,_,rfl,_,rfl,l,E1,E2,ds,_,_,n,w',nm1,nm2,rfl,hDa,by lia,by lia,by lia,by lia,hn1,by lia,Qc (I.he _ i1),Qc (I.he _ i2),by lia,by lia,nd1,nd2,fun g6 vs6 R6 v H7 s7 hg6 hB6 hv nv hW lR=>?_⟩
   have hv':=hv dz (by rw [show (0:Int) + 15 + 6 * ((k:Nat):Int) + 3 * ((j:Nat):Int) - 3 * ((j:Nat):Int)=0 + 15 + 6 * (k:Int) by lia];exact edz)
   have I7:=I.same s7
   have lb:=I7.rb.length
   have l6:=hB6.length
   refine ⟨g,g6,_,_,rfl,rfl,I7.hg,hg6,by lia,fun g7 hg7=>?_⟩
   exact ⟨g7,_,_,_,rfl,I7.cat hg7 hB6,gi.way nd5 ew hj2 hv' nv hW,by rw [jW];lia⟩
  ·rintro σ Hq ⟨g,v15,bs,B,rfl,I,gi,hl⟩
   exact ⟨g,_,_,_,bs,B,rfl,I,gi.nextW ew,by lia⟩
 rintro σ Ha ⟨g,v7,v14,v15,bs,B,rfl,I,gi,hl⟩
 rw [l5m] at gi hl
 have gi:=gi.toA
 have at5:∀ (i:Nat) (x:Str),nm5[i]?=some x->atI (nm5.map V.str) ((i:Nat):Int)=some (.str x):=fun i x e=>Zn (by rw [xJ,e];rfl)
 have pm:(0:Int) < (if n + 1 < 3 then n + 1 else 3):=by split <;> lia
 have pn:(if n + 1 < 3 then n + 1 else 3)<=n + 1:=by split <;> lia
 refine ⟨_,rfl,E5,_,rfl,.inl (Qc (I.he _ i5)),_,_,rfl,⟨by decide,by decide,by lia,by rw [l5m];lia⟩,Za (lo:=1) (n:=((((nm5.map V.str).length:Nat):Int) - 1).toNat) (fun m σ Hq=>∃ (v7 v16:Option V) (bs:List V) (B:List BR),σ=[some (.ref l),some (.int 0),some (.int 3),some (.int 3),some (.int n),some (.ref g),some (.ref E1),v7,v8,v9,some (.ref E2),v11,v12,some (.ref E5),v14,v15,v16]/\BI H Hq ES g bs B/\GI n B (SD3 nm1 nm2 nm5) (limA nm5 m)/\B.length<=51 + m) ⟨_,_,_,_,rfl,I,gi,by lia⟩ ?_ ?_⟩
 ·rintro m σ Ha hm ⟨v7,v16,bs,B,rfl,I,gi,hl⟩
  have hm':m + 1 < nm5.length:=by rw [l5m] at hm;lia
  rw [show (1:Int) + (m:Int)=((m + 1:Nat):Int) by lia]
  obtain ⟨wk,ewk⟩:∃ x,nm5[m + 1]?=some x:=⟨_,gE hm'⟩
  obtain ⟨wp,ewp⟩:∃ x,nm5[m]?=some x:=⟨_,gE (by lia)⟩
  obtain ⟨wf,ewf⟩:∃ x,nm5[0]?=some x:=⟨_,gE (by lia)⟩
  have mp:wp ∈ nm5.take (m + 1):=Xq ewp
  have mf:wf ∈ nm5.take (m + 1):=yX (i:=0) (by rw [List.getElem?_take,if_pos (by lia)];exact ewf)
  have mk':wk ∈ nm5:=yX ewk
  have hDa:=hD0.same I.sm
  obtain ⟨z,ez,z0,z1⟩:=hDa.get (0 + 33 + ((m + 1:Nat):Int)) (by lia) (by lia)
  refine ⟨_,rfl,_,rfl,_,_,rfl,rfl,_,rfl,_,_,rfl,rfl,l,_,_,_,rfl,rfl,hDa.lst,ez,?_⟩
  have f0:=zQ (z / 3) (Int.ne_of_gt pm)
  have f1:=yZ (z / 3) pm
  have lb:=I.rb.length
  refine Qbd (fun σ' Hq=>∃ (bs:List V) (B:List BR),σ'=[some (.ref l),some (.int 0),some (.int 3),some (.int 3),some (.int n),some (.ref g),some (.ref E1),some (.int ((m + 1:Nat):Int)),v8,v9,some (.ref E2),v11,v12,some (.ref E5),v14,v15,some (.int z)]/\BI H Hq ES g bs B/\(z % 3=2->GI n B (SD3 nm1 nm2 nm5) (limA nm5 m)/\B.length<=51 + m)/\GI n B (SD3 nm1 nm2 nm5) (limA nm5 (m + 1))/\B.length<=51 + m + 1) ?_ fun REST=>?_
  ·clear I gi hl hDa lb
   rintro σ' Ha ⟨bs,B,rfl,I,gz,gi,hl⟩
   refine ⟨_,rfl,_,_,rfl,rfl,(by show (0:Int) < _;decide +kernel),rfl,_,rfl,ite2 (fun c2=>?_) (fun _=>⟨_,_,bs,B,rfl,I,gi,by lia⟩)⟩
   have c2':z % 3=2:=by
    have:=yK c2
    injection this
   obtain ⟨gi1,hl1⟩:=gz c2'
   have lb:=I.rb.length
   refine ⟨_,rfl,.inl ⟨rfl,_,Qc I.hg⟩,_,rfl,_,rfl,E5,_,_,_,rfl,rfl,Qc (I.he _ i5),at5 _ _ ewk,_,rfl,E5,_,_,_,rfl,rfl,Qc (I.he _ i5),at5 0 _ ewf,_,rfl,_,_,rfl,rfl,⟨by decide,by decide⟩,_,rfl,_,_,rfl,rfl,_,_,rfl,_,_,rfl,rfl,pm,by show 4<=sizeLine;decide,fun p7 hp7=>?_⟩
   obtain ⟨hg4,I3⟩:=I.row gi.ne (.after wk wf (z / 3 % (if n + 1 < 3 then n + 1 else 3))) hp7
   exact ⟨g,_,_,rfl,rfl,hg4,by lia,_,_,_,_,rfl,I3,gi1.after nd5 mk' (wZ mf) (Yk nd5 ewk mf) (.inr ⟨ewk,ewf⟩) f0 (by lia),by rw [jW];show B.length + 1<=_;lia⟩
  ·refine ⟨_,rfl,_,_,rfl,rfl,(by show (0:Int) < _;decide +kernel),rfl,_,rfl,ite2 (fun c1=>?_) (fun _=>REST _ _ ⟨bs,B,rfl,I,fun _=>⟨gi,hl⟩,gi.skipA,by lia⟩)⟩
   have c1':z % 3=1:=by
    have:=yK c1
    injection this
   refine ⟨_,rfl,.inl ⟨rfl,_,Qc I.hg⟩,_,rfl,_,rfl,_,_,rfl,rfl,E5,_,_,_,rfl,rfl,Qc (I.he _ i5),by rw [show ((m + 1:Nat):Int) - 1=((m:Nat):Int) by lia];exact at5 _ _ ewp,_,rfl,_,rfl,E5,_,_,_,rfl,rfl,Qc (I.he _ i5),at5 _ _ ewk,_,rfl,_,_,rfl,rfl,⟨by decide,by decide⟩,_,rfl,_,_,rfl,rfl,_,_,rfl,_,_,rfl,rfl,pm,by show 4<=sizeLine;decide,fun p7 hp7=>?_⟩
   obtain ⟨hg4,I3⟩:=I.row gi.ne (.after wp wk (z / 3 % (if n + 1 < 3 then n + 1 else 3))) hp7
   exact ⟨g,_,_,rfl,rfl,hg4,by lia,REST _ _ ⟨_,_,rfl,I3,fun c=>absurd c (by lia),gi.after nd5 (wZ mp) mk' (Ne.symm (Yk nd5 ewk mp)) (.inl ⟨ewp,ewk⟩) f0 (by lia),by rw [jW];show B.length + 1<=_;lia⟩⟩
 rintro σ H9 ⟨v7,v16,bs,B,rfl,I,gi,hl⟩
 have hl9:B.length<=53:=by rw [l5m] at hl;lia
 have gi:=gi.toL
 let Pv17:Nat->St->Hp->Prop:=fun k σ Hq=>∃ (v7 v14 v16:Option V) (bs:List V) (B:List BR),σ=[some (.ref l),some (.int 0),some (.int 3),some (.int 3),some (.int n),some (.ref g),some (.ref E1),v7,v8,v9,some (.ref E2),v11,v12,some (.ref E5),v14,v15,v16]/\BI H Hq ES g bs B/\GI n B (SD3 nm1 nm2 nm5) (limL nm5 k)/\B.length<=53 + k
 refine ⟨_,rfl,E5,rfl,⟨_,Qc (I.he _ i5)⟩,Vf (K:=K) (m:=true) (a:=E5) (xs:=nm5.map V.str) Pv17 ⟨_,_,_,_,_,rfl,I,gi,by lia⟩ (fun k σ Hq _ h=>?_) ?_ ?_⟩
 ·obtain ⟨v7,v14,v16,bs,B,rfl,I,gi,hl⟩:=h
  exact Qc (I.he _ i5)
 ·rintro k x σ Ha T e1 ⟨v7,v14,v16,bs,B,rfl,I,gi,hl⟩ hTn
  obtain ⟨w',ew,rfl⟩:=Ku e1
  have hk:k < nm5.length:=(kZ.mp ew).1
  refine ⟨T,_,rfl,Yb Qd,rfl,_,_,rfl,_,_,rfl,rfl,?_⟩
  have I1:=I.same (Qf hTn (.tup [.int (k:Nat),.str w']))
  generalize upd Ha T (.tup [.int (k:Nat),.str w'])=Hb at I1 ⊢
  have hDb:=hD0.same I1.sm
  have lb:=I1.rb.length
  obtain ⟨z,ez,z0,z1⟩:=hDb.get (0 + 36 + (k:Int)) (by lia) (by lia)
  refine ⟨_,rfl,_,rfl,_,_,rfl,rfl,_,rfl,_,_,rfl,rfl,l,_,_,_,rfl,rfl,hDb.lst,ez,?_⟩
  refine ⟨_,rfl,_,_,rfl,rfl,(by show (0:Int) < _;decide +kernel),rfl,_,rfl,ite2 (fun _=>?_) (fun _=>⟨_,_,_,bs,B,rfl,I1,gi.skipL ew,by lia⟩)⟩
  refine ⟨_,rfl,.inl ⟨rfl,_,Qc I1.hg⟩,_,rfl,_,rfl,_,_,rfl,rfl,⟨by decide,by decide⟩,_,rfl,_,_,rfl,rfl,_,_,rfl,rfl,by lia,_,rfl,_,_,rfl,rfl,⟨by decide,by decide⟩,_,_,rfl,rfl,(by show (0:Int) < _;decide +kernel),_,_,rfl,rfl,by show 4<=sizeLine;decide,fun p7 hp7=>?_⟩
  have f0:=zQ (z / 2) (show n + 1 ≠ 0 by lia)
  have f1:=yZ (z / 2) (show 0 < n + 1 by lia)
  have f2:=zQ (z / 24) (show (9:Int) ≠ 0 by decide)
  have f3:=yZ (z / 24) (show (0:Int) < 9 by decide)
  obtain ⟨hg4,I3⟩:=I1.row gi.ne (.late w' (z / 2 % (n + 1)) (1 + z / 24 % 9)) hp7
  exact ⟨g,_,_,rfl,rfl,hg4,by lia,_,_,_,_,_,rfl,I3,gi.late nd5 ew f0 (by lia) (by lia) (by lia),by rw [jW];show B.length + 1<=_;lia⟩
 ·rintro σ Hq ⟨v7,v14,v16,bs,B,rfl,I,gi,hl⟩
  rw [l5m] at hl
  exact ⟨_,rfl,qq g bs B Hq I.sm I.fg I.hg I.rb gi.gd gi.ne (by lia)⟩
end
end Nb
namespace L2
open PySem PySem.Spec PyProof.Rows PySem.SeqAt
end L2
namespace L2
open PySem PySem.Spec PySem.Calls PyProof.Rows PySem.W PySem.SeqAt
end L2
namespace Nb
open PySem L2
abbrev sLaw:Stmt:=top 161
abbrev L2B:List BR:=[.days 1,.work "lone"]
structure LI (H1 H:Hp) (CD dk bl pl dk2 bl2 o2:Addr) (av:List Addr) (S:List (List BR)) (n:Nat):Prop where
 sm:Same H1 H
 pr:PairAt H CD dk bl pl av S n
 d2:DkAt H CD (bl :: pl :: av) dk2 bl2 [L2B]
 oo:BkA H (bl :: pl :: av) o2 L2B
section
variable {H1 H:Hp} {CD dk bl pl dk2 bl2 o2:Addr} {av:List Addr} {S:List (List BR)} {n:Nat}
theorem LI.same {H':Hp} (h:LI H1 H CD dk bl pl dk2 bl2 o2 av S n) (s:Same H H'):LI H1 H' CD dk bl pl dk2 bl2 o2 av S n:=⟨h.sm.trans s,h.pr.same s,h.d2.fr (Qy s),h.oo.fr (Qy s)⟩
theorem sub1 {x a b:Addr} {av:List Addr}:∀ y ∈ a :: x :: av,y ∈ x :: a :: av:=fun y hy=>by
 rcases jJ.mp hy with rfl | hy
 ·exact jY _ jX
 rcases jJ.mp hy with rfl | hy
 ·exact jX
 ·exact jY _ (jY _ hy)
theorem sub2 {x a b:Addr} {av:List Addr}:∀ y ∈ a :: b :: x :: av,y ∈ x :: a :: b :: av:=fun y hy=>by
 rcases jJ.mp hy with rfl | hy
 ·exact jY _ jX
 rcases jJ.mp hy with rfl | hy
 ·exact jY _ (jY _ jX)
 rcases jJ.mp hy with rfl | hy
 ·exact jX
 ·exact jY _ (jY _ (jY _ hy))
theorem LI.new {H':Hp} {x:Addr} (h:LI H1 H CD dk bl pl dk2 bl2 o2 av S n) (s:Same H H') (hx:H x=none) (hx':H' x ≠ none):LI H1 H' CD dk bl pl dk2 bl2 o2 (x :: av) S n :=
 ⟨h.sm.trans s,⟨((h.pr.dk.more hx).less (sub1 (b:=x))).fr (Qy s),((h.pr.ps.more hx).less (sub1 (b:=x))).fr (Qy s),fun a ha=>by
  rcases jJ.mp ha with rfl | ha
  ·exact hx'
  ·exact nn s (h.pr.al a ha),h.pr.gd⟩,((h.d2.more hx).less sub2).fr (Qy s),((h.oo.more hx).less sub2).fr (Qy s)⟩
theorem LI.new2 {H':Hp} {x y:Addr} (h:LI H1 H CD dk bl pl dk2 bl2 o2 [] S n) (s:Same H H') (hx:H x=none) (hy:H y=none) (hx':H' x ≠ none) (hy':H' y ≠ none):LI H1 H' CD dk bl pl dk2 bl2 o2 [x,y] S n:=by
 have p1:∀ a z:Addr,z ∈ [a,x,y]->z ∈ [x,y,a]:=fun a z hz=>by
  simp only [jJ,jXb,or_false] at hz ⊢
  rcases hz with h | h | h <;> simp [h]
 have p2:∀ a b z:Addr,z ∈ [a,b,x,y]->z ∈ [x,y,a,b]:=fun a b z hz=>by
  simp only [jJ,jXb,or_false] at hz ⊢
  rcases hz with h | h | h | h <;> simp [h]
 exact ⟨h.sm.trans s,⟨(((h.pr.dk.more hy).more hx).less (p1 pl)).fr (Qy s),(((h.pr.ps.more hy).more hx).less (p1 bl)).fr (Qy s),fun a ha=>by
  rcases jJ.mp ha with rfl | ha
  ·exact hx'
  ·rw [jQ.mp ha];exact hy',h.pr.gd⟩,(((h.d2.more hy).more hx).less (p2 bl pl)).fr (Qy s),(((h.oo.more hy).more hx).less (p2 bl pl)).fr (Qy s)⟩
theorem LI.drop {x:Addr} (h:LI H1 H CD dk bl pl dk2 bl2 o2 (x :: av) S n):LI H1 H CD dk bl pl dk2 bl2 o2 av S n :=
 ⟨h.sm,⟨h.pr.dk.less fun y hy=>by
  rcases jJ.mp hy with rfl | hy
  ·exact jX
  ·exact jY _ (jY _ hy),h.pr.ps.less fun y hy=>by
  rcases jJ.mp hy with rfl | hy
  ·exact jX
  ·exact jY _ (jY _ hy),fun a ha=>h.pr.al a (jY _ ha),h.pr.gd⟩,h.d2.less fun y hy=>by
  rcases jJ.mp hy with rfl | hy
  ·exact jX
  rcases jJ.mp hy with rfl | hy
  ·exact jY _ jX
  ·exact jY _ (jY _ (jY _ hy)),h.oo.less fun y hy=>by
  rcases jJ.mp hy with rfl | hy
  ·exact jX
  rcases jJ.mp hy with rfl | hy
  ·exact jY _ jX
  ·exact jY _ (jY _ (jY _ hy))⟩
theorem LI.touch {x:Addr} {o:HO} (h:LI H1 H CD dk bl pl dk2 bl2 o2 av S n) (hx:x ∈ av) (hn:H1 x=none):LI H1 (upd H x o) CD dk bl pl dk2 bl2 o2 av S n :=
 ⟨Yr h.sm hn,⟨h.pr.dk.fr (Jq (jY _ hx)),h.pr.ps.fr (Jq (jY _ hx)),fun a ha=>by
  by_cases c:a=x
  ·rw [c,Qd];exact xX _
  ·rw [Ql c];exact h.pr.al a ha,h.pr.gd⟩,h.d2.fr (Jq (jY _ (jY _ hx))),h.oo.fr (Jq (jY _ (jY _ hx)))⟩
theorem LI.step {H':Hp} {S':List (List BR)} {m:Nat} (h:LI H1 H CD dk bl pl dk2 bl2 o2 av S n) (hb:H1 bl=none) (hp:H1 pl=none) (f:Fr [bl,pl] H H') (hP:PairAt H' CD dk bl pl av S' m):LI H1 H' CD dk bl pl dk2 bl2 o2 av S' m :=
 ⟨fun b o e=>f b o (fun z=>by
  rcases jJ.mp z with rfl | z
  ·rw [hb] at e;cases e
  ·rw [jQ.mp z,hp] at e;cases e) (h.sm b o e),hP,h.d2.fr (f.mono fun y hy=>by
  rcases jJ.mp hy with rfl | hy
  ·exact jX
  ·rw [jQ.mp hy];exact jY _ jX),h.oo.fr (f.mono fun y hy=>by
  rcases jJ.mp hy with rfl | hy
  ·exact jX
  ·rw [jQ.mp hy];exact jY _ jX)⟩
theorem LI.last (h:LI H1 H CD dk bl pl dk2 bl2 o2 av S n):∃ S0 B xs g us,S=S0 ++ [B]/\B ≠ []/\Good B/\B.length<=n/\H pl=some (.lst (xs ++ [.ref g]))/\H g=some (.lst us)/\RowsB H us B:=by
 obtain ⟨S0,B,rfl,h1,h2,h3⟩:=h.pr.gd.last
 obtain ⟨as,a,e,_,_,_,_,us,ha,hB,_⟩:=h.pr.ps.last
 exact ⟨S0,B,_,a,us,rfl,h1,h2,h3,e,ha,hB⟩
end
section
variable {P:Program} {w:World} {K:Fg} {mg:Str->Option Value} {base:Heap}
theorem passF {X:Cx} {C:Addr}:Jw (CXg X.prog X.w C) X (fun _ _ _=>False):=fun _ _ _ _ _ _ _ h=>by
 obtain ⟨_,_,_,_,_,z,_⟩:=h
 exact z.elim
theorem scLaw:FnScope ["_law_script","_law_draws_here","_law_book_here","_law_other_here","_law_handed","_law_desk","_law_second","_law_past","_law_k","_law_deed_here","_law_row","_law_found"] ["_law_script"] (Qh sLaw):=⟨rfl,rfl,rfl,by decide +kernel,rfl,by decide +kernel,by decide +kernel⟩
theorem okLaw {C CS CD:Addr} (T:DkTxt K mg CD) {fI fB:Addr} {fdI fdB:FuncData} (MI:Mk K CD fI) (GI9:FnOk P w K mg base (CXg P w C) 6 fI fdI ["self","book"] (Qjm K C CD)) (bI:Binds K fdI ["self","book"] []) (GB:FnOk P w K mg base CX0 2 fB fdB ["self"] (Qmr CD)) (bB:Binds K fdB ["self"] []) (mB:Meth K CD "book" fB) {f:Addr} {fd:FuncData} (F:Fun K "law" "law" sLaw f fd) (M:Mg mg) (cl_draws:Cal P w K mg base 2 "_law_draws" ["_law_script","_law_many"] (Qct K)) (cl_book:Cal P w K mg base 3 "_law_book" ["_law_draws_here","_law_at","_law_most","_law_many"] (Qfi K)) (cl_no_desk:Cal P w K mg base 8 "_law_no_desk" ["_law_book_here"] (Qff)) (cl_deed:Cal P w K mg base 2 "_law_deed" ["_law_draws_here","_law_at","_law_book_here"] (Qna K)) (cl_step:Cal P w K mg base 8 "_law_step" ["_law_desk","_law_past","_law_deed_here"] (Qmx K C CS CD)):FnOk P w K mg base CX0 9 f fd ["_law_script"] (Qkn K):=by
 refine F.ok scLaw (fun vs H Q E h=>?_) (fun cdv A outer s H vs Q E hr h=>?_)
 ·obtain ⟨a,ns,rfl,_⟩:=h
  rfl
 obtain ⟨a,ns,rfl,hS,h63,q⟩:=h
 have hu6:(A.deeper (PyProof.Rows.envOfC "law" (Qh sLaw) s.heap.objs.size f cdv)).units + 6 < cLine:=jZf (jZc (by decide) _) hr.un
 refine ⟨_,(Qe (Qs (i:=1) scLaw.nd rfl (Or.inl rfl) (Xz cl_draws (hr.mono (by decide)) (Qa (pv 0) (Qa Qb Qg))))
  (Qe (Qs (i:=2) scLaw.nd rfl (Or.inl rfl) (Xz cl_book (hr.mono (by decide)) (Qa (pv 1) (Qa Qb (Qa Qb (Qa Qb Qg))))))
  (Qe (Qs (i:=3) scLaw.nd rfl (Or.inl rfl) (Xi (Qa (Xi (Qa Qx (Qa Qb Qg))) (Qa (Xi (Qa Qx (Qa Qx Qg))) Qg))))
  (Qe (Jf (i:=4) ["_law_row"] [none] rfl scLaw.nd rfl (Or.inl rfl) (Ye (pv 2)) (fun _ _ _=>(Xb (i:=0) (show (["_law_row"]:List Str).Nodup by decide +kernel) rfl (Or.inl rfl) (Or.inr rfl))) (fun _ _ _=>Zd) (fun _ _ _=>(Yc (Ya (K:=K) rfl) rfl M.list_ Zt (Qa (pv 0) Qg))))
  (Qe (Qs (i:=5) scLaw.nd rfl (Or.inl rfl) (Qhh MI GI9 (hr.mono (by decide)) rfl T.mgC bI .nil passF (Qa (pv 4) Qg)))
  (Qe (Qs (i:=6) scLaw.nd rfl (Or.inl rfl) (Qhh MI GI9 (hr.mono (by decide)) rfl T.mgC bI .nil passF (Qa (pv 3) Qg)))
  (Qe (Xg (Zs PySem.F.plainAttrs_list PySem.F.slot_list_append PySem.F.type_list_append Xc (pv 4) (Qa (Xi (Qa Qx (Qa Qb Qg))) Qg)))
  (Qe (Xg (Zs PySem.F.plainAttrs_list PySem.F.slot_list_append PySem.F.type_list_append Xc (Qp Qk (pv 4) Qb (fun _ _=>rfl)) (Qa Qb Qg)))
  (Qe (Xm (Zx (Zl (Xz cl_no_desk (hr.mono (by decide)) (Qa (pv 2) Qg)))) (Qi (Xa Jr)) Qt)
  (Qe (Qs (i:=7) scLaw.nd rfl (Or.inl rfl) (Xi (Qa (pv 2) Qg)))
  (Qe (Yz PassesOwn.never rfl (Yp rfl M.range_ (Qa Qb Qg)) (Xb (i:=8) scLaw.nd rfl (Or.inl rfl) (Or.inl rfl)) (Qe (Qs (i:=9) scLaw.nd rfl (Or.inl rfl) (Xz cl_deed (hr.mono (by decide)) (Qa (pv 1) (Qa (Qj Qo Qb (Qj Zm Qb (pv 8))) (Qa (Qp Qk (pv 7) (Ww Jo Qb) (fun _ _=>rfl)) Qg)))))
  (Qe (Xm (Qr Xy (Qj Qv (Qp Qk (pv 1) (Qj Qo Qb (Qj Zm Qb (pv 8))) (fun _ _=>rfl)) Qb) Qb (Qu _)) (Qi (Qs (i:=9) scLaw.nd rfl (Or.inl rfl) (Qae (Qa Qx (Qa Qb (Qa (Xi Qg) Qg)))))) Qt)
  (Qe (Xm (Qr Xy (Qj Qv (Qp Qk (pv 1) (Qj Qo Qb (Qj Zm Qb (pv 8))) (fun _ _=>rfl)) Qb) Qb (Qu _)) (Qi (Qs (i:=9) scLaw.nd rfl (Or.inl rfl) (Qae (Qa (Qp Yg (pv 9) Qb (fun _ _=>rfl)) (Qa (Qp Qk (Xi (Qa (Ww Jo Qb) (Qa (Qj Qo (Qm Qn rfl M.len Xp (Qa (Qp Qk (pv 7) (Ww Jo Qb) (fun _ _=>rfl)) Qg)) Qb) Qg))) (Qj Qv (Qj Xh (Qp Qk (pv 1) (Qj Qo Qb (Qj Zm Qb (pv 8))) (fun _ _=>rfl)) Qb) Qb) (fun _ _=>rfl)) (Qa (Qp Yg (pv 9) Qb (fun _ _=>rfl)) Qg)))))) Qt)
  (Qe (Qs (i:=10) scLaw.nd rfl (Or.inl rfl) (Yc Kw rfl M.list_ Zt (Qa (Qp Yg (pv 9) Qb (fun _ _=>rfl)) Qg)))
  (Qe (Xm (Qr Xy (Qj Qv (Qp Qk (pv 1) (Qj Qo Qb (Qj Zm Qb (pv 8))) (fun _ _=>rfl)) Qb) Qb (Qu _)) (Qi (Qs (i:=10) scLaw.nd rfl (Or.inl rfl) (Yc Zr rfl M.tuple_ Qaw (Qa (pv 10) Qg)))) Qt)
  (Qe (Xm (Zx (Zl (Xz cl_step (hr.mono (by decide)) (Qa (pv 5) (Qa (pv 7) (Qa (Qae (Qa (Qp Yg (pv 9) Qb (fun _ _=>rfl)) (Qa (Qp Yg (pv 9) Qb (fun _ _=>rfl)) (Qa (pv 10) Qg)))) Qg)))))) (Qi (Xa Jr)) Qt)
  (Qe (Xm (Zl (Qm Yq rfl M.isinstance Xe (Qa (pv 10) (Qa (Qav M.list_ Zt) Qg)))) (Qi (Xg (Zs PySem.F.plainAttrs_list PySem.F.slot_list_append PySem.F.type_list_append Xc (pv 10) (Qa Qb Qg)))) Qt)
  (Qe (Qs (i:=11) scLaw.nd rfl (Or.inl rfl) (Qaq (pv 5) T.cl mB GB (hr.mono (by decide)) bB .nil Qkh))
  (Qe (Xm (PW.pt (Wv (Qr (Qbo (n:=6) hu6) (pv 11) (Qp Qk (pv 7) (Ww Jo Qb) (fun _ _=>rfl)) (Qu _)) (Vm (Qr (Qbo (n:=6) hu6) (Qaq (pv 6) T.cl mB GB (hr.mono (by decide)) bB .nil Qkh) (pv 3) (Qu _))))) (Qi (Xa Jr)) Qt)
  (Qe (Xg (Zs PySem.F.plainAttrs_list PySem.F.slot_list_append PySem.F.type_list_append Xc (Qp Qk (pv 11) Qb (fun _ _=>rfl)) (Qa Qb Qg)))
  (Qe (Xg (Qhk PySem.F.plainAttrs_list PySem.F.slot_list_clear PySem.F.type_list_clear Qkf (pv 11)))
  (Qi (Xm (Qr (Qbo (n:=6) hu6) (Qaq (pv 5) T.cl mB GB (hr.mono (by decide)) bB .nil Qkh) (Qp Qk (pv 7) (Ww Jo Qb) (fun _ _=>rfl)) (Qu _)) (Qi (Xa Jr)) Qt))))))))))))))
  (Qi (Xa Jr))))))))))))),?_⟩
 have hz:(2000000:Nat) < sizeLine:=by decide
 refine ⟨_,rfl,a,ns,100,rfl,hS,by decide,fun l ds H1 ld s1 hD1=>?_⟩
 refine ⟨_,rfl,l,ds,rfl,hD1,by lia,fun gB vB B H2 s2 fB hgB hrB hGB hneB hlB=>?_⟩
 refine ⟨by show 2<=sizeLine;decide,fun q1 hq1=>⟨by show 2<=sizeLine;decide,fun q2 hq2=>⟨by show 2<=sizeLine;decide,fun o2 ho2=>?_⟩⟩⟩
 have t1:=Qf hq1 (.lst [.str "days",.int 1])
 have t2:=Qf hq2 (.lst [.str "work",.str "lone"])
 have t3:=Qf ho2 (.lst [.ref q1,.ref q2])
 have eq1:upd H2 q1 (.lst [.str "days",.int 1]) q1=some (.lst ((BR.days 1).cells.map kV)):=Qd
 have eq2:upd (upd H2 q1 (.lst [.str "days",.int 1])) q2 (.lst [.str "work",.str "lone"]) q2=some (.lst ((BR.work "lone").cells.map kV)):=Qd
 have eo2:upd (upd (upd H2 q1 (.lst [.str "days",.int 1])) q2 (.lst [.str "work",.str "lone"])) o2 (.lst [.ref q1,.ref q2]) o2=some (.lst [.ref q1,.ref q2]):=Qd
 have rO:RowsB (upd (upd (upd H2 q1 (.lst [.str "days",.int 1])) q2 (.lst [.str "work",.str "lone"])) o2 (.lst [.ref q1,.ref q2])) [.ref q1,.ref q2] L2B:=RowsB.snoc (vs:=[.ref q1]) (B:=[.days 1]) (RowsB.snoc (vs:=[]) (B:=[]) .nil (t3 _ _ (t2 _ _ eq1))) (t3 _ _ eq2)
 have s3:=(t1.trans t2).trans t3
 generalize upd (upd (upd H2 q1 (.lst [.str "days",.int 1])) q2 (.lst [.str "work",.str "lone"])) o2 (.lst [.ref q1,.ref q2])=H3 at s3 eo2 rO ⊢
 clear t1 t2 t3 eq1 eq2 hq1 hq2 ho2
 have gL:Good L2B:=by
  have g1:GI 1 [.days 1] (SD1 (([]:List Str).take 0)) (limB [] 0):=GI.start (by decide) (by decide) []
  have g2:GI 1 [.days 1] (SD3 [] [] ((["lone"]:List Str).take 0)) (limV ["lone"] 0 0 "" 0 0):=(g1.toS (ts:=[])).toW
  exact (g2.work (z':=0) (by decide +kernel) rfl ⟨by decide +kernel,by decide +kernel,by decide +kernel⟩).gd
 refine ⟨_,rfl,gB,rfl,⟨_,Qc (s3 _ _ hgB)⟩,fun h hh=>?_⟩
 refine Kt rfl (s3 _ _ hgB) (hrB.same s3) (by lia) hh (fun l xs H1 P hl hp=>⟨_,rfl,l,xs,rfl,.inl (Qc hl),hp⟩) fun H4 ys s4 eh rH nH=>?_
 have ly:=rH.length
 obtain ⟨r0,B',rfl⟩:∃ r B',B=r :: B':=by
  cases B with
  | nil=>exact absurd rfl hneB
  | cons r B'=>exact ⟨r,B',rfl⟩
 obtain ⟨y0,ys',rfl,hy0⟩:∃ y0 ys',ys=.ref y0 :: ys'/\H4 y0=some (.lst (r0.cells.map kV)):=by
  cases ys with
  | nil=>cases ly
  | cons y ys' =>
   obtain ⟨r,l0,er,rfl,hl0⟩:=rH.get (i:=0) (v:=y) rfl
   cases er
   exact ⟨l0,ys',rfl,hl0⟩
 have gnB:=Ju hGB
 have s14:=(s2.trans s3).trans s4
 have n1h:H1 h=none:=Yj ((s2.trans s3)) hh
 have n1y:H1 y0=none:=Yj ((s2.trans s3)) (nH y0 jX)
 -- the first desk
 refine ⟨_,rfl,fun dk dx hx hdx hxd=>?_⟩
 have mk:∀ {Ha:Hp} {x dx:Addr},Ha x=none->Ha dx=none->dx ≠ x->Same Ha (upd (upd Ha dx (.own x)) x (.ins CD dx [])):=fun {Ha x dx} hx hdx hne=>(Qf hdx _).trans (Qf (by rw [Ql (Ne.symm hne)];exact hx) _)
 have back:∀ {H2 H3:Hp} {x dx:Addr},H2 x=none->H2 dx=none->dx ≠ x->Fr [x] (upd (upd H2 dx (.own x)) x (.ins CD dx [])) H3->Same H2 H3:=fun {H2 H3 x dx} hx hdx hne f b o e=>f b o (fun z=>by rw [jQ.mp z,hx] at e;cases e) (by rw [Ql (Qq e hx),Ql (Qq e hdx)];exact e)
 have m4:=mk hx hdx hxd
 refine ⟨dk,h,dx,[h,y0],_,rfl,Qd,fun z=>?_,fun b hb=>?_,m4 _ _ eh,fun v hv=>(Qjq rH gnB v hv).keep (Xw m4),by lia,.inr ⟨_,by simp,hGB,rH.same m4,fun bl H5 hbl f5 hD5=>⟨rfl,?_⟩⟩⟩
 ·rcases jJ.mp z with rfl | z
  ·rw [eh] at hx;cases hx
  ·rw [jQ.mp z,hy0] at hx;cases hx
 ·rcases jJ.mp hb with rfl | hb
  ·rw [m4 _ _ eh];exact xX _
  ·rw [jQ.mp hb,m4 _ _ hy0];exact xX _
 have s5:=back hx hdx hxd f5
 have bl4:H4 bl=none:=Yj m4 hbl
 have n1b:H1 bl=none:=Yj s14 bl4
 obtain ⟨nbl5,asb,ebl5,_⟩:=id hD5.2.2
 have aB4:BkA H4 [] gB (r0 :: B'):=⟨jXb,_,s4 _ _ (s3 _ _ hgB),(hrB.same s3).same s4,fun _ _ z=>(nomatch z)⟩
 have aO4:BkA H4 [] o2 L2B:=⟨jXb,_,s4 _ _ eo2,rO.same s4,fun _ _ z=>(nomatch z)⟩
 have avs:∀ {g:Addr} {B:List BR},BkA H3 [] g B->BkA H5 [bl,h,y0] g B:=fun {g B} h3=>(((h3.more (nH y0 jX)).more hh).fr (Qy s4) |>.more bl4).fr (Qy s5)
 have aB5:=avs (g:=gB) (B:=r0 :: B') ⟨jXb,_,s3 _ _ hgB,hrB.same s3,fun _ _ z=>(nomatch z)⟩
 have aO5:=avs (g:=o2) (B:=L2B) ⟨jXb,_,eo2,rO,fun _ _ z=>(nomatch z)⟩
 clear avs aB4 aO4
 -- the second desk
 refine ⟨_,rfl,fun dk2 dx2 hx2 hdx2 hxd2=>?_⟩
 have m5:=mk hx2 hdx2 hxd2
 have eo5:=s5 _ _ (s4 _ _ eo2)
 have eh5:=s5 _ _ eh
 have ey5:=s5 _ _ hy0
 have al5:∀ b ∈ [bl,h,y0],H5 b ≠ none:=fun b hb=>by
  rcases jJ.mp hb with rfl | hb
  ·rw [ebl5];exact xX _
  rcases jJ.mp hb with rfl | hb
  ·rw [eh5];exact xX _
  ·rw [jQ.mp hb,ey5];exact xX _
 refine ⟨dk2,o2,dx2,[bl,h,y0],_,rfl,Qd,fun z=>al5 _ z hx2,fun b hb=>nn m5 (al5 b hb),m5 _ _ eo5,fun v hv=>(Qjq ((rO.same s4).same s5) (Ju gL) v hv).keep (Xw m5),by show 2<=100000;decide,.inr ⟨_,by simp,gL,((rO.same s4).same s5).same m5,fun bl2 H6 hbl2 f6 hD6=>⟨rfl,?_⟩⟩⟩
 have s6:=back hx2 hdx2 hxd2 f6
 have s46:=s5.trans s6
 have dA6:=hD5.fr (Qy s6)
 have aB6:=aB5.fr (Qy s6)
 have aO6:=aO5.fr (Qy s6)
 have eh6:=s6 _ _ eh5
 have ey6:=s6 _ _ ey5
 have s16:=s14.trans s46
 -- what was handed in is changed
 refine ⟨_,rfl,.inl ⟨rfl,_,Qc eh6⟩,by show 2<=sizeLine;decide,fun q7 hq7=>?_⟩
 have t7:=Qf hq7 (.lst [.str "days",.int 2])
 refine ⟨h,_,_,rfl,rfl,t7 _ _ eh6,by lia,?_⟩
 have hy:h ≠ y0:=fun z=>by
  have e9:=eh
  rw [z,hy0] at e9
  exact Jj (rH.noRow) r0 (HO.lst.inj (Option.some.inj e9))
 have fr8:Fr [h,y0] H6 (upd (upd H6 q7 (.lst [.str "days",.int 2])) h (.lst (V.ref y0 :: ys' ++ [.ref q7]))):=(Qy t7).trans (Jq jX)
 have eh8:upd (upd H6 q7 (.lst [.str "days",.int 2])) h (.lst (V.ref y0 :: ys' ++ [.ref q7])) h=some (.lst (V.ref y0 :: (ys' ++ [.ref q7]))):=Qd
 have ey8:upd (upd H6 q7 (.lst [.str "days",.int 2])) h (.lst (V.ref y0 :: ys' ++ [.ref q7])) y0=some (.lst (r0.cells.map kV)):=by rw [Ql (Ne.symm hy)];exact t7 _ _ ey6
 have s18:Same H1 (upd (upd H6 q7 (.lst [.str "days",.int 2])) h (.lst (V.ref y0 :: ys' ++ [.ref q7]))):=Yr (s16.trans t7) n1h
 generalize upd (upd H6 q7 (.lst [.str "days",.int 2])) h (.lst (V.ref y0 :: ys' ++ [.ref q7]))=H8 at fr8 eh8 ey8 s18 ⊢
 refine ⟨_,rfl,h,_,_,_,rfl,rfl,Qc eh8,Zn (k:=0) rfl,.inl ⟨rfl,_,Qc ey8⟩,y0,_,_,rfl,rfl,ey8,by have:=Yy r0;lia,?_⟩
 have fr9:Fr [h,y0] H6 (upd H8 y0 (.lst (r0.cells.map kV ++ [.int 7]))):=fr8.trans (Jq (jY _ jX))
 have s19:Same H1 (upd H8 y0 (.lst (r0.cells.map kV ++ [.int 7]))):=Yr s18 n1y
 generalize upd H8 y0 (.lst (r0.cells.map kV ++ [.int 7]))=H9 at fr9 s19 ⊢
 have f3:Fr [bl,h,y0] H6 H9:=fr9.mono fun y hy=>jY _ hy
 have dA9:=dA6.fr fr9
 have d29:=hD6.fr f3
 have aB9:=aB6.fr f3
 have aO9:=aO6.fr f3
 obtain ⟨_,vB9,egB9,rB9,_⟩:=id aB9
 refine ⟨_,rfl,gB,vB9,_,rfl,egB9,rB9,hGB,by lia,fun H10 s10=>⟨true,rfl,iteF ?_⟩⟩
 refine ⟨_,rfl,by show 1<=sizeLine;decide,fun pl hpl=>?_⟩
 have t11:=Qf hpl (.lst [.ref gB])
 have ep:upd H10 pl (.lst [.ref gB]) pl=some (.lst ([gB].map V.ref)):=Qd
 have s11:=s19.trans s10
 have n1p:H1 pl=none:=Yj s11 hpl
 have sub0:∀ y ∈ ([bl]:List Addr),y ∈ [bl,h,y0]:=fun y hy=>by rw [jQ.mp hy];exact jX
 have L0:LI H1 (upd H10 pl (.lst [.ref gB])) CD dk bl pl dk2 bl2 o2 [] [r0 :: B'] 100:=by
  refine ⟨s11.trans t11,⟨(((dA9.fr (Qy s10)).more hpl).less fun y hy=>by rw [jQ.mp hy];exact jX).fr (Qy t11),⟨fun z=>?_,[gB],ep,fun z=>?_,.cons (((aB9.less sub0).fr (Qy s10)).fr (Qy t11)) .nil⟩,fun a h=>(nomatch h),by simp,fun B hB=>by rw [jQ.mp hB];exact ⟨by simp,hGB,hlB⟩⟩,(((d29.fr (Qy s10)).more hpl).less fun y hy=>?_).fr (Qy t11),(((aO9.fr (Qy s10)).more hpl).less fun y hy=>?_).fr (Qy t11)⟩
  ·rw [jQ.mp z] at hpl
   have h9:=(dA9.fr (Qy s10)).2.2
   obtain ⟨_,as9,e9,_⟩:=h9
   rw [e9] at hpl;cases hpl
  ·rw [jQ.mp z,s10 _ _ egB9] at hpl;cases hpl
  ·rcases jJ.mp hy with rfl | hy
   ·exact jY _ jX
   ·rw [jQ.mp hy];exact jX
  ·rcases jJ.mp hy with rfl | hy
   ·exact jY _ jX
   ·rw [jQ.mp hy];exact jX
 generalize upd H10 pl (.lst [.ref gB])=H11 at L0 ⊢
 clear dA9 d29 aB9 aO9 f3 fr9 fr8 dA6 aB6 aO6 hD6 hD5 aB5 aO5 s10 t11 ep hpl s19 s18 eh8 ey8 egB9 rB9 s46 s16 eh6 ey6 al5 m5 f6 hbl2 s6 eh5 ey5 eo5 f5 s5 rH nH eh hy0 hh
 let Pv18:Nat->St->Hp->Prop:=fun i σ Hq=>∃ (u8 u9 u10 u11:Option V) (S:List (List BR)),σ=[some (.ref a),some (.ref l),some (.ref gB),some (.ref o2),some (.ref h),some (.ref dk),some (.ref dk2),some (.ref pl),u8,u9,u10,u11]/\LI H1 Hq CD dk bl pl dk2 bl2 o2 [] S (100 + i)/\S.length<=1 + i
 refine ⟨6,rfl,by decide,by decide,Za (lo:=0) (n:=6) Pv18 ⟨none,none,none,none,_,rfl,L0,kQ _⟩ ?_ ?_⟩
 ·rintro i σ Ha hi ⟨u8,u9,u10,u11,S,rfl,L,hSl⟩
  rw [show (0:Int) + (i:Int)=((i:Nat):Int) by lia]
  have hDa:=hD1.same L.sm
  obtain ⟨z,ez,z0,_⟩:=hD1.get (62 + 3 * ((i:Nat):Int)) (by lia) (by lia)
  obtain ⟨S0,Bq,xs,g,us,eS,hB0,hGq,hBl,epl,eg,rg⟩:=L.last
  refine ⟨_,rfl,_,rfl,_,_,rfl,rfl,.inl ⟨by decide,by decide⟩,_,_,rfl,rfl,_,rfl,_,rfl,pl,_,_,_,rfl,rfl,Qc epl,Yw _ _,l,g,ds,60 + 3 * ((i:Nat):Int),us,Bq,rfl,hDa,by lia,by lia,eg,rg,hGq,hB0,by lia,fun t wd zz rl ks Hb sb ht hk hw=>?_⟩
  clear epl eg rg xs g us
  refine Qbd (fun σ' Hq=>∃ t wd zz rl ks,σ'=[some (.ref a),some (.ref l),some (.ref gB),some (.ref o2),some (.ref h),some (.ref dk),some (.ref dk2),some (.ref pl),some (.int ((i:Nat):Int)),some (.ref t),u10,u11]/\SqT K Hq t [.str wd,.int zz,.ref rl]/\KR Hq rl ks/\(wd="put"\/wd="take"\/wd="back")/\LI H1 Hq CD dk bl pl dk2 bl2 o2 [] S (100 + i)) ?_ fun REST=>?_
  ·clear L hDa sb ht hk hw
   rintro σ' Hb ⟨t,wd,zz,rl,ks,rfl,ht,hk,hw,L⟩
   refine Qbc (fun σ' Hq=>∃ t wd zz rl ks,σ'=[some (.ref a),some (.ref l),some (.ref gB),some (.ref o2),some (.ref h),some (.ref dk),some (.ref dk2),some (.ref pl),some (.int ((i:Nat):Int)),some (.ref t),u10,u11]/\SqT K Hq t [.str wd,.int zz,.ref rl]/\KR Hq rl ks/\(wd="put"\/wd="take"\/wd="back")/\LI H1 Hq CD dk bl pl dk2 bl2 o2 [] S (100 + i)) ?_ fun REST=>?_
   ·clear L ht hk hw
    rintro σ' Hb ⟨t,wd,zz,rl,ks,rfl,ht,hk,hw,L⟩
    have a0:atI [V.str wd,V.int zz,V.ref rl] 0=some (.str wd):=Zn (k:=0) rfl
    have a1:atI [V.str wd,V.int zz,V.ref rl] 1=some (.int zz):=Zn (k:=1) rfl
    have a2:atI [V.str wd,V.int zz,V.ref rl] 2=some (.ref rl):=Zn (k:=2) rfl
    refine ⟨_,rfl,t,_,_,_,rfl,rfl,ht,a2,rl,_,rfl,.inl (Qc hk.hl),fun nl hnl=>?_⟩
    have sn:=Qf hnl (.lst (ks.map kV))
    have kn:KR (upd Hb nl (.lst (ks.map kV))) nl ks:=⟨Qd,hk.len,hk.pl⟩
    have Ln:=L.new sn hnl (by rw [Qd];exact xX _)
    have n1l:H1 nl=none:=Yj L.sm hnl
    have htn:=sn.tup ht
    generalize upd Hb nl (.lst (ks.map kV))=Hc at sn kn Ln htn ⊢
    clear L ht hk sn hnl
    refine Qbd (fun σ' Hq=>∃ v av,σ'=[some (.ref a),some (.ref l),some (.ref gB),some (.ref o2),some (.ref h),some (.ref dk),some (.ref dk2),some (.ref pl),some (.int ((i:Nat):Int)),some (.ref t),some v,u11]/\SqT K Hq t [.str wd,.int zz,.ref rl]/\LI H1 Hq CD dk bl pl dk2 bl2 o2 av S (100 + i)/\((∃ nl ks,v=.ref nl/\av=[nl]/\KR Hq nl ks/\H1 nl=none)\/∃ tp xs,v=.ref tp/\av=[]/\Hq tp=some (.tup xs))) ?_ fun REST=>?_
    ·clear Ln kn htn n1l
     rintro σ' Hc ⟨v,av,rfl,ht,L,hv⟩
     have rf:RowF Hc v:=by
      rcases hv with ⟨nl,ks,rfl,_,kr,_⟩ | ⟨tp,xs,rfl,_,etp⟩
      ·exact kr.rowF
      ·exact .inl ⟨tp,xs,rfl,etp⟩
     refine ⟨_,rfl,_,rfl,_,rfl,t,_,_,_,rfl,rfl,ht,a0,_,rfl,t,_,_,_,rfl,rfl,ht,a1,_,rfl,by show 3<=sizeLine;decide,fun t2 ht2=>?_⟩
     have s2:=Qf ht2 (.tup [.str wd,.int zz,v])
     have L2:=L.same s2
     have rf2:=rf.keep (Xw s2)
     have e2:upd Hc t2 (.tup [.str wd,.int zz,v]) t2=some (.tup [.str wd,.int zz,v]):=Qd
     have hv2:(∃ nl ks,v=.ref nl/\av=[nl]/\KR (upd Hc t2 (.tup [.str wd,.int zz,v])) nl ks/\H1 nl=none)\/∃ tp xs,v=.ref tp/\av=[]/\upd Hc t2 (.tup [.str wd,.int zz,v]) tp=some (.tup xs):=by
      rcases hv with ⟨nl,ks,e,ea,kr,n1⟩ | ⟨tp,xs,e,ea,etp⟩
      ·exact .inl ⟨nl,ks,e,ea,kr.same s2,n1⟩
      ·exact .inr ⟨tp,xs,e,ea,s2 _ _ etp⟩
     generalize upd Hc t2 (.tup [.str wd,.int zz,v])=Hd at L2 rf2 e2 hv2 ⊢
     clear L hv rf ht s2
     have vl:(∃ nl,v=.ref nl):=by
      rcases hv2 with ⟨nl,_,e,_⟩ | ⟨tp,_,e,_⟩
      ·exact ⟨nl,e⟩
      ·exact ⟨tp,e⟩
     refine ⟨dk,bl,pl,t2,av,S,100 + i,wd,zz,v,rfl,Yb e2,L2.pr,by lia,by lia,?_,fun He S' fe hPe hSe=>?_⟩
     ·rcases hw with e | e | e
      ·exact .inl ⟨e,rf2⟩
      ·exact .inr (.inl e)
      ·exact .inr (.inr e)
     refine ⟨true,rfl,iteF ?_⟩
     have Le:=L2.step n1b n1p fe hPe
     have keepE:∀ {x:Addr} {o:HO},Hd x=some o->x ≠ bl->x ≠ pl->He x=some o:=fun {x o} e h1 h2=>fe x o (fun z=>by
      rcases jJ.mp z with z | z
      ·exact h1 z
      ·exact h2 (jQ.mp z)) e
     unfold Qne
     dsimp only
     refine Qbc (fun σ' Hq=>∃ S',σ'=[some (.ref a),some (.ref l),some (.ref gB),some (.ref o2),some (.ref h),some (.ref dk),some (.ref dk2),some (.ref pl),some (.int ((i:Nat):Int)),some (.ref t),some v,u11]/\LI H1 Hq CD dk bl pl dk2 bl2 o2 [] S' (100 + (i + 1))/\S'.length<=1 + (i + 1)) ?_ fun REST=>?_
     ·clear Le keepE L2 hPe fe e2 rf2 hv2
      rintro σ' Hf ⟨S',rfl,L,hS'⟩
      obtain ⟨S0,Bq,xs,g,us,rfl,hB0,hGq,hBl,epl,eg,rg⟩:=L.last
      obtain ⟨_,⟨dxx,hdk⟩,_⟩:=id L.pr.dk
      refine ⟨_,rfl,dk,dxx,_,rfl,hdk,rfl,dk,bl,[pl],S0,Bq,rfl,L.pr.dk,by lia,fun f1 Hg sg hn1=>?_⟩
      obtain ⟨nf,uf,ef,rf,nrf⟩:=hn1
      have luf:=rf.length
      obtain ⟨r0',Bq',rfl⟩:∃ r B',Bq=r :: B':=by
       cases Bq with
       | nil=>exact absurd rfl hB0
       | cons r B'=>exact ⟨r,B',rfl⟩
      obtain ⟨y,uf',rfl,hy⟩:∃ y uf',uf=.ref y :: uf'/\Hg y=some (.lst (r0'.cells.map kV)):=by
       cases uf with
       | nil=>cases luf
       | cons v uf' =>
        obtain ⟨r,l0,er,rfl,hl0⟩:=rf.get (i:=0) (v:=v) rfl
        cases er
        exact ⟨l0,uf',rfl,hl0⟩
      have ny:=nrf y jX
      have n1f:H1 f1=none:=Yj L.sm nf
      have n1y':H1 y=none:=Yj L.sm ny
      have Lg:=L.new2 sg nf ny (by rw [ef];exact xX _) (by rw [hy];exact xX _)
      have fy:f1 ≠ y:=fun z=>by
       rw [z,hy] at ef
       exact Jj (rf.noRow) r0' (HO.lst.inj (Option.some.inj ef))
      refine ⟨_,rfl,_,rfl,_,rfl,pl,_,_,_,rfl,rfl,Qc (sg _ _ epl),Yw _ _,f1,g,rfl,rfl,Qdz ef (sg _ _ eg) rf (rg.same sg),_,rfl,iteF ?_⟩
      obtain ⟨_,⟨dx2',hdk2⟩,_⟩:=id Lg.d2
      refine ⟨_,rfl,dk2,dx2',_,rfl,hdk2,rfl,dk2,bl2,_,[],L2B,rfl,Lg.d2,by show 2<=100000;decide,fun f2 Hh sh hn2=>?_⟩
      obtain ⟨_,u2,e2',r2,_⟩:=hn2
      obtain ⟨_,uo,eo,ro,_⟩:=(Lg.oo.fr (Qy sh))
      refine ⟨_,rfl,f2,o2,rfl,rfl,Qdz e2' eo r2 ro,_,rfl,iteF ?_⟩
      have Lh:=Lg.same sh
      have ef3:=sh _ _ ef
      have hy3:=sh _ _ hy
      refine ⟨_,rfl,f1,_,_,_,rfl,rfl,Qc ef3,Zn (k:=0) rfl,.inl ⟨rfl,_,Qc hy3⟩,y,_,_,rfl,rfl,hy3,by have:=Yy r0';lia,?_⟩
      have Li:=Lh.touch (o:=.lst (r0'.cells.map kV ++ [.int 3])) (jY _ jX) n1y'
      have ef4:upd Hh y (.lst (r0'.cells.map kV ++ [.int 3])) f1=some (.lst (V.ref y :: uf')):=by rw [Ql fy];exact ef3
      generalize upd Hh y (.lst (r0'.cells.map kV ++ [.int 3]))=Hi at Li ef4 ⊢
      refine ⟨_,rfl,.inl ⟨rfl,_,Qc ef4⟩,f1,_,rfl,rfl,ef4,?_⟩
      have Lj:=(Li.touch (o:=.lst []) jX n1f).drop.drop
      generalize upd Hi f1 (.lst [])=Hj at Lj ⊢
      clear Li ef4 Lh ef3 hy3 sh e2' eo r2 ro Lg sg rf ef hy nrf
      obtain ⟨S0',Bp,xs',g',us',eS',hBp0,_,_,epl',eg',rg'⟩:=Lj.last
      have eBp:Bp=r0' :: Bq':=by
       have e9:=eS'
       have h9:=congrArg List.getLast? e9
       rw [List.getLast?_append,List.getLast?_append] at h9
       exact (Option.some.inj h9).symm
      subst eBp
      obtain ⟨_,⟨dx3,hdk3⟩,_⟩:=id Lj.pr.dk
      refine ⟨_,rfl,dk,dx3,_,rfl,hdk3,rfl,dk,bl,[pl],S0,r0' :: Bq',rfl,Lj.pr.dk,by lia,fun f3 Hk sk hn3=>?_⟩
      obtain ⟨_,u3,e3',r3,_⟩:=hn3
      exact ⟨_,rfl,_,rfl,pl,_,_,_,rfl,rfl,Qc (sk _ _ epl'),Yw _ _,f3,g',rfl,rfl,Qdz e3' (sk _ _ eg') r3 (rg'.same sk),_,rfl,iteF ⟨_,_,_,_,_,rfl,Lj.same sk,hS'⟩⟩
     ·rcases hv2 with ⟨nl,ks,rfl,rfl,kr,n1⟩ | ⟨tp,xs,rfl,rfl,etp⟩
      ·have krl:He nl=some (.lst (ks.map kV)):=keepE kr.hl (fun z=>L2.pr.dk.2.2.1 (by rw [z];exact jY _ jX)) (fun z=>L2.pr.ps.1 (by rw [z];exact jY _ jX))
       refine ⟨_,rfl,_,"list",true,rfl,.list,.inr ⟨⟨_,Qc krl⟩,rfl⟩,true,rfl,iteT ?_⟩
       have hkl:=kr.len
       exact ⟨_,rfl,.inl ⟨rfl,_,Qc krl⟩,nl,_,_,rfl,rfl,krl,by rw [jK];lia,REST _ _ ⟨S',rfl,(Le.touch jX n1).drop,by lia⟩⟩
      ·have etl:He tp=some (.tup xs):=by
        obtain ⟨_,asb,eb9,_⟩:=L2.pr.dk.2.2
        obtain ⟨_,asp,ep9,_⟩:=L2.pr.ps
        exact keepE etp (Qam etp eb9 (by intro z;cases z)) (Qam etp ep9 (by intro z;cases z))
       exact ⟨_,rfl,_,"list",false,rfl,.list,.inl ⟨⟨xs,Yb etl⟩,rfl⟩,false,rfl,iteF (REST _ _ ⟨S',rfl,Le,by lia⟩)⟩
    ·have hDc:=hD1.same Ln.sm
     refine ⟨_,rfl,_,rfl,_,_,rfl,rfl,.inl ⟨by decide,by decide⟩,_,_,rfl,rfl,l,_,_,_,rfl,rfl,hDc.lst,ez,_,_,rfl,rfl,(by show (0:Int) < _;decide +kernel),rfl,_,rfl,ite2 (fun _=>?_) (fun _=>REST _ _ ⟨.ref nl,[nl],rfl,htn,Ln,.inl ⟨nl,ks,rfl,rfl,kn,n1l⟩⟩)⟩
     refine ⟨_,rfl,nl,_,rfl,.inl ⟨Qc kn.hl,fun tp htp=>REST _ _ ⟨.ref tp,[],rfl,(Qf htp _).tup htn,Ln.drop.same (Qf htp _),.inr ⟨tp,_,rfl,rfl,Qd⟩⟩⟩⟩
   ·have hDb:=hD1.same L.sm
    obtain ⟨S0,Bq,xs,g,us,eS,hB0,hGq,hBl,epl,eg,rg⟩:=L.last
    have a0:atI [V.str wd,V.int zz,V.ref rl] 0=some (.str wd):=Zn (k:=0) rfl
    have a2:atI [V.str wd,V.int zz,V.ref rl] 2=some (.ref rl):=Zn (k:=2) rfl
    refine ⟨_,rfl,_,rfl,_,_,rfl,rfl,.inl ⟨by decide,by decide⟩,_,_,rfl,rfl,l,_,_,_,rfl,rfl,hDb.lst,ez,_,_,rfl,rfl,(by show (0:Int) < _;decide +kernel),rfl,_,rfl,ite2 (fun _=>?_) (fun _=>REST _ _ ⟨t,wd,zz,rl,ks,rfl,ht,hk,hw,L⟩)⟩
    refine ⟨_,rfl,t,_,_,_,rfl,rfl,ht,a0,_,rfl,_,rfl,_,rfl,pl,_,_,_,rfl,rfl,Qc epl,Yw _ _,g,_,rfl,.inl (Qc eg),_,_,rfl,rfl,by show 2<=sizeLine;decide,fun p hp=>?_⟩
    dsimp only
    have s2:=Qf hp (.lst [.int (-1),.int ((us.length:Int) + 1)])
    have e2:upd Hb p (.lst [.int (-1),.int ((us.length:Int) + 1)]) p=some (.lst [.int (-1),.int ((us.length:Int) + 1)]):=Qd
    generalize upd Hb p (.lst [.int (-1),.int ((us.length:Int) + 1)])=Hc at s2 e2 ⊢
    have hDc:=hDb.same s2
    obtain ⟨z9,e9⟩:∃ z9:Int,atI [V.int (-1),V.int ((us.length:Int) + 1)] (z / 8 % 2)=some (.int z9):=by
     rcases (show z / 8 % 2=0\/z / 8 % 2=1 by lia) with e | e
     ·rw [e];exact ⟨_,rfl⟩
     ·rw [e];exact ⟨_,rfl⟩
    refine ⟨_,rfl,_,rfl,_,_,rfl,rfl,.inl ⟨by decide,by decide⟩,_,_,rfl,rfl,l,_,_,_,rfl,rfl,hDc.lst,ez,_,_,rfl,rfl,⟨by decide,by decide⟩,_,_,rfl,rfl,(by show (0:Int) < _;decide +kernel),p,_,_,_,rfl,rfl,Qc e2,e9,_,rfl,t,_,_,_,rfl,rfl,s2.tup ht,a2,by show 3<=sizeLine;decide,fun t2 ht2=>?_⟩
    have s3:=Qf ht2 (.tup [.str wd,.int z9,.ref rl])
    exact REST _ _ ⟨t2,wd,z9,rl,ks,rfl,Yb Qd,hk.same (s2.trans s3),hw,L.same (s2.trans s3)⟩
  ·have Lb:=L.same sb
   have hDb:=hD1.same Lb.sm
   refine ⟨_,rfl,_,rfl,_,_,rfl,rfl,.inl ⟨by decide,by decide⟩,_,_,rfl,rfl,l,_,_,_,rfl,rfl,hDb.lst,ez,_,_,rfl,rfl,(by show (0:Int) < _;decide +kernel),rfl,_,rfl,ite2 (fun _=>?_) (fun _=>REST _ _ ⟨t,wd,zz,rl,ks,rfl,ht,hk,hw.elim (fun e=>.inr (.inl e)) .inl,Lb⟩)⟩
   refine ⟨by show 0<=sizeLine;decide,fun e he=>⟨by show 3<=sizeLine;decide,fun t2 ht2=>?_⟩⟩
   have s2:=Qf he (.lst [])
   have s3:=Qf ht2 (.tup [.str "back",.int 0,.ref e])
   exact REST _ _ ⟨t2,"back",0,e,[],rfl,Yb Qd,⟨s3 _ _ Qd,wX _,fun k hk=>(nomatch hk)⟩,.inr (.inr rfl),Lb.same (s2.trans s3)⟩
 ·rintro σ Hq ⟨u8,u9,u10,u11,S,rfl,L,hSl⟩
  exact q Hq
end
theorem ve_row:typeLookup (.type "ValueError") "row"=pure none:=by rw [PySem.typeLookup_type,PySem.builtinLookup_eq_fast];kernel_rfl
def htop (i:Nat):Stmt:=PySem.Challenge.pw_nonebetter_k80_whole_desk.main.body.getD i (.Pass ⟨0,0,0,0⟩)
abbrev fO (a b:Str) (s:Stmt) (k:Addr) (v:Value) (r:Addr):Obj:=.mk (.type "function") none (.func (.mk a b (L2.Xd s) (.stmts (L2.Qz s)) (L2.Qh s) k [] .none .none .none v none (.ref r) .none 0)) #[]
abbrev cO (a:Str) (i:Tok) (b:Str) (j k:Tok) (l m n o p:Int) (u r:Addr) (v1 v2 v3 v4:Value) (x y:Int) (z:Tok):Obj:=.mk (.type "code") none (.fields #[.str a i,.str b j,.str "/claim/cut.py" k,.int l 0,.int m 0,.int n 0,.int o 0,.int p 0,.ref u,.bool Bool.true,.int 181 0,.ref r,v1,v2,v3,v4,.int x 0,.int y 0,.str "/claim/cut.py" z]) #[]
abbrev tO (v:Array Value):Obj:=.mk (.type "tuple") none (.seq v) #[]
abbrev kO (P:Params) (x:Str) (i:Tok) (v:Value):DictEntry:=.mk (PyData.keyHash P x) (.str x i) v
def hob0 (i:Nat) (P:Params):Obj :=
 bif Nat.beq i 3 then .mk (.type "dict") none (.dict #[kO P "__name__" 165 (.str "law_nonebetter_k80_whole_desk" 2379),kO P "__doc__" 166 .none,kO P "__package__" 167 .none,kO P "__loader__" 168 (.builtin "__main__.__loader__#opaque"),kO P "__spec__" 169 .none,kO P "__annotations__" 170 (.ref 6),kO P "__builtins__" 171 (.ref 4),kO P "__file__" 173 (.str "/claim/cut.py" 172),kO P "__cached__" 174 .none,kO P "_wall" 193 (.ref 21),kO P "PlanError" 213 (.ref 31),kO P "NoNumber" 229 (.ref 44),kO P "NoStep" 245 (.ref 56),kO P "NoBook" 270 (.ref 75),kO P "is_whole" 279 (.ref 84),kO P "is_number_of" 287 (.ref 91),kO P "is_pair" 294 (.ref 98),kO P "NAMES" 330 (.ref 99),kO P "BOUNDS" 376 (.ref 100),kO P "NEEDS" 427 (.ref 126),kO P "is_name" 433 (.ref 156),kO P "is_formed" 439 (.ref 161),kO P "is_within" 451 (.ref 168),kO P "said_by" 458 (.ref 175),kO P "needed_by" 464 (.ref 180),kO P "is_row_of_book" 470 (.ref 185),kO P "looked" 481 (.ref 192),kO P "Facts" 594 (.ref 266),kO P "choices" 603 (.ref 277),kO P "negated" 609 (.ref 282),kO P "work_rows" 615 (.ref 287),kO P "room_rows" 621 (.ref 292),kO P "store_rows" 627 (.ref 297),kO P "after_number" 637 (.ref 304),kO P "after_rows" 643 (.ref 309),kO P "labelled" 652 (.ref 316),kO P "problem_of" 658 (.ref 321),kO P "plan_of" 664 (.ref 326),kO P "single_row" 677 (.ref 333),kO P "better_row" 683 (.ref 338),kO P "sum_row" 689 (.ref 343),kO P "share_row" 695 (.ref 348),kO P "shut_row" 707 (.ref 355),kO P "without" 715 (.ref 362),kO P "either_row" 724 (.ref 369),kO P "like_row" 734 (.ref 376),kO P "Sheet" 782 (.ref 407),kO P "named_by" 788 (.ref 416),kO P "renumbered" 794 (.ref 421),kO P "copied" 800 (.ref 426),kO P "weighed" 808 (.ref 431),kO P "parts_of" 814 (.ref 436),kO P "cost_of" 822 (.ref 443),kO P "most_of" 835 (.ref 450),kO P "turned" 846 (.ref 457),kO P "turn_keeps" 852 (.ref 462),kO P "is_ahead" 862 (.ref 469),kO P "is_part" 870 (.ref 476),kO P "is_hold" 878 (.ref 483),kO P "are_holds" 884 (.ref 488),kO P "is_turn" 890 (.ref 493),kO P "told_given" 900 (.ref 500),kO P "told_low" 911 (.ref 507),kO P "told_high" 922 (.ref 514),kO P "told_better" 932 (.ref 521),kO P "told_sum" 938 (.ref 526),kO P "told_share" 944 (.ref 531),kO P "told_shut" 957 (.ref 538),kO P "told_either" 970 (.ref 545),kO P "told_like" 981 (.ref 552),kO P "LENGTHS" 1009 (.ref 553),kO P "TELLERS" 1028 (.ref 554),kO P "row_told" 1039 (.ref 561),kO P "rows_told" 1051 (.ref 568),kO P "HIGH" 1055 (.int 1000000000000000000000000000000 1054),kO P "LESS" 1057 (.int 100000000000000000000 1056),kO P "Branching" 1130 (.ref 614),kO P "divisor" 1143 (.ref 625),kO P "ratio" 1152 (.ref 632),kO P "PATIENCE" 1156 (.int 100 1155),kO P "renewed" 1162 (.ref 637),kO P "Tableau" 1405 (.ref 800),kO P "settle" 1421 (.ref 811),kO P "lowest" 1429 (.ref 816),kO P "exchanged" 1441 (.ref 823),kO P "counted" 1450 (.ref 830),kO P "may_exchange" 1460 (.ref 837),kO P "exchanges" 1466 (.ref 842),kO P "named" 1472 (.ref 847),kO P "Colours" 1557 (.ref 903),kO P "loose" 1563 (.ref 912),kO P "exchange_turn" 1573 (.ref 919),kO P "some_turns" 1590 (.ref 926),kO P "lowers" 1600 (.ref 933),kO P "put_steps" 1606 (.ref 938),kO P "PRIMES" 1624 (.ref 939),kO P "MANY" 1626 (.int 150 1625),kO P "share" 1635 (.ref 946),kO P "put_share" 1648 (.ref 953),kO P "scaled" 1654 (.ref 958),kO P "lack" 1663 (.ref 965),kO P "dividers" 1669 (.ref 970),kO P "share_of_one" 1683 (.ref 977),kO P "single_shares" 1689 (.ref 982),kO P "cleared" 1695 (.ref 987),kO P "in_ones" 1701 (.ref 992),kO P "combined" 1707 (.ref 997),kO P "prime_shares" 1713 (.ref 1002),kO P "shares" 1731 (.ref 1009),kO P "rests_on" 1743 (.ref 1016),kO P "trimmed" 1749 (.ref 1021),kO P "others" 1757 (.ref 1026),kO P "Trail" 1910 (.ref 1130),kO P "DEEDS" 1917 (.ref 1135),kO P "ROUNDS" 1919 (.int 6 1918),kO P "AT_ONCE" 1921 (.int 12 1920),kO P "MEMORY" 1923 (.int 600 1922),kO P "TAKEN" 1925 (.int 300 1924),kO P "GREATEST" 1927 (.int 999999999999999999 1926),kO P "CORNER_PATIENCE" 1929 (.int 20000000 1928),kO P "LIKES_PATIENCE" 1931 (.int 300000 1930),kO P "common_part" 1940 (.ref 1142),kO P "is_idle" 1946 (.ref 1147),kO P "rows_of_use" 1952 (.ref 1152),kO P "Knot" 2163 (.ref 1292),kO P "search_from" 2173 (.ref 1303),kO P "widened" 2183 (.ref 1310),kO P "Carrier" 2246 (.ref 1341),kO P "carried" 2259 (.ref 1352),kO P "search_on" 2268 (.ref 1359),kO P "brought_over" 2279 (.ref 1366),kO P "answer_to" 2290 (.ref 1374),kO P "rows_copied" 2298 (.ref 1379),kO P "Desk" 2378 (.ref 1438),kO P "_law_whole" 2387 (.ref 1449),kO P "_law_mix" 2397 (.ref 1456),kO P "_law_draws" 2408 (.ref 1463),kO P "_law_name" 2419 (.ref 1470),kO P "_law_book" 2425 (.ref 1475),kO P "_law_way" 2443 (.ref 1482),kO P "_law_deed" 2449 (.ref 1487),kO P "_law_other" 2455 (.ref 1492),kO P "_law_laid" 2461 (.ref 1497),kO P "_law_looked" 2470 (.ref 1504),kO P "_law_done" 2480 (.ref 1511),kO P "_law_named" 2489 (.ref 1518),kO P "_law_step" 2495 (.ref 1523),kO P "_law_no_desk" 2507 (.ref 1530),kO P "law" 2513 (.ref 1535)] 149) #[] else
 bif Nat.beq i 30 then .mk (.type "dict") none (.dict #[kO P "__module__" 203 (.str "nonebetter.errors" 194),kO P "__firstlineno__" 207 (.int 5 206),kO P "__static_attributes__" 208 (.ref 29),kO P "__weakref__" 210 (.ref 32),kO P "__doc__" 211 .none] 3) #[] else
 bif Nat.beq i 31 then .mk (.type "type") none (.cls (ClassData.mk "PlanError" [.type "ValueError"] [.ref 31,.type "ValueError",.type "Exception",.type "BaseException",.type "object"] 30 "PlanError" Bool.true [] [.ref 44,.ref 56,.ref 75] Bool.false none Bool.false)) #[Option.some (.ref 22),none,Option.some (.str "PlanError" 196),Option.some (.str "PlanError" 204),Option.some (.builtin "ValueError.__new__"),Option.some (.bool Bool.true)] else
 bif Nat.beq i 43 then .mk (.type "dict") none (.dict #[kO P "__module__" 221 (.str "nonebetter.errors" 194),kO P "__firstlineno__" 225 (.int 7 224),kO P "__static_attributes__" 226 (.ref 42),kO P "__doc__" 227 .none] 2) #[] else
 .mk (.type "type") none (.cls (ClassData.mk "NoNumber" [.ref 31] [.ref 44,.ref 31,.type "ValueError",.type "Exception",.type "BaseException",.type "object"] 43 "NoNumber" Bool.true [] [] Bool.false none Bool.false)) #[Option.some (.ref 35),none,Option.some (.str "NoNumber" 214),Option.some (.str "NoNumber" 222),Option.some (.builtin "ValueError.__new__"),Option.some (.bool Bool.true)]
def hob1 (i:Nat) (P:Params):Obj :=
 bif Nat.beq i 55 then .mk (.type "dict") none (.dict #[kO P "__module__" 237 (.str "nonebetter.errors" 194),kO P "__firstlineno__" 241 (.int 9 240),kO P "__static_attributes__" 242 (.ref 54),kO P "__doc__" 243 .none] 2) #[] else
 bif Nat.beq i 56 then .mk (.type "type") none (.cls (ClassData.mk "NoStep" [.ref 31] [.ref 56,.ref 31,.type "ValueError",.type "Exception",.type "BaseException",.type "object"] 55 "NoStep" Bool.true [] [] Bool.false none Bool.false)) #[Option.some (.ref 47),none,Option.some (.str "NoStep" 230),Option.some (.str "NoStep" 238),Option.some (.builtin "ValueError.__new__"),Option.some (.bool Bool.true)] else
 bif Nat.beq i 71 then cO "__init__" 258 "NoBook.__init__" 259 260 13 2 0 0 3 66 67 .none (.ref 68) (.ref 69) (.ref 70) 263 13 264 else
 bif Nat.beq i 72 then .mk (.type "function") none (.func (.mk "__init__" "NoBook.__init__" (Arguments.mk [] [Arg.mk "self" none (Pos.mk 13 17 13 21),Arg.mk "row" none (Pos.mk 13 23 13 26)] none [] [] none []) (.stmts [Stmt.Assign [Expr.Attribute (Expr.Name "self" (Pos.mk 14 8 14 12)) "row" (Pos.mk 14 8 14 16)] (Expr.Name "row" (Pos.mk 14 19 14 22)) (Pos.mk 14 8 14 22)]) (Scope.mk ScopeKind.function [(Str.ofString "self",NameKind.local),(Str.ofString "row",NameKind.local)] Bool.false Bool.false []) 3 [] .none .none .none (.str "nonebetter.errors" 194) none (.ref 71) .none 0)) #[] else
 .mk (.type "dict") none (.dict #[kO P "__module__" 253 (.str "nonebetter.errors" 194),kO P "__firstlineno__" 257 (.int 11 256),kO P "__init__" 265 (.ref 72),kO P "__static_attributes__" 267 (.ref 73),kO P "__doc__" 268 .none] 2) #[]
def hob2 (i:Nat) (P:Params):Obj :=
 bif Nat.beq i 75 then .mk (.type "type") none (.cls (ClassData.mk "NoBook" [.ref 31] [.ref 75,.ref 31,.type "ValueError",.type "Exception",.type "BaseException",.type "object"] 74 "NoBook" Bool.true [] [] Bool.false none Bool.false)) #[Option.some (.ref 59),none,Option.some (.str "NoBook" 246),Option.some (.str "NoBook" 254),Option.some (.builtin "ValueError.__new__"),Option.some (.bool Bool.true)] else
 bif Nat.beq i 83 then cO "is_whole" 273 "is_whole" 274 275 16 1 0 0 3 78 79 .none (.ref 80) (.ref 81) (.ref 82) 277 16 278 else
 bif Nat.beq i 84 then fO "is_whole" "is_whole" (htop 7) 3 (.str "nonebetter.kinds" 271) 83 else
 bif Nat.beq i 90 then cO "is_number_of" 280 "is_number_of" 281 282 18 2 0 0 3 85 86 .none (.ref 87) (.ref 88) (.ref 89) 285 18 286 else
 fO "is_number_of" "is_number_of" (htop 8) 3 (.str "nonebetter.kinds" 271) 90
def hob3 (i:Nat) (P:Params):Obj :=
 bif Nat.beq i 99 then .mk (.type "dict") none (.dict #[kO P "days" 297 (.int 0 298),kO P "bench" 299 (.int 1 300),kO P "shut" 301 (.int 1 302),kO P "store" 303 (.int 1 304),kO P "work" 305 (.int 1 306),kO P "way" 307 (.int 2 308),kO P "uses" 309 (.int 3 310),kO P "takes" 311 (.int 3 312),kO P "gives" 313 (.int 3 314),kO P "after" 315 (.int 2 316),kO P "late" 317 (.int 1 318)] 11) #[] else
 bif Nat.beq i 100 then .mk (.type "dict") none (.dict #[kO P "days" 331 (.ref 102),kO P "bench" 334 (.ref 104),kO P "shut" 337 (.ref 107),kO P "store" 340 (.ref 110),kO P "work" 345 (.ref 111),kO P "way" 346 (.ref 114),kO P "uses" 350 (.ref 116),kO P "takes" 353 (.ref 118),kO P "gives" 356 (.ref 120),kO P "after" 359 (.ref 122),kO P "late" 361 (.ref 125)] 11) #[] else
 bif Nat.beq i 101 then tO #[.int 1 332,.int 12 333] else
 bif Nat.beq i 102 then tO #[.ref 101] else
 tO #[.int 0 335,.int 99 336]
def hob4 (i:Nat) (P:Params):Obj :=
 bif Nat.beq i 104 then tO #[.ref 103] else
 bif Nat.beq i 105 then tO #[.int 0 338,.none] else
 bif Nat.beq i 106 then tO #[.int 0 339,.none] else
 bif Nat.beq i 107 then tO #[.ref 105,.ref 106] else
 tO #[.int 0 341,.int 999 342]
def hob5 (i:Nat) (P:Params):Obj :=
 bif Nat.beq i 109 then tO #[.int 0 343,.int 999 344] else
 bif Nat.beq i 110 then tO #[.ref 108,.ref 109] else
 bif Nat.beq i 111 then tO #[] else
 bif Nat.beq i 112 then tO #[.int 1 347,.none] else
 tO #[.int 0 348,.int 999999 349]
def hob6 (i:Nat) (P:Params):Obj :=
 bif Nat.beq i 114 then tO #[.ref 112,.ref 113] else
 bif Nat.beq i 115 then tO #[.int 1 351,.int 99 352] else
 bif Nat.beq i 116 then tO #[.ref 115] else
 bif Nat.beq i 117 then tO #[.int 1 354,.int 99 355] else
 tO #[.ref 117]
def hob7 (i:Nat) (P:Params):Obj :=
 bif Nat.beq i 119 then tO #[.int 1 357,.int 99 358] else
 bif Nat.beq i 120 then tO #[.ref 119] else
 bif Nat.beq i 121 then tO #[.int 0 360,.none] else
 bif Nat.beq i 122 then tO #[.ref 121] else
 tO #[.int 0 362,.none]
def hob8 (i:Nat) (P:Params):Obj :=
 bif Nat.beq i 124 then tO #[.int 1 363,.int 999999 364] else
 bif Nat.beq i 125 then tO #[.ref 123,.ref 124] else
 bif Nat.beq i 126 then .mk (.type "dict") none (.dict #[kO P "days" 377 (.ref 127),kO P "bench" 378 (.ref 129),kO P "shut" 380 (.ref 131),kO P "store" 383 (.ref 133),kO P "work" 385 (.ref 135),kO P "way" 387 (.ref 137),kO P "uses" 390 (.ref 140),kO P "takes" 396 (.ref 143),kO P "gives" 402 (.ref 146),kO P "after" 408 (.ref 149),kO P "late" 413 (.ref 151)] 11) #[] else
 bif Nat.beq i 127 then tO #[] else
 tO #[.str "days" 379]
def hob9 (i:Nat) (P:Params):Obj :=
 bif Nat.beq i 129 then tO #[.ref 128] else
 bif Nat.beq i 130 then tO #[.str "bench" 381,.int 1 382] else
 bif Nat.beq i 131 then tO #[.ref 130] else
 bif Nat.beq i 132 then tO #[.str "days" 384] else
 tO #[.ref 132]
def hob10 (i:Nat) (P:Params):Obj :=
 bif Nat.beq i 134 then tO #[.str "days" 386] else
 bif Nat.beq i 135 then tO #[.ref 134] else
 bif Nat.beq i 136 then tO #[.str "work" 388,.int 1 389] else
 bif Nat.beq i 137 then tO #[.ref 136] else
 tO #[.str "way" 391,.int 1 392,.int 2 393]
def hob11 (i:Nat) (P:Params):Obj :=
 bif Nat.beq i 139 then tO #[.str "bench" 394,.int 3 395] else
 bif Nat.beq i 140 then tO #[.ref 138,.ref 139] else
 bif Nat.beq i 141 then tO #[.str "way" 397,.int 1 398,.int 2 399] else
 bif Nat.beq i 142 then tO #[.str "store" 400,.int 3 401] else
 tO #[.ref 141,.ref 142]
def hob12 (i:Nat) (P:Params):Obj :=
 bif Nat.beq i 144 then tO #[.str "way" 403,.int 1 404,.int 2 405] else
 bif Nat.beq i 145 then tO #[.str "store" 406,.int 3 407] else
 bif Nat.beq i 146 then tO #[.ref 144,.ref 145] else
 bif Nat.beq i 147 then tO #[.str "work" 409,.int 1 410] else
 tO #[.str "work" 411,.int 2 412]
def hob13 (i:Nat) (P:Params):Obj :=
 bif Nat.beq i 149 then tO #[.ref 147,.ref 148] else
 bif Nat.beq i 150 then tO #[.str "work" 414,.int 1 415] else
 bif Nat.beq i 151 then tO #[.ref 150] else
 bif Nat.beq i 155 then cO "is_name" 428 "is_name" 429 430 26 1 0 0 3 152 153 .none .none .none (.ref 154) 431 26 432 else
 fO "is_name" "is_name" (htop 14) 3 (.str "nonebetter.books" 295) 155
def hob14 (i:Nat) (P:Params):Obj :=
 bif Nat.beq i 160 then cO "is_formed" 434 "is_formed" 435 436 28 1 0 0 3 157 158 .none .none .none (.ref 159) 437 28 438 else
 bif Nat.beq i 161 then fO "is_formed" "is_formed" (htop 15) 3 (.str "nonebetter.books" 295) 160 else
 bif Nat.beq i 167 then cO "is_within" 440 "is_within" 441 442 35 2 0 0 3 162 163 .none (.ref 164) (.ref 165) (.ref 166) 449 35 450 else
 bif Nat.beq i 168 then fO "is_within" "is_within" (htop 16) 3 (.str "nonebetter.books" 295) 167 else
 cO "said_by" 452 "said_by" 453 454 46 1 0 0 3 169 170 .none (.ref 171) (.ref 172) (.ref 173) 456 46 457
def hob15 (i:Nat) (P:Params):Obj :=
 bif Nat.beq i 175 then fO "said_by" "said_by" (htop 17) 3 (.str "nonebetter.books" 295) 174 else
 bif Nat.beq i 179 then cO "needed_by" 459 "needed_by" 460 461 48 1 0 0 3 176 177 .none .none .none (.ref 178) 462 48 463 else
 bif Nat.beq i 180 then fO "needed_by" "needed_by" (htop 18) 3 (.str "nonebetter.books" 295) 179 else
 bif Nat.beq i 184 then cO "is_row_of_book" 465 "is_row_of_book" 466 467 50 3 0 0 3 181 182 .none .none .none (.ref 183) 468 50 469 else
 fO "is_row_of_book" "is_row_of_book" (htop 19) 3 (.str "nonebetter.books" 295) 184
def hob16 (i:Nat) (P:Params):Obj :=
 bif Nat.beq i 191 then cO "looked" 471 "looked" 472 473 56 1 0 0 3 186 187 .none (.ref 188) (.ref 189) (.ref 190) 479 56 480 else
 bif Nat.beq i 192 then fO "looked" "looked" (htop 20) 3 (.str "nonebetter.books" 295) 191 else
 bif Nat.beq i 1378 then cO "rows_copied" 2293 "rows_copied" 2294 2295 1317 1 0 0 3 1375 1376 .none .none .none (.ref 1377) 2296 1317 2297 else
 bif Nat.beq i 1379 then fO "rows_copied" "rows_copied" (htop 144) 3 (.str "nonebetter.desk" 2291) 1378 else
 cO "__init__" 2311 "Desk.__init__" 2312 2313 1321 2 0 0 3 1387 1388 .none (.ref 1389) (.ref 1390) (.ref 1391) 2316 1321 2317
def hob17 (i:Nat) (P:Params):Obj :=
 bif Nat.beq i 1393 then fO "__init__" "Desk.__init__" (inClass (htop 145) 0) 3 (.str "nonebetter.desk" 2291) 1392 else
 bif Nat.beq i 1399 then cO "lay" 2319 "Desk.lay" 2320 2321 1326 2 0 0 3 1394 1395 .none (.ref 1396) (.ref 1397) (.ref 1398) 2324 1326 2325 else
 bif Nat.beq i 1400 then fO "lay" "Desk.lay" (inClass (htop 145) 1) 3 (.str "nonebetter.desk" 2291) 1399 else
 bif Nat.beq i 1406 then cO "book" 2327 "Desk.book" 2328 2329 1330 1 0 0 3 1401 1402 .none (.ref 1403) (.ref 1404) (.ref 1405) 2331 1330 2332 else
 fO "book" "Desk.book" (inClass (htop 145) 2) 3 (.str "nonebetter.desk" 2291) 1406
def hob18 (i:Nat) (P:Params):Obj :=
 bif Nat.beq i 1413 then cO "put_row" 2334 "Desk.put_row" 2335 2336 1333 3 0 0 3 1408 1409 .none (.ref 1410) (.ref 1411) (.ref 1412) 2341 1333 2342 else
 bif Nat.beq i 1414 then fO "put_row" "Desk.put_row" (inClass (htop 145) 3) 3 (.str "nonebetter.desk" 2291) 1413 else
 bif Nat.beq i 1420 then cO "take_row" 2344 "Desk.take_row" 2345 2346 1339 2 0 0 3 1415 1416 .none (.ref 1417) (.ref 1418) (.ref 1419) 2350 1339 2351 else
 bif Nat.beq i 1421 then fO "take_row" "Desk.take_row" (inClass (htop 145) 4) 3 (.str "nonebetter.desk" 2291) 1420 else
 cO "back" 2353 "Desk.back" 2354 2355 1345 1 0 0 3 1422 1423 .none (.ref 1424) (.ref 1425) (.ref 1426) 2357 1345 2358
def hob19 (i:Nat) (P:Params):Obj :=
 bif Nat.beq i 1428 then fO "back" "Desk.back" (inClass (htop 145) 5) 3 (.str "nonebetter.desk" 2291) 1427 else
 bif Nat.beq i 1437 then .mk (.type "dict") none (.dict #[kO P "__module__" 2306 (.str "nonebetter.desk" 2291),kO P "__firstlineno__" 2310 (.int 1319 2309),kO P "__init__" 2318 (.ref 1393),kO P "lay" 2326 (.ref 1400),kO P "book" 2333 (.ref 1407),kO P "put_row" 2343 (.ref 1414),kO P "take_row" 2352 (.ref 1421),kO P "back" 2359 (.ref 1428),kO P "answer" 2368 (.ref 1435),kO P "__static_attributes__" 2371 (.ref 1436),kO P "__dict__" 2373 (.ref 1439),kO P "__weakref__" 2375 (.ref 1440),kO P "__doc__" 2376 .none] 4) #[] else
 bif Nat.beq i 1438 then .mk (.type "type") none (.cls (ClassData.mk "Desk" [.type "object"] [.ref 1438,.type "object"] 1437 "Desk" Bool.true [] [] Bool.false none Bool.false)) #[none,none,Option.some (.str "Desk" 2299),Option.some (.str "Desk" 2307),Option.some (.builtin "object.__new__"),Option.some (.bool Bool.true)] else
 bif Nat.beq i 1448 then cO "_law_whole" 2381 "_law_whole" 2382 2383 1356 1 0 0 3 1443 1444 .none (.ref 1445) (.ref 1446) (.ref 1447) 2385 1356 2386 else
 fO "_law_whole" "_law_whole" (htop 147) 3 (.str "law_nonebetter_k80_whole_desk" 2379) 1448
def hob20 (i:Nat) (P:Params):Obj :=
 bif Nat.beq i 1455 then cO "_law_mix" 2388 "_law_mix" 2389 2390 1358 2 0 0 3 1450 1451 .none (.ref 1452) (.ref 1453) (.ref 1454) 2395 1358 2396 else
 bif Nat.beq i 1456 then fO "_law_mix" "_law_mix" (htop 148) 3 (.str "law_nonebetter_k80_whole_desk" 2379) 1455 else
 bif Nat.beq i 1462 then cO "_law_draws" 2398 "_law_draws" 2399 2400 1365 2 0 0 3 1457 1458 .none (.ref 1459) (.ref 1460) (.ref 1461) 2406 1365 2407 else
 bif Nat.beq i 1463 then fO "_law_draws" "_law_draws" (htop 149) 3 (.str "law_nonebetter_k80_whole_desk" 2379) 1462 else
 cO "_law_name" 2409 "_law_name" 2410 2411 1380 2 0 0 3 1464 1465 .none (.ref 1466) (.ref 1467) (.ref 1468) 2417 1380 2418
def hob21 (i:Nat) (P:Params):Obj :=
 bif Nat.beq i 1470 then fO "_law_name" "_law_name" (htop 150) 3 (.str "law_nonebetter_k80_whole_desk" 2379) 1469 else
 bif Nat.beq i 1474 then cO "_law_book" 2420 "_law_book" 2421 2422 1388 4 0 0 3 1471 1472 .none .none .none (.ref 1473) 2423 1388 2424 else
 bif Nat.beq i 1475 then fO "_law_book" "_law_book" (htop 151) 3 (.str "law_nonebetter_k80_whole_desk" 2379) 1474 else
 bif Nat.beq i 1481 then cO "_law_way" 2426 "_law_way" 2427 2428 1417 7 0 0 3 1476 1477 .none (.ref 1478) (.ref 1479) (.ref 1480) 2441 1417 2442 else
 fO "_law_way" "_law_way" (htop 152) 3 (.str "law_nonebetter_k80_whole_desk" 2379) 1481
def hob22 (i:Nat) (P:Params):Obj :=
 bif Nat.beq i 1486 then cO "_law_deed" 2444 "_law_deed" 2445 2446 1430 3 0 0 3 1483 1484 .none .none .none (.ref 1485) 2447 1430 2448 else
 bif Nat.beq i 1487 then fO "_law_deed" "_law_deed" (htop 153) 3 (.str "law_nonebetter_k80_whole_desk" 2379) 1486 else
 bif Nat.beq i 1491 then cO "_law_other" 2450 "_law_other" 2451 2452 1445 3 0 0 3 1488 1489 .none .none .none (.ref 1490) 2453 1445 2454 else
 bif Nat.beq i 1492 then fO "_law_other" "_law_other" (htop 154) 3 (.str "law_nonebetter_k80_whole_desk" 2379) 1491 else
 cO "_law_laid" 2456 "_law_laid" 2457 2458 1452 2 0 0 3 1493 1494 .none .none .none (.ref 1495) 2459 1452 2460
def hob23 (i:Nat) (P:Params):Obj :=
 bif Nat.beq i 1497 then fO "_law_laid" "_law_laid" (htop 155) 3 (.str "law_nonebetter_k80_whole_desk" 2379) 1496 else
 bif Nat.beq i 1503 then cO "_law_looked" 2462 "_law_looked" 2463 2464 1457 1 0 0 3 1498 1499 .none (.ref 1500) (.ref 1501) (.ref 1502) 2468 1457 2469 else
 bif Nat.beq i 1504 then fO "_law_looked" "_law_looked" (htop 156) 3 (.str "law_nonebetter_k80_whole_desk" 2379) 1503 else
 bif Nat.beq i 1510 then cO "_law_done" 2471 "_law_done" 2472 2473 1464 2 0 0 3 1505 1506 .none (.ref 1507) (.ref 1508) (.ref 1509) 2478 1464 2479 else
 fO "_law_done" "_law_done" (htop 157) 3 (.str "law_nonebetter_k80_whole_desk" 2379) 1510
def hob24 (i:Nat) (P:Params):Obj :=
 bif Nat.beq i 1517 then cO "_law_named" 2481 "_law_named" 2482 2483 1476 3 0 0 3 1512 1513 .none (.ref 1514) (.ref 1515) (.ref 1516) 2487 1476 2488 else
 bif Nat.beq i 1518 then fO "_law_named" "_law_named" (htop 158) 3 (.str "law_nonebetter_k80_whole_desk" 2379) 1517 else
 bif Nat.beq i 1522 then cO "_law_step" 2490 "_law_step" 2491 2492 1482 3 0 0 3 1519 1520 .none .none .none (.ref 1521) 2493 1482 2494 else
 bif Nat.beq i 1523 then fO "_law_step" "_law_step" (htop 159) 3 (.str "law_nonebetter_k80_whole_desk" 2379) 1522 else
 cO "_law_no_desk" 2496 "_law_no_desk" 2497 2498 1498 1 0 0 3 1524 1525 .none (.ref 1526) (.ref 1527) (.ref 1528) 2505 1498 2506
def hob25 (i:Nat) (P:Params):Obj :=
 bif Nat.beq i 1530 then fO "_law_no_desk" "_law_no_desk" (htop 160) 3 (.str "law_nonebetter_k80_whole_desk" 2379) 1529 else
 bif Nat.beq i 1534 then cO "law" 2508 "law" 2509 2510 1511 1 0 0 3 1531 1532 .none .none .none (.ref 1533) 2511 1511 2512 else
 fO "law" "law" (htop 161) 3 (.str "law_nonebetter_k80_whole_desk" 2379) 1534
def hob (i:Nat) (P:Params):Obj:=(bif Nat.ble i 148 then (bif Nat.ble i 113 then (bif Nat.ble i 91 then (bif Nat.ble i 44 then hob0 i P else (bif Nat.ble i 74 then hob1 i P else hob2 i P)) else (bif Nat.ble i 103 then hob3 i P else (bif Nat.ble i 108 then hob4 i P else hob5 i P))) else (bif Nat.ble i 128 then (bif Nat.ble i 118 then hob6 i P else (bif Nat.ble i 123 then hob7 i P else hob8 i P)) else (bif Nat.ble i 138 then (bif Nat.ble i 133 then hob9 i P else hob10 i P) else (bif Nat.ble i 143 then hob11 i P else hob12 i P)))) else (bif Nat.ble i 1427 then (bif Nat.ble i 185 then (bif Nat.ble i 156 then hob13 i P else (bif Nat.ble i 174 then hob14 i P else hob15 i P)) else (bif Nat.ble i 1392 then hob16 i P else (bif Nat.ble i 1407 then hob17 i P else hob18 i P))) else (bif Nat.ble i 1482 then (bif Nat.ble i 1449 then hob19 i P else (bif Nat.ble i 1469 then hob20 i P else hob21 i P)) else (bif Nat.ble i 1511 then (bif Nat.ble i 1496 then hob22 i P else hob23 i P) else (bif Nat.ble i 1529 then hob24 i P else hob25 i P)))))
def heapK:Params->W.Frag:=fun P=>(nat_lit 3,hob (nat_lit 3) P) :: (nat_lit 30,hob (nat_lit 30) P) :: (nat_lit 31,hob (nat_lit 31) P) :: (nat_lit 43,hob (nat_lit 43) P) :: (nat_lit 44,hob (nat_lit 44) P) :: (nat_lit 55,hob (nat_lit 55) P) :: (nat_lit 56,hob (nat_lit 56) P) :: (nat_lit 71,hob (nat_lit 71) P) :: (nat_lit 72,hob (nat_lit 72) P) :: (nat_lit 74,hob (nat_lit 74) P) :: (nat_lit 75,hob (nat_lit 75) P) :: (nat_lit 83,hob (nat_lit 83) P) :: (nat_lit 84,hob (nat_lit 84) P) :: (nat_lit 90,hob (nat_lit 90) P) :: (nat_lit 91,hob (nat_lit 91) P) :: (nat_lit 99,hob (nat_lit 99) P) :: (nat_lit 100,hob (nat_lit 100) P) :: (nat_lit 101,hob (nat_lit 101) P) :: (nat_lit 102,hob (nat_lit 102) P) :: (nat_lit 103,hob (nat_lit 103) P) :: (nat_lit 104,hob (nat_lit 104) P) :: (nat_lit 105,hob (nat_lit 105) P) :: (nat_lit 106,hob (nat_lit 106) P) :: (nat_lit 107,hob (nat_lit 107) P) :: (nat_lit 108,hob (nat_lit 108) P) :: (nat_lit 109,hob (nat_lit 109) P) :: (nat_lit 110,hob (nat_lit 110) P) :: (nat_lit 111,hob (nat_lit 111) P) :: (nat_lit 112,hob (nat_lit 112) P) :: (nat_lit 113,hob (nat_lit 113) P) :: (nat_lit 114,hob (nat_lit 114) P) :: (nat_lit 115,hob (nat_lit 115) P) :: (nat_lit 116,hob (nat_lit 116) P) :: (nat_lit 117,hob (nat_lit 117) P) :: (nat_lit 118,hob (nat_lit 118) P) :: (nat_lit 119,hob (nat_lit 119) P) :: (nat_lit 120,hob (nat_lit 120) P) :: (nat_lit 121,hob (nat_lit 121) P) :: (nat_lit 122,hob (nat_lit 122) P) :: (nat_lit 123,hob (nat_lit 123) P) :: (nat_lit 124,hob (nat_lit 124) P) :: (nat_lit 125,hob (nat_lit 125) P) :: (nat_lit 126,hob (nat_lit 126) P) :: (nat_lit 127,hob (nat_lit 127) P) :: (nat_lit 128,hob (nat_lit 128) P) :: (nat_lit 129,hob (nat_lit 129) P) :: (nat_lit 130,hob (nat_lit 130) P) :: (nat_lit 131,hob (nat_lit 131) P) :: (nat_lit 132,hob (nat_lit 132) P) :: (nat_lit 133,hob (nat_lit 133) P) :: (nat_lit 134,hob (nat_lit 134) P) :: (nat_lit 135,hob (nat_lit 135) P) :: (nat_lit 136,hob (nat_lit 136) P) :: (nat_lit 137,hob (nat_lit 137) P) :: (nat_lit 138,hob (nat_lit 138) P) :: (nat_lit 139,hob (nat_lit 139) P) :: (nat_lit 140,hob (nat_lit 140) P) :: (nat_lit 141,hob (nat_lit 141) P) :: (nat_lit 142,hob (nat_lit 142) P) :: (nat_lit 143,hob (nat_lit 143) P) :: (nat_lit 144,hob (nat_lit 144) P) :: (nat_lit 145,hob (nat_lit 145) P) :: (nat_lit 146,hob (nat_lit 146) P) :: (nat_lit 147,hob (nat_lit 147) P) :: (nat_lit 148,hob (nat_lit 148) P) :: (nat_lit 149,hob (nat_lit 149) P) :: (nat_lit 150,hob (nat_lit 150) P) :: (nat_lit 151,hob (nat_lit 151) P) :: (nat_lit 155,hob (nat_lit 155) P) :: (nat_lit 156,hob (nat_lit 156) P) :: (nat_lit 160,hob (nat_lit 160) P) :: (nat_lit 161,hob (nat_lit 161) P) :: (nat_lit 167,hob (nat_lit 167) P) :: (nat_lit 168,hob (nat_lit 168) P) :: (nat_lit 174,hob (nat_lit 174) P) :: (nat_lit 175,hob (nat_lit 175) P) :: (nat_lit 179,hob (nat_lit 179) P) :: (nat_lit 180,hob (nat_lit 180) P) :: (nat_lit 184,hob (nat_lit 184) P) :: (nat_lit 185,hob (nat_lit 185) P) :: (nat_lit 191,hob (nat_lit 191) P) :: (nat_lit 192,hob (nat_lit 192) P) :: (nat_lit 1378,hob (nat_lit 1378) P) :: (nat_lit 1379,hob (nat_lit 1379) P) :: (nat_lit 1392,hob (nat_lit 1392) P) :: (nat_lit 1393,hob (nat_lit 1393) P) :: (nat_lit 1399,hob (nat_lit 1399) P) :: (nat_lit 1400,hob (nat_lit 1400) P) :: (nat_lit 1406,hob (nat_lit 1406) P) :: (nat_lit 1407,hob (nat_lit 1407) P) :: (nat_lit 1413,hob (nat_lit 1413) P) :: (nat_lit 1414,hob (nat_lit 1414) P) :: (nat_lit 1420,hob (nat_lit 1420) P) :: (nat_lit 1421,hob (nat_lit 1421) P) :: (nat_lit 1427,hob (nat_lit 1427) P) :: (nat_lit 1428,hob (nat_lit 1428) P) :: (nat_lit 1437,hob (nat_lit 1437) P) :: (nat_lit 1438,hob (nat_lit 1438) P) :: (nat_lit 1448,hob (nat_lit 1448) P) :: (nat_lit 1449,hob (nat_lit 1449) P) :: (nat_lit 1455,hob (nat_lit 1455) P) :: (nat_lit 1456,hob (nat_lit 1456) P) :: (nat_lit 1462,hob (nat_lit 1462) P) :: (nat_lit 1463,hob (nat_lit 1463) P) :: (nat_lit 1469,hob (nat_lit 1469) P) :: (nat_lit 1470,hob (nat_lit 1470) P) :: (nat_lit 1474,hob (nat_lit 1474) P) :: (nat_lit 1475,hob (nat_lit 1475) P) :: (nat_lit 1481,hob (nat_lit 1481) P) :: (nat_lit 1482,hob (nat_lit 1482) P) :: (nat_lit 1486,hob (nat_lit 1486) P) :: (nat_lit 1487,hob (nat_lit 1487) P) :: (nat_lit 1491,hob (nat_lit 1491) P) :: (nat_lit 1492,hob (nat_lit 1492) P) :: (nat_lit 1496,hob (nat_lit 1496) P) :: (nat_lit 1497,hob (nat_lit 1497) P) :: (nat_lit 1503,hob (nat_lit 1503) P) :: (nat_lit 1504,hob (nat_lit 1504) P) :: (nat_lit 1510,hob (nat_lit 1510) P) :: (nat_lit 1511,hob (nat_lit 1511) P) :: (nat_lit 1517,hob (nat_lit 1517) P) :: (nat_lit 1518,hob (nat_lit 1518) P) :: (nat_lit 1522,hob (nat_lit 1522) P) :: (nat_lit 1523,hob (nat_lit 1523) P) :: (nat_lit 1529,hob (nat_lit 1529) P) :: (nat_lit 1530,hob (nat_lit 1530) P) :: (nat_lit 1534,hob (nat_lit 1534) P) :: (nat_lit 1535,hob (nat_lit 1535) P) :: []
theorem all_ok {P:Program} {w:World} {K:Fg} {mg:Str->Option Value} {base:Heap} (M:Mg mg) {C D fN CN CS aN aB aD CD fI fL fB fP fT fK:Addr} {fdN fdI fdL fdB fdP fdT fdK:FuncData} {fo:Obj} {gN gB gD:Str->Option Value} (EI:ErrI K mg "NoBook" C D fN "row") (FN:Fun K "__init__" "NoBook.__init__" sNBI fN fdN) (bN:Binds K fdN ["self","row"] []) (lkN:K.lookup fN=some fo) (fcN:fo.cls=.type "function") (kcN:PySem.W.keepIn K (.ref C)=true) (EK:ExK K mg C D CN CS) (isC:IsA K C C) (EN:ErrC K mg "NoStep" CS) (TN:TvTab w K mg "NAMES" 1 namesT aN gN) (TB:TvTab w K mg "BOUNDS" 3 boundsT aB gB) (TD:TvTab w K mg "NEEDS" 3 needsT aD gD) (T:DkTxt K mg CD) (MI:Mk K CD fI) (FI:Fun K "__init__" "Desk.__init__" sDkI fI fdI) (bI:Binds K fdI ["self","book"] []) (FL:Fun K "lay" "Desk.lay" sDkL fL fdL) (bL:Binds K fdL ["self","rows"] []) (mL:Meth K CD "lay" fL) (FB:Fun K "book" "Desk.book" sDkB fB fdB) (bB:Binds K fdB ["self"] []) (mB:Meth K CD "book" fB) (FP:Fun K "put_row" "Desk.put_row" sDkP fP fdP) (bP:Binds K fdP ["self","place","row"] []) (mP:Meth K CD "put_row" fP) (FT:Fun K "take_row" "Desk.take_row" sDkT fT fdT) (bT:Binds K fdT ["self","place"] []) (mT:Meth K CD "take_row" fT) (FK:Fun K "back" "Desk.back" sDkK fK fdK) (bK:Binds K fdK ["self"] []) (mK:Meth K CD "back" fK) (F1:Fn K mg "_law_mix" Qer) (F2:Fn K mg "_law_draws" Vg) (F3:Fn K mg "_law_name" Qbe) (F4:Fn K mg "_law_way" Qfh) (F5:Fn K mg "_law_book" Qbw) (F6:Fn K mg "is_whole" sIWv) (F7:Fn K mg "is_number_of" sIsN) (F8:Fn K mg "is_name" sIN) (F9:Fn K mg "said_by" Qlh) (F10:Fn K mg "is_formed" sIFv) (F11:Fn K mg "is_within" sIWi) (F12:Fn K mg "needed_by" sNee) (F13:Fn K mg "is_row_of_book" sIRw) (F14:Fn K mg "looked" sLov) (F15:Fn K mg "rows_copied" sCop) (F16:Fn K mg "_law_whole" sWhV) (F17:Fn K mg "_law_other" sLOt) (F18:Fn K mg "_law_deed" sLDe) (F19:Fn K mg "_law_laid" sLLa) (F20:Fn K mg "_law_looked" sLLk) (F21:Fn K mg "_law_named" sLNm) (F22:Fn K mg "_law_done" sLDo) (F23:Fn K mg "_law_step" sLSt) (F24:Fn K mg "_law_no_desk" sLNd) {f:Addr} {fd:FuncData} (F25:Fun K "law" "law" sLaw f fd):FnOk P w K mg base CX0 9 f fd ["_law_script"] (Qkn K):=by
 have h_cl_mix:=Qnz (P:=P) (w:=w) (base:=base) F1 M
 have h_cl_draws:=Qif (P:=P) (w:=w) (base:=base) F2 M h_cl_mix
 have h_cl_name:=Qla (P:=P) (w:=w) (base:=base) F3 M
 have h_cl_way:=Qpe (P:=P) (w:=w) (base:=base) F4 M h_cl_name
 have h_cl_book:=Qlt (P:=P) (w:=w) (base:=base) F5 M h_cl_name h_cl_way
 have h_c_is_whole:=okIWv (P:=P) (w:=w) (base:=base) F6 M
 have h_c_is_number_of:=okIsN (P:=P) (w:=w) (base:=base) F7 M h_c_is_whole
 have h_c_is_name:=okINv (P:=P) (w:=w) (base:=base) F8 M
 have h_c_said_by:=okSaid (P:=P) (w:=w) (base:=base) TN F9 M
 have h_c_is_formed:=okIFv (P:=P) (w:=w) (base:=base) TN TB F10 M h_c_is_name h_c_is_whole
 have h_c_is_within:=okIWi (P:=P) (w:=w) (base:=base) TN TB F11 M
 have h_c_needed_by:=okNee (P:=P) (w:=w) (base:=base) TD F12 M
 have h_c_is_row_of_book:=okIRw (P:=P) (w:=w) (base:=base) F13 M h_c_is_formed h_c_is_within h_c_said_by h_c_needed_by
 have h_c_looked:=okLov (P:=P) (w:=w) (base:=base) (⟨EI,Qoq FN EI,bN,lkN,fcN,kcN⟩:NBk P w K mg base C D fN fdN fo) F14 M h_c_is_row_of_book h_c_said_by
 have h_c_rows_copied:=okCop (P:=P) (w:=w) (base:=base) F15 M
 have h_cl_whole:=okWhV (P:=P) (w:=w) (base:=base) F16 M
 have h_cl_other:=okLOt (P:=P) (w:=w) (base:=base) F17 M
 have h_cl_deed:=okLDe (P:=P) (w:=w) (base:=base) F18 M h_cl_other
 have h_cl_laid:=okLLa (P:=P) (w:=w) (base:=base) F19 M
 have h_cl_looked:=okLLk (P:=P) (w:=w) (base:=base) EK isC F20 M h_c_looked
 have h_cl_named:=okLNm (P:=P) (w:=w) (base:=base) EK F21 M h_cl_whole
 have h_cl_done:=okLDo (P:=P) (w:=w) (base:=base) EK T (okDkP (P:=P) (w:=w) (base:=base) (⟨EI,Qoq FN EI,bN,lkN,fcN,kcN⟩:NBk P w K mg base C D fN fdN fo) T (Qlq (P:=P) (w:=w) (base:=base) T h_c_looked h_c_rows_copied FL M) bL mL h_c_is_number_of FP M) bP mP (okDkT (P:=P) (w:=w) (base:=base) (⟨EI,Qoq FN EI,bN,lkN,fcN,kcN⟩:NBk P w K mg base C D fN fdN fo) T (Qlq (P:=P) (w:=w) (base:=base) T h_c_looked h_c_rows_copied FL M) bL mL h_c_is_number_of FT M) bT mT (okDkK (P:=P) (w:=w) (base:=base) EN T FK M) bK mK F22 M
 have h_cl_step:=okLSt (P:=P) (w:=w) (base:=base) EK F23 M h_cl_done h_cl_named h_cl_laid h_cl_looked
 have h_cl_no_desk:=okLNd (P:=P) (w:=w) (base:=base) EK T MI (okDkI (P:=P) (w:=w) (base:=base) T (Qlq (P:=P) (w:=w) (base:=base) T h_c_looked h_c_rows_copied FL M) bL mL FI M) bI F24 M h_cl_named h_cl_looked
 have h_c_law:=okLaw (P:=P) (w:=w) (base:=base) T MI (okDkI (P:=P) (w:=w) (base:=base) T (Qlq (P:=P) (w:=w) (base:=base) T h_c_looked h_c_rows_copied FL M) bL mL FI M) bI (okDkB (P:=P) (w:=w) (base:=base) T h_c_rows_copied FB M) bB mB F25 M h_cl_draws h_cl_book h_cl_no_desk h_cl_deed h_cl_step
 exact h_c_law
theorem walk {l:PySem.W.OpenLaw} {q:Program} {loose:List Str} {XP:(Str->Option Value)->Heap->Prop} {YP:World->Heap->Prop} {d:DefRec} {K:Params->Fg} (hn:l.most=some 63) (hdf:d.params.defaults=[])
  (hY:∀ (w:World) (h:Heap),YP w h->(K w.params).In h)
  (F:∀ (w:World) (mg:Str->Option Value) (fa:Addr) (h:Heap),(K w.params).In h->h.Ns mainGlobals mg->mg d.name=some (.ref fa) ->
   ∃ fd:FuncData,(∀ (s:Shared) (u:Value),BindsTo s fd ⟨[u],[]⟩ [("_law_script",u)])/\∀ base:Heap,(K w.params).In base->base.Ns mainGlobals mg->FnOk l.prog w (K w.params) mg base CX0 9 fa fd ["_law_script"] (Qkn (K w.params))) :
  PySem.W.WalkO q loose XP YP l.row.toRowW d [] (fun f vs=>PySem.call f vs) :=
 L2.Qhn (n:=63) (k:=9) (x:="_law_script") (CX:=fun _=>CX0) (sp:=fun w=>Qkn (K w.params)) hn (by decide) hdf ⟨rfl,by decide,by decide⟩ hY F (fun _ _ a ns hl hb hS=>⟨a,ns,rfl,hS,hl,fun _=>rfl⟩) fun _ _ _ _ _ z=>z
end Nb
def Nb.pwv:PySem.Program:={ PySem.Challenge.pw_nonebetter_k80_whole_desk with main:={ PySem.Challenge.pw_nonebetter_k80_whole_desk.main with body:=[Nb.htop 0,Nb.htop 1,Nb.htop 2,Nb.htop 3,Nb.htop 4,Nb.htop 5,Nb.htop 6,Nb.htop 7,Nb.htop 8,Nb.htop 9,Nb.htop 10,Nb.htop 11,Nb.htop 12,Nb.htop 13,Nb.htop 14,Nb.htop 15,Nb.htop 16,Nb.htop 17,Nb.htop 18,Nb.htop 19,Nb.htop 20,Nb.htop 21,Nb.htop 22,Nb.htop 23,Nb.htop 24,Nb.htop 25,Nb.htop 26,Nb.htop 27,Nb.htop 28,Nb.htop 29,Nb.htop 30,Nb.htop 31,Nb.htop 32,Nb.htop 33,Nb.htop 34,Nb.htop 35,Nb.htop 36,Nb.htop 37,Nb.htop 38,Nb.htop 39,Nb.htop 40,Nb.htop 41,Nb.htop 42,Nb.htop 43,Nb.htop 44,Nb.htop 45,Nb.htop 46,Nb.htop 47,Nb.htop 48,Nb.htop 49,Nb.htop 50,Nb.htop 51,Nb.htop 52,Nb.htop 53,Nb.htop 54,Nb.htop 55,Nb.htop 56,Nb.htop 57,Nb.htop 58,Nb.htop 59,Nb.htop 60,Nb.htop 61,Nb.htop 62,Nb.htop 63,Nb.htop 64,Nb.htop 65,Nb.htop 66,Nb.htop 67,Nb.htop 68,Nb.htop 69,Nb.htop 70,Nb.htop 71,Nb.htop 72,Nb.htop 73,Nb.htop 74,Nb.htop 75,Nb.htop 76,Nb.htop 77,Nb.htop 78,Nb.htop 79,Nb.htop 80,Nb.htop 81,Nb.htop 82,Nb.htop 83,Nb.htop 84,Nb.htop 85,Nb.htop 86,Nb.htop 87,Nb.htop 88,Nb.htop 89,Nb.htop 90,Nb.htop 91,Nb.htop 92,Nb.htop 93,Nb.htop 94,Nb.htop 95,Nb.htop 96,Nb.htop 97,Nb.htop 98,Nb.htop 99,Nb.htop 100,Nb.htop 101,Nb.htop 102,Nb.htop 103,Nb.htop 104,Nb.htop 105,Nb.htop 106,Nb.htop 107,Nb.htop 108,Nb.htop 109,Nb.htop 110,Nb.htop 111,Nb.htop 112,Nb.htop 113,Nb.htop 114,Nb.htop 115,Nb.htop 116,Nb.htop 117,Nb.htop 118,Nb.htop 119,Nb.htop 120,Nb.htop 121,Nb.htop 122,Nb.htop 123,Nb.htop 124,Nb.htop 125,Nb.htop 126,Nb.htop 127,Nb.htop 128,Nb.htop 129,Nb.htop 130,Nb.htop 131,Nb.htop 132,Nb.htop 133,Nb.htop 134,Nb.htop 135,Nb.htop 136,Nb.htop 137,Nb.htop 138,Nb.htop 139,Nb.htop 140,Nb.htop 141,Nb.htop 142,Nb.htop 143,Nb.htop 144,Nb.htop 145,Nb.htop 146,Nb.htop 147,Nb.htop 148,Nb.htop 149,Nb.htop 150,Nb.htop 151,Nb.htop 152,Nb.htop 153,Nb.htop 154,Nb.htop 155,Nb.htop 156,Nb.htop 157,Nb.htop 158,Nb.htop 159,Nb.htop 160,Nb.htop 161] } }
def PySem.W.Fast.tw1653918685017820470:Nat->PySem.Params->PySem.Obj:=Nb.hob
theorem PySem.W.Fast.te1653918685017820470:Nb.hob=PySem.W.Fast.tw1653918685017820470:=rfl
def PySem.W.Fast.tw9401860820342270615:PySem.Program:=Nb.pwv
theorem PySem.W.Fast.te9401860820342270615:Nb.pwv=PySem.W.Fast.tw9401860820342270615:=rfl
def PySem.W.Fast.tw11570947652754012800:Nat->PySem.Stmt:=Nb.htop
theorem PySem.W.Fast.te11570947652754012800:Nb.htop=PySem.W.Fast.tw11570947652754012800:=rfl
namespace PySem.W.Fast
noncomputable def tw11534325269998752470:=0
noncomputable def tw15380383561490023766:=0
noncomputable def tw10399910843159171901:=0
noncomputable def tw1426605885890146976:=0
noncomputable def tw15673799645435930686:=0
noncomputable def tw3504294435259698061:=0
noncomputable def tw13655707225556001940:=0
noncomputable def tw543288188782892032:=0
noncomputable def tw8146509043971585802:=0
noncomputable def tw1171580635389972480:=0
noncomputable def tw17630633557238573850:=0
noncomputable def tw14271578883685836394:=0
noncomputable def tw15845591675253865703:=0
noncomputable def tw1378397569430186961:=0
noncomputable def tw10976762139872235195:=0
noncomputable def tw18287321845578497734:=0
noncomputable def tw2678409587349084956:=0
noncomputable def tw11181119643375088682:=0
noncomputable def tw7909735482046134432:=0
noncomputable def tw8046433865996419622:=0
noncomputable def tw7082771313575496613:=0
noncomputable def tw9037377097273468230:=0
noncomputable def tw16362901324481016093:=0
noncomputable def tw14791496863703068291:=0
noncomputable def tw1331725841651478907:=0
noncomputable def tw4043917306098502275:=0
noncomputable def tw9186298020494414241:=0
noncomputable def tw5725802335720634770:=0
noncomputable def tw3285043601383182424:=0
noncomputable def tw11404534142692521641:=0
noncomputable def tw18190938886704082573:=0
noncomputable def tw13867435275063933719:=0
noncomputable def tw754700626834182626:=0
noncomputable def tw7238161935861745941:=0
noncomputable def tw443995025548072883:=0
noncomputable def tw14313667761170547885:=0
noncomputable def tw16125638290026520981:=0
noncomputable def tw8733333053290329227:=0
noncomputable def tw13715770826497385563:=0
noncomputable def tw16367516742508054366:=0
noncomputable def tw11666972057036148249:=0
noncomputable def tw1228504969072049003:=0
noncomputable def tw12777470657387708373:=0
noncomputable def tw9367057787633473540:=0
noncomputable def tw6001539110028015091:=0
noncomputable def tw9663279775251081047:=0
noncomputable def tw10923684730939118218:=0
noncomputable def tw3378349103904853796:=0
noncomputable def tw9384654687962053705:=0
noncomputable def tw10562561277484169018:=0
noncomputable def tw1134194564277631418:=0
noncomputable def tw4029701520089005194:=0
noncomputable def tw2111692522756247410:=0
noncomputable def tw12134580877041256937:=0
noncomputable def tw3678534938110804055:=0
noncomputable def tw5231403379625545666:=0
noncomputable def tw10977523436360675388:=0
noncomputable def tw6819409688765514999:=0
noncomputable def tw11256626991240187060:=0
noncomputable def tw7465782712072931510:=0
noncomputable def tw12898739059278014585:=0
noncomputable def tw3543287541219043125:=0
noncomputable def tw7324167665715048405:=0
noncomputable def tw3234790897307103448:=0
noncomputable def tw17045018860122408011:=0
noncomputable def tw18369224073349218375:=0
noncomputable def tw2177054356739490459:=0
noncomputable def tw10806603235777536229:=0
noncomputable def tw8208960934532145489:=0
noncomputable def tw10645925064142915446:=0
noncomputable def tw16177046746286191991:=0
noncomputable def tw16623423649738266376:=0
noncomputable def tw14823179421720756274:=0
noncomputable def tw9208120544495578296:=0
noncomputable def tw8684167450182115899:=0
noncomputable def tw5377157672403361853:=0
noncomputable def tw8906556704190108022:=0
noncomputable def tw14611962028702779137:=0
noncomputable def tw259094815755470170:=0
noncomputable def tw17428197203325216162:=0
noncomputable def tw4137746891939988348:=0
noncomputable def tw12650183279826245543:=0
noncomputable def tw12810844322138243253:=0
noncomputable def tw5487150124924538889:=0
noncomputable def tw8152784313487642454:=0
noncomputable def tw8725041946684297131:=0
noncomputable def tw8855634416056500022:=0
noncomputable def tw6372167389960221901:=0
noncomputable def tw16378420158342694443:=0
noncomputable def tw986506200064554862:=0
noncomputable def tw16680004384749935583:=0
noncomputable def tw6494100668016431024:=0
noncomputable def tw11337845644176159767:=0
noncomputable def tw17333422981525406585:=0
noncomputable def tw5661403568880768234:=0
noncomputable def tw13333548692396620301:=0
noncomputable def tw2317422316987244031:=0
noncomputable def tw2520506912868965159:=0
noncomputable def tw2399785541105933192:=0
noncomputable def tw863652436262390587:=0
noncomputable def tw1177540762930613318:=0
noncomputable def tw3445350602094839903:=0
noncomputable def tw4887642516607025512:=0
noncomputable def tw3575962543830235567:=0
noncomputable def tw8351921678738605471:=0
noncomputable def tw1511531288458074287:=0
noncomputable def tw11260921396260721646:=0
noncomputable def tw5810451296012057933:=0
noncomputable def tw17297802228118385333:=0
noncomputable def tw13472372799592619757:=0
noncomputable def tw5799700303030006890:=0
noncomputable def tw4009500326401046460:=0
noncomputable def tw2151531118986658423:=0
noncomputable def tw12441802182769986514:=0
noncomputable def tw8011278142936563578:=0
noncomputable def tw7048350600331632713:=0
noncomputable def tw12576367427293164380:=0
noncomputable def tw8127581008692253280:=0
noncomputable def tw14265508671740762675:=0
noncomputable def tw9424873358585240873:=0
noncomputable def tw3889996447432939641:=0
noncomputable def tw5832266879621294018:=0
noncomputable def tw5947556050924889685:=0
noncomputable def tw4859479899873160765:=0
noncomputable def tw6570365309877618922:=0
noncomputable def tw14116959895134766118:=0
noncomputable def tw5991096667295913626:=0
noncomputable def tw16921895266182094450:=0
noncomputable def tw11965242751925804126:=0
noncomputable def tw13648214977860904567:=0
noncomputable def tw7632321906574235824:=0
noncomputable def tw15056803673101942593:=0
noncomputable def tw15972876914300658245:=0
noncomputable def tw3943638180801759633:=0
noncomputable def tw274865221006482706:=0
noncomputable def tw7546407770136931787:=0
noncomputable def tw14082232216483376981:=0
noncomputable def tw15097674085360908387:=0
noncomputable def tw467805960089223956:=0
noncomputable def tw7369880170032256484:=0
noncomputable def tw11498604407938825284:=0
noncomputable def tw11194508644012552217:=0
noncomputable def tw10001344860337695015:=0
noncomputable def tw8385632907963429571:=0
noncomputable def tw13976201410302753025:=0
noncomputable def tw9647592347740290824:=0
noncomputable def tw3791506724203293181:=0
noncomputable def tw1559550276723693849:=0
noncomputable def tw2747116570578671165:=0
noncomputable def tw9332307090580436265:=0
noncomputable def tw11707533701249329686:=0
noncomputable def tw5445685678536535704:=0
noncomputable def tw9455934788686027792:=0
noncomputable def tw600415883072005664:=0
noncomputable def tw9274560616936728892:=0
noncomputable def tw2920681670789099015:=0
noncomputable def tw15278031913588960557:=0
noncomputable def tw3079765739447271281:=0
noncomputable def tw8235850815289601934:=0
noncomputable def tw11770001835630998023:=0
noncomputable def tw12569520820502884931:=0
noncomputable def tw8585069805883208993:=0
noncomputable def tw13209505934245647108:=0
noncomputable def tw12392002180343211682:=0
noncomputable def tw15384708785053624013:=0
noncomputable def tw18304716868866535804:=0
noncomputable def tw13993693335473199065:=0
noncomputable def tw15981514270442671488:=0
noncomputable def tw16028529716963793681:=0
noncomputable def tw16349706035689530708:=0
noncomputable def tw7736663372029055147:=0
noncomputable def tw7131368192947978871:=0
noncomputable def tw5485400169828259401:=0
noncomputable def tw12498136435560415821:=0
noncomputable def tw12236089649411669757:=0
noncomputable def tw285533551709814121:=0
noncomputable def tw11468201002495581285:=0
noncomputable def tw14121474057037600604:=0
noncomputable def tw8655637985233676225:=0
noncomputable def tw3311534743389909494:=0
noncomputable def tw9247924968998954804:=0
noncomputable def tw14665979563413737706:=0
noncomputable def tw10496686041770820330:=0
noncomputable def tw572052190789606407:=0
noncomputable def tw5885593952542420965:=0
noncomputable def tw12105578577567199540:=0
noncomputable def tw7177694026428842339:=0
noncomputable def tw178366487241894053:=0
noncomputable def tw15339397942429558077:=0
noncomputable def tw14304105095092185103:=0
noncomputable def tw17261823206289695140:=0
noncomputable def tw14818655522211274861:=0
noncomputable def tw5800071188356931757:=0
noncomputable def tw2800784372478859255:=0
noncomputable def tw7141978695008923493:=0
noncomputable def tw5050006855664816222:=0
noncomputable def tw1480379463016889284:=0
noncomputable def tw14445192346899071412:=0
noncomputable def tw7668162952263873012:=0
noncomputable def tw11047923097364393945:=0
noncomputable def tw476384834707417224:=0
noncomputable def tw4988772027322235097:=0
noncomputable def tw10605032980962699645:=0
noncomputable def tw13254531787461299176:=0
noncomputable def tw50283088386568163:=0
noncomputable def tw6679777592539072896:=0
noncomputable def tw2223834234703206076:=0
noncomputable def tw17063040785539887340:=0
noncomputable def tw4372051578827491018:=0
noncomputable def tw16790298303666034930:=0
noncomputable def tw13553689115734472438:=0
noncomputable def tw2087254663530343629:=0
noncomputable def tw16886635478219084174:=0
noncomputable def tw7675484997247728253:=0
noncomputable def tw15569537094248484707:=0
noncomputable def tw12072897948603690606:=0
noncomputable def tw16942069130135418954:=0
noncomputable def tw12958158956815719197:=0
noncomputable def tw17782840578394593378:=0
noncomputable def tw11012884931745368686:=0
noncomputable def tw14203134664651904921:=0
noncomputable def tw13234131901155407488:=0
noncomputable def tw17506556389470774415:=0
noncomputable def tw15662704180351275857:=0
noncomputable def tw3418834474734703168:=0
noncomputable def tw11805579884182293258:=0
noncomputable def tw17149389249300407308:=0
noncomputable def tw15378195263462107885:=0
noncomputable def tw4774659183470085912:=0
noncomputable def tw4475637129812205938:=0
noncomputable def tw7314771631426615965:=0
noncomputable def tw9188077146504410146:=0
noncomputable def tw1521221266878046067:=0
noncomputable def tw3932354064570677030:=0
noncomputable def tw18309785908327797112:=0
noncomputable def tw3695526498646039489:=0
noncomputable def tw6018810707313569414:=0
noncomputable def tw648601442334932036:=0
noncomputable def tw15425609259380393626:=0
noncomputable def tw17013691168562000500:=0
noncomputable def tw15118732592214877459:=0
noncomputable def tw4352888003081878877:=0
noncomputable def tw2108089254350461231:=0
noncomputable def tw16575355701357004119:=0
noncomputable def tw11144675616631397882:=0
noncomputable def tw13190285302844229320:=0
noncomputable def tw14904845667557114018:=0
noncomputable def tw6906973888515141159:=0
noncomputable def tw1507683782397268244:=0
noncomputable def tw9738704250993676770:=0
noncomputable def tw12905159716467542803:=0
noncomputable def tw14592157499349072133:=0
noncomputable def tw5338678619246407601:=0
noncomputable def tw13217588336332402509:=0
noncomputable def tw17778895641419870076:=0
noncomputable def tw648093446609201808:=0
noncomputable def tw141001480965323333:=0
noncomputable def tw745301910929381406:=0
noncomputable def tw16873290962106214656:=0
noncomputable def tw9042095835448082380:=0
noncomputable def tw13432697923733005288:=0
noncomputable def tw15863198097428826020:=0
noncomputable def tw4020028831935979371:=0
noncomputable def tw12539602108149909211:=0
noncomputable def tw10659291281426062336:=0
noncomputable def tw14361321196179733979:=0
noncomputable def tw6840643128301200540:=0
noncomputable def tw3779817286157935730:=0
noncomputable def tw2054932752746526482:=0
noncomputable def tw5702832862473460213:=0
noncomputable def tw11862438874921764:=0
noncomputable def tw13018172469026188129:=0
noncomputable def tw13431211038424758207:=0
noncomputable def tw970132594069187367:=0
noncomputable def tw1692808976491569291:=0
noncomputable def tw4046621472935180715:=0
noncomputable def tw14249207332894486822:=0
noncomputable def tw16491122772210673515:=0
noncomputable def tw12354749655233079727:=0
noncomputable def tw15174048975187670141:=0
noncomputable def tw8686880197661536192:=0
noncomputable def tw8964992196115836916:=0
noncomputable def tw12262826395662128024:=0
noncomputable def tw984803997436978183:=0
noncomputable def tw15798766712300985094:=0
noncomputable def tw7824560953850215663:=0
noncomputable def tw6762422012992404518:=0
noncomputable def tw7510377896734432730:=0
noncomputable def tw9780597059086150616:=0
noncomputable def tw4795324434457001034:=0
noncomputable def tw11290092210857189190:=0
noncomputable def tw10343496033893832678:=0
noncomputable def tw3662199763624764464:=0
noncomputable def tw1260758846494721265:=0
noncomputable def tw2973266458769913629:=0
noncomputable def tw6500548074634480415:=0
noncomputable def tw15550839787837973413:=0
noncomputable def tw8180147333747312109:=0
noncomputable def tw3375369673746196889:=0
noncomputable def tw12167434467158009285:=0
noncomputable def tw11863509923296908537:=0
noncomputable def tw5255291496024045464:=0
noncomputable def tw529308632298007185:=0
noncomputable def tw7831958317968721602:=0
noncomputable def tw269576634078842003:=0
noncomputable def tw11885653746713490720:=0
noncomputable def tw11504496100699800053:=0
noncomputable def tw7169822291902434019:=0
noncomputable def tw17756050302428361503:=0
noncomputable def tw15073778606945178805:=0
noncomputable def tw15635390875502338343:=0
noncomputable def tw2091190927271460591:=0
noncomputable def tw11377918963420428808:=0
noncomputable def tw2515493612463786928:=0
noncomputable def tw12986668517620762944:=0
noncomputable def tw17401066635574754886:=0
noncomputable def tw12197666397393253528:=0
noncomputable def tw8146817303620415490:=0
noncomputable def tw11245931639811395114:=0
noncomputable def tw8524363177437681212:=0
noncomputable def tw14908742272356214947:=0
noncomputable def tw10851880689069553129:=0
noncomputable def tw18085816817315162168:=0
noncomputable def tw4408202570039743321:=0
noncomputable def tw1740297721804708400:=0
noncomputable def tw165429149789612441:=0
noncomputable def tw11255517092054317300:=0
noncomputable def tw13882801368117139943:=0
noncomputable def tw6457108600218445656:=0
noncomputable def tw12386414037340349177:=0
noncomputable def tw5431440325510341634:=0
noncomputable def tw13062710919567899518:=0
noncomputable def tw7135703980858859898:=0
noncomputable def tw364808377986973984:=0
noncomputable def tw7918498731192825437:=0
noncomputable def tw11743265678421789760:=0
noncomputable def tw10199192450271315839:=0
noncomputable def tw17924535532080308721:=0
noncomputable def tw4816292887103690401:=0
noncomputable def tw7153860671130379919:=0
noncomputable def tw3286254721814953300:=0
noncomputable def tw2335337828413266139:=0
noncomputable def tw11779805006682474129:=0
noncomputable def tw16365415145047937258:=0
noncomputable def tw17436890215231058960:=0
noncomputable def tw5407955371177055363:=0
noncomputable def tw17350333474084323560:=0
noncomputable def tw9088848343219536140:=0
noncomputable def tw5080284987840081397:=0
noncomputable def tw1205684425002766919:=0
noncomputable def tw13712962872324046059:=0
noncomputable def tw7593902856931617046:=0
noncomputable def tw4214971138847373574:=0
noncomputable def tw1981330777908483392:=0
noncomputable def tw13485092050028261761:=0
noncomputable def tw17831939559004364593:=0
noncomputable def tw16397183646255387837:=0
noncomputable def tw15894115709258075200:=0
noncomputable def tw5504437012366197384:=0
noncomputable def tw6361731050377968146:=0
noncomputable def tw5973924623748916194:=0
noncomputable def tw2919044588628050144:=0
noncomputable def tw1304006173236203204:=0
noncomputable def tw14687774169959869900:=0
noncomputable def tw14241494044922858595:=0
noncomputable def tw5315930730597841744:=0
noncomputable def tw966248755357035125:=0
noncomputable def tw6936848360310233061:=0
noncomputable def tw16963853468168592456:=0
noncomputable def tw14061624844995511964:=0
noncomputable def tw13494394125810071408:=0
noncomputable def tw9609583990795633958:=0
noncomputable def tw11965293850546816316:=0
noncomputable def tw13288528429004420182:=0
noncomputable def tw798924186980422603:=0
noncomputable def tw1243757180927331932:=0
noncomputable def tw5785362093063169877:=0
noncomputable def tw2192412564817167192:=0
noncomputable def tw15659947783029211790:=0
noncomputable def tw7483645747266641278:=0
noncomputable def tw4942442829423183301:=0
noncomputable def tw9933703976709966329:=0
noncomputable def tw4210808830852985803:=0
noncomputable def tw12730067188745345142:=0
noncomputable def tw5402851911022989300:=0
noncomputable def tw7202463077701712953:=0
noncomputable def tw5464717158536558188:=0
noncomputable def tw9672317775521017937:=0
noncomputable def tw17971686976060128358:=0
noncomputable def tw10752123359823466190:=0
noncomputable def tw12340384481616159139:=0
noncomputable def tw18203432668949798402:=0
noncomputable def tw6288327945269866622:=0
noncomputable def tw3487602965602516191:=0
noncomputable def tw11492255276392547014:=0
noncomputable def tw3743230415735715871:=0
noncomputable def tw4699934605195235820:=0
noncomputable def tw8247800351173783662:=0
noncomputable def tw7870013815488654399:=0
noncomputable def tw12368430858729274974:=0
noncomputable def tw13448490423035145597:=0
noncomputable def tw15086187107784377514:=0
noncomputable def tw5855269975338432176:=0
noncomputable def tw3139187282068837821:=0
noncomputable def tw5158199777216537344:=0
noncomputable def tw5348537173842555096:=0
noncomputable def tw2909080216819445142:=0
noncomputable def tw6084216949991966289:=0
noncomputable def tw12417340296339163268:=0
noncomputable def tw1125287321376183264:=0
noncomputable def tw13050982245264939684:=0
noncomputable def tw534692599994846988:=0
noncomputable def tw4158974936394180181:=0
noncomputable def tw3051501952072036232:=0
noncomputable def tw11146339943475095944:=0
noncomputable def tw1893243665295089689:=0
noncomputable def tw17947854435693096889:=0
noncomputable def tw10383921695125644173:=0
noncomputable def tw9418469305553694741:=0
noncomputable def tw14606943375876267925:=0
noncomputable def tw4257918235798210706:=0
noncomputable def tw12721389721394974470:=0
noncomputable def tw1356652670438387227:=0
noncomputable def tw15854933028927528691:=0
noncomputable def tw10748429104672249928:=0
noncomputable def tw11870558313520518641:=0
noncomputable def tw261568863962988325:=0
noncomputable def tw15191289571184192084:=0
noncomputable def tw10227488724436394160:=0
noncomputable def tw14571399432789452858:=0
noncomputable def tw15191452615673073485:=0
noncomputable def tw2743748950799343497:=0
noncomputable def tw6416604359835654699:=0
noncomputable def tw14653005434302806732:=0
noncomputable def tw7598620895228073665:=0
noncomputable def tw17763664603813342494:=0
noncomputable def tw14916184920171179393:=0
noncomputable def tw12837245623852830537:=0
noncomputable def tw145330643819190914:=0
noncomputable def tw1068972079730957686:=0
noncomputable def tw8336374554030729149:=0
noncomputable def tw1720363858003742210:=0
noncomputable def tw406980604892700520:=0
noncomputable def tw1839401195662399565:=0
noncomputable def tw10355823595538933011:=0
noncomputable def tw6592645436369163036:=0
noncomputable def tw10025586491716834144:=0
noncomputable def tw5956161838161644516:=0
noncomputable def tw474456322576803561:=0
noncomputable def tw2100559994433006813:=0
noncomputable def tw4999495639242290646:=0
noncomputable def tw10361520383868838721:=0
noncomputable def tw11480439090002523105:=0
noncomputable def tw458050482861222950:=0
noncomputable def tw4534177020194450508:=0
noncomputable def tw9119590209508562500:=0
noncomputable def tw12328428989430273256:=0
noncomputable def tw7920605927095070640:=0
noncomputable def tw15019531372054481564:=0
noncomputable def tw10825403387738849381:=0
noncomputable def tw4881935102545274706:=0
noncomputable def tw14208698615871956608:=0
noncomputable def tw8127296272673256592:=0
noncomputable def tw5024923254399342708:=0
noncomputable def tw17744911155138380443:=0
noncomputable def tw4374347314845711126:=0
noncomputable def tw7153827454298011503:=0
noncomputable def tw8219664570750921807:=0
noncomputable def tw15417853106405351699:=0
noncomputable def tw359210583817793514:=0
noncomputable def tw1974079609061160580:=0
noncomputable def tw16565055293630341371:=0
noncomputable def tw7595951027811425135:=0
noncomputable def tw6140274370080134660:=0
noncomputable def tw7724716116356040618:=0
noncomputable def tw2513919674701221361:=0
noncomputable def tw9293178752059230235:=0
noncomputable def tw13828600863405619231:=0
noncomputable def tw5080919614221281095:=0
noncomputable def tw14676623852560358409:=0
noncomputable def tw10123912689578077243:=0
noncomputable def tw7615674159225803029:=0
noncomputable def tw6919723192627381729:=0
noncomputable def tw2875854854211065891:=0
noncomputable def tw584332316052901040:=0
noncomputable def tw14472683970991186326:=0
noncomputable def tw14124253730494082770:=0
noncomputable def tw13462778786897141330:=0
noncomputable def tw8198106709712835198:=0
noncomputable def tw10916113856821450266:=0
noncomputable def tw12657413717825240102:=0
noncomputable def tw7721771276361145084:=0
noncomputable def tw14741208036724879290:=0
noncomputable def tw16796115311040955671:=0
noncomputable def tw9089506872523330481:=0
noncomputable def tw1744887220883862540:=0
noncomputable def tw12071359526591693470:=0
noncomputable def tw17453139951255030906:=0
noncomputable def tw9135900397516636546:=0
noncomputable def tw12952586564760904956:=0
noncomputable def tw17817149925457233952:=0
noncomputable def tw6744985687111572027:=0
noncomputable def tw565655386849546094:=0
noncomputable def tw14218795889970137365:=0
noncomputable def tw13503203250634327036:=0
noncomputable def tw5183021520188090076:=0
noncomputable def tw5966623372099732902:=0
noncomputable def tw11696587757963162877:=0
noncomputable def tw3349588990656643841:=0
noncomputable def tw2360892452091046515:=0
noncomputable def tw1530503412741482495:=0
noncomputable def tw1978202837805738105:=0
noncomputable def tw9673444653719201912:=0
noncomputable def tw2390735801235770802:=0
noncomputable def tw1272570047854859369:=0
noncomputable def tw4756217595321282434:=0
noncomputable def tw679383143347446198:=0
noncomputable def tw12495271569619677869:=0
noncomputable def tw12183475205040266524:=0
noncomputable def tw757907278377785772:=0
noncomputable def tw10630654866500762239:=0
noncomputable def tw8965475702741269978:=0
noncomputable def tw7901617698842597392:=0
noncomputable def tw2951402160744547059:=0
noncomputable def tw13866411826912276846:=0
noncomputable def tw14405681711774589783:=0
noncomputable def tw3965651090022147616:=0
noncomputable def tw9281863148172800496:=0
noncomputable def tw11386312679639932972:=0
noncomputable def tw9390045914002006632:=0
noncomputable def tw6372000784990214580:=0
noncomputable def tw11443724028228966119:=0
noncomputable def tw4696420805192699090:=0
noncomputable def tw4673122930312237814:=0
noncomputable def tw10848383839192342120:=0
noncomputable def tw1696188957997748312:=0
noncomputable def tw6005423010779374734:=0
noncomputable def tw4936076147892988026:=0
noncomputable def tw7477427718112272207:=0
noncomputable def tw4063275405965875076:=0
noncomputable def tw6543177561420391334:=0
noncomputable def tw7953047029371973158:=0
noncomputable def tw14631190620562673297:=0
noncomputable def tw8866392273704058247:=0
noncomputable def tw2356001771604719945:=0
noncomputable def tw12928952245774001338:=0
noncomputable def tw4771638135718031596:=0
noncomputable def tw10133414923568817545:=0
noncomputable def tw5798588754035165304:=0
noncomputable def tw7866266360544531838:=0
noncomputable def tw14329941171114218354:=0
noncomputable def tw9651885247841017641:=0
noncomputable def tw1568190072992338752:=0
noncomputable def tw882248194208206960:=0
noncomputable def tw2392239590293113201:=0
noncomputable def tw599112728779817550:=0
noncomputable def tw743922063405109198:=0
noncomputable def tw18047838578914645758:=0
noncomputable def tw11789213828074070467:=0
noncomputable def tw1518112207814461127:=0
noncomputable def tw10577619878535484366:=0
noncomputable def tw14268020929542100940:=0
noncomputable def tw6938923776014207834:=0
noncomputable def tw4134907953418821491:=0
noncomputable def tw17033728417578285117:=0
noncomputable def tw17368096825187995814:=0
noncomputable def tw6778988973147411293:=0
noncomputable def tw11404645313816434812:=0
noncomputable def tw16968616715175788588:=0
noncomputable def tw2385146637903022343:=0
noncomputable def tw7491990997122758093:=0
noncomputable def tw16033469452888118271:=0
noncomputable def tw9751726008014739658:=0
noncomputable def tw1110098034982415754:=0
noncomputable def tw8687050418785849482:=0
noncomputable def tw16873680093981604619:=0
noncomputable def tw5115835601392075380:=0
noncomputable def tw14428521504469419279:=0
noncomputable def tw2949951318511820684:=0
noncomputable def tw18166344262209048399:=0
noncomputable def tw7844152556460391726:=0
noncomputable def tw5981736928302798061:=0
noncomputable def tw17919817037248054863:=0
noncomputable def tw9704992223104197135:=0
noncomputable def tw13138930438417840081:=0
noncomputable def tw16945163990342156364:=0
noncomputable def tw17757965147208928452:=0
noncomputable def tw7700955433773808683:=0
noncomputable def tw119660576870771765:=0
noncomputable def tw11040208497343517925:=0
noncomputable def tw11991273970866490442:=0
noncomputable def tw6986751106719621106:=0
noncomputable def tw9623342254483605826:=0
noncomputable def tw2586285290897881512:=0
noncomputable def tw1930153689413040950:=0
noncomputable def tw3957104835438638903:=0
noncomputable def tw10127272343380085498:=0
noncomputable def tw5995855403330120427:=0
noncomputable def tw1731203657640873526:=0
noncomputable def tw8057627510839790591:=0
noncomputable def tw4996060898884176189:=0
noncomputable def tw9107634754387788242:=0
noncomputable def tw12939355356881951683:=0
noncomputable def tw1196325324524477998:=0
noncomputable def tw7191741494856656685:=0
noncomputable def tw5730264389311596713:=0
noncomputable def tw8341969115055600208:=0
noncomputable def tw4404743496453037820:=0
noncomputable def tw2232626511654699787:=0
noncomputable def tw16184967767998918158:=0
noncomputable def tw4327330135273537513:=0
noncomputable def tw16959395598436928203:=0
noncomputable def tw6135382126310624580:=0
noncomputable def tw11901259525468878020:=0
noncomputable def tw382512775078107336:=0
noncomputable def tw8676569211797541012:=0
noncomputable def tw10879973281667020223:=0
noncomputable def tw3510081189770406636:=0
noncomputable def tw1876038677180874366:=0
noncomputable def tw8627484938248047527:=0
noncomputable def tw890620203597282774:=0
noncomputable def tw6613643518576401217:=0
noncomputable def tw2835700693866639836:=0
noncomputable def tw4111984583244267836:=0
noncomputable def tw4783695757049668887:=0
noncomputable def tw2477824192069313419:=0
noncomputable def tw2073411490435902696:=0
noncomputable def tw15290190374594756334:=0
noncomputable def tw11490321471502342961:=0
noncomputable def tw13204475912296747294:=0
noncomputable def tw10844519358631845048:=0
noncomputable def tw2772294300997716892:=0
noncomputable def tw15606615566033605600:=0
noncomputable def tw9823797396801300031:=0
noncomputable def tw16418284260361478192:=0
noncomputable def tw13504751076251757511:=0
noncomputable def tw16641849061010738670:=0
noncomputable def tw17093330756645367622:=0
noncomputable def tw6220108482754595254:=0
noncomputable def tw14662751315412490217:=0
noncomputable def tw7038567845852725275:=0
noncomputable def tw6324002146945138608:=0
noncomputable def tw1113097536551763585:=0
noncomputable def tw14859180165101641519:=0
noncomputable def tw7246518656409192074:=0
noncomputable def tw15464666858862006973:=0
noncomputable def tw11530061985115513116:=0
noncomputable def tw8653717655895193843:=0
noncomputable def tw13691719403766867379:=0
noncomputable def tw9799973263955466347:=0
noncomputable def tw17411232393289070048:=0
noncomputable def tw85887194806965272:=0
noncomputable def tw7542846932615857041:=0
noncomputable def tw11655399590041176121:=0
noncomputable def tw11593005592925578495:=0
noncomputable def tw16279490722598131289:=0
noncomputable def tw15057510689928435818:=0
noncomputable def tw6618797131979724296:=0
noncomputable def tw295087491637138961:=0
noncomputable def tw5616477268203564906:=0
noncomputable def tw1898517326027370227:=0
noncomputable def tw15323307389718065624:=0
noncomputable def tw9612917006292359829:=0
noncomputable def tw11937318580967865412:=0
noncomputable def tw15928673122109446794:=0
noncomputable def tw14073019660074159746:=0
noncomputable def tw13301064612474234798:=0
noncomputable def tw17389301508517780208:=0
noncomputable def tw11384665012257151339:=0
noncomputable def tw9358563746971212293:=0
noncomputable def tw5926200252783149491:=0
noncomputable def tw15277331032824742388:=0
noncomputable def tw15410661522647629406:=0
noncomputable def tw6633927722081921080:=0
noncomputable def tw15027038804434713162:=0
noncomputable def tw8113200053381121358:=0
noncomputable def tw12275076093743190111:=0
noncomputable def tw11314348577010966498:=0
noncomputable def tw8036944870792284071:=0
noncomputable def tw17858367157249335108:=0
noncomputable def tw16548466828866500004:=0
noncomputable def tw4143457999367685185:=0
noncomputable def tw13786376999012007579:=0
noncomputable def tw13178793966154143474:=0
noncomputable def tw14952962038545678721:=0
noncomputable def tw17550493104826146576:=0
noncomputable def tw18226997941700346170:=0
noncomputable def tw616447594421056718:=0
noncomputable def tw10543111665362252767:=0
noncomputable def tw6186801881095170971:=0
noncomputable def tw12790445683165097897:=0
noncomputable def tw12121520279863330333:=0
noncomputable def tw10354860288962992539:=0
noncomputable def tw616644116237261620:=0
noncomputable def tw1242175638706248668:=0
noncomputable def tw16742856261932903450:=0
noncomputable def tw4340398542304840474:=0
noncomputable def tw3562389224679949621:=0
noncomputable def tw12937492863832925363:=0
noncomputable def tw14526110709407234152:=0
noncomputable def tw10955785010962520912:=0
noncomputable def tw9774262342312970113:=0
noncomputable def tw7905902441007838734:=0
noncomputable def tw4967446083622772939:=0
noncomputable def tw6494402146334779841:=0
noncomputable def tw3720095861293519091:=0
noncomputable def tw15012289410535870416:=0
noncomputable def tw677679642833392695:=0
noncomputable def tw4992829962114799921:=0
noncomputable def tw2295126681955718309:=0
noncomputable def tw17815244213537552187:=0
noncomputable def tw16441853322890000995:=0
noncomputable def tw13995521583071961147:=0
noncomputable def tw17529106690567735500:=0
noncomputable def tw2423403967533473609:=0
noncomputable def tw17291605976860817448:=0
noncomputable def tw8482605147977171304:=0
noncomputable def tw3195433449813841083:=0
noncomputable def tw9749854637289832194:=0
noncomputable def tw13190914695832133274:=0
noncomputable def tw12155255705041984971:=0
noncomputable def tw4846607314975772529:=0
noncomputable def tw1456207184158857799:=0
noncomputable def tw2489908625235541646:=0
noncomputable def tw5549533481787424258:=0
noncomputable def tw820572912250387503:=0
noncomputable def tw3250568611336048472:=0
noncomputable def tw13183845474076336068:=0
noncomputable def tw7982296187442699621:=0
noncomputable def tw12933155792999487607:=0
noncomputable def tw10743993025212751946:=0
noncomputable def tw4956843811646488002:=0
noncomputable def tw10781835443241054198:=0
noncomputable def tw96743837859664992:=0
noncomputable def tw704374743758014463:=0
noncomputable def tw16829165295864613687:=0
noncomputable def tw17433960951616616577:=0
noncomputable def tw15686999239501511226:=0
noncomputable def tw16097241840635676348:=0
noncomputable def tw4523293461269893323:=0
noncomputable def tw12038488311966632772:=0
noncomputable def tw9896885331466352387:=0
noncomputable def tw1853897843715972844:=0
noncomputable def tw10532558045750311083:=0
noncomputable def tw15658126443172591679:=0
noncomputable def tw10565877364262226107:=0
noncomputable def tw963769546154173121:=0
noncomputable def tw9532936847313341982:=0
noncomputable def tw13464192196345144196:=0
noncomputable def tw8700582082420812986:=0
noncomputable def tw11648977695515954901:=0
noncomputable def tw8894629062520900355:=0
noncomputable def tw6942313125120522727:=0
noncomputable def tw12560124236149472392:=0
noncomputable def tw11140371500880574991:=0
noncomputable def tw11893729744128258035:=0
noncomputable def tw4133915892204685214:=0
noncomputable def tw8421839726200338452:=0
noncomputable def tw15771141908524918212:=0
noncomputable def tw14410576427013922871:=0
noncomputable def tw10971002249184340470:=0
noncomputable def tw13148297580984510111:=0
noncomputable def tw3061021716146747531:=0
noncomputable def tw13269403699819181331:=0
noncomputable def tw15509007338822081463:=0
noncomputable def tw14496194298241133332:=0
noncomputable def tw8922091861376020786:=0
noncomputable def tw1988332961436489683:=0
noncomputable def tw3101885479582531327:=0
noncomputable def tw12431330177486201034:=0
noncomputable def tw13514092066324609266:=0
noncomputable def tw8210783856181291184:=0
noncomputable def tw10340651408062462208:=0
noncomputable def tw14673918291617099252:=0
noncomputable def tw4637395350164570580:=0
noncomputable def tw11316817098313494265:=0
noncomputable def tw4281954820386300000:=0
noncomputable def tw2819071461708071868:=0
noncomputable def tw468234896932624178:=0
noncomputable def tw14114138183232944018:=0
noncomputable def tw5360516834181767307:=0
noncomputable def tw15559912661498966765:=0
noncomputable def tw8212137054517694739:=0
noncomputable def tw13244880001462769280:=0
noncomputable def tw12535771555452863901:=0
noncomputable def tw6820238943811957258:=0
noncomputable def tw10136273210974032872:=0
noncomputable def tw6748179891908133950:=0
noncomputable def tw325231906343811519:=0
noncomputable def tw15310591691519078226:=0
noncomputable def tw3901845025206664777:=0
noncomputable def tw17107903421105355041:=0
noncomputable def tw4140318159610343857:=0
noncomputable def tw3386878568153130374:=0
noncomputable def tw6477044429668115212:=0
noncomputable def tw5978353579435239328:=0
noncomputable def tw7382812322242709662:=0
noncomputable def tw11811495322275926246:=0
noncomputable def tw14202965598257723751:=0
noncomputable def tw3050165284869644959:=0
noncomputable def tw12686923736971048562:=0
noncomputable def tw5169747774083338533:=0
noncomputable def tw15116946936377403978:=0
noncomputable def tw15855097725813573404:=0
noncomputable def tw16532468212919120201:=0
noncomputable def tw3899212720406368390:=0
noncomputable def tw10577819268350846282:=0
noncomputable def tw12215887475013843531:=0
noncomputable def tw4699847273836605459:=0
noncomputable def tw8110300183396000836:=0
noncomputable def tw7484039742765507690:=0
noncomputable def tw13769365130691495674:=0
noncomputable def tw12845791233996284918:=0
noncomputable def tw4441649606031444380:=0
noncomputable def tw4780311897560080675:=0
noncomputable def tw4528436374701878581:=0
noncomputable def tw14061844516385223155:=0
noncomputable def tw9005319597913714382:=0
noncomputable def tw16073237088902951926:=0
noncomputable def tw3556578669335224505:=0
noncomputable def tw12144995527054171161:=0
noncomputable def tw14034860202039568351:=0
noncomputable def tw14989250223952237605:=0
noncomputable def tw4472980864193771143:=0
noncomputable def tw11228643440111585646:=0
noncomputable def tw9351824989014814079:=0
noncomputable def tw6835925344167804432:=0
noncomputable def tw2903124088160178836:=0
noncomputable def tw801581754442743412:=0
noncomputable def tw9108531949999887787:=0
noncomputable def tw1414986451087282797:=0
noncomputable def tw14183949993316408950:=0
noncomputable def tw3539252028588317030:=0
noncomputable def tw15662525540467076213:=0
noncomputable def tw16967558062369700573:=0
noncomputable def tw5336042404315133611:=0
noncomputable def tw8279066608328902676:=0
noncomputable def tw4411914001686708739:=0
noncomputable def tw16686665801060806920:=0
noncomputable def tw11513260319102458647:=0
noncomputable def tw15531623562113322605:=0
noncomputable def tw8010841827092754879:=0
noncomputable def tw15559238586033588209:=0
noncomputable def tw8895512748428599732:=0
noncomputable def tw1288457343371176986:=0
noncomputable def tw14185717289570702944:=0
noncomputable def tw2142122209092089620:=0
noncomputable def tw3401766987178505688:=0
noncomputable def tw9979938295603089471:=0
noncomputable def tw14503572127016020276:=0
noncomputable def tw5356823562520414167:=0
noncomputable def tw5980726607619043571:=0
noncomputable def tw17160468405689551843:=0
noncomputable def tw196873715024455316:=0
noncomputable def tw5726904654761811862:=0
noncomputable def tw9068947446011550371:=0
noncomputable def tw9750615996850888077:=0
noncomputable def tw9800067602652485239:=0
noncomputable def tw9699327260465742453:=0
noncomputable def tw335646707466605257:=0
noncomputable def tw2768738782488540051:=0
noncomputable def tw3283398175248820086:=0
noncomputable def tw17880815725457303581:=0
noncomputable def tw5525815334611369286:=0
noncomputable def tw9518779315280319668:=0
noncomputable def tw17647254411180876958:=0
noncomputable def tw13560134354657288602:=0
noncomputable def tw10726902189644273397:=0
noncomputable def tw2094362204679339385:=0
noncomputable def tw10592009390253864960:=0
noncomputable def tw11213233964062838842:=0
noncomputable def tw888486684049448805:=0
noncomputable def tw10459318156853875354:=0
noncomputable def tw7508777340382291942:=0
noncomputable def tw2316743506105387456:=0
noncomputable def tw17876025955125319765:=0
noncomputable def tw13517269413974403465:=0
noncomputable def tw1852830692937815377:=0
noncomputable def tw14337808932338730479:=0
noncomputable def tw2351837542095152376:=0
noncomputable def tw17777309409689588477:=0
noncomputable def tw16846378097170359486:=0
noncomputable def tw7380135133285154562:=0
noncomputable def tw13887784459301977259:=0
noncomputable def tw13049216246378269331:=0
noncomputable def tw12650633320312337349:=0
noncomputable def tw14126477326812601137:=0
noncomputable def tw17767087418698721539:=0
noncomputable def tw3731471888917988825:=0
noncomputable def tw13613910115235958144:=0
noncomputable def tw2460173623678695495:=0
noncomputable def tw13429964986700581903:=0
noncomputable def tw10371311831040088173:=0
noncomputable def tw4078986553355196796:=0
noncomputable def tw12754080586058638868:=0
noncomputable def tw5170960025923147332:=0
noncomputable def tw3685188139992400660:=0
noncomputable def tw5808552922671131810:=0
noncomputable def tw16011043524972814178:=0
noncomputable def tw2865277230215414900:=0
noncomputable def tw8708305266449411256:=0
noncomputable def tw18426826254233645801:=0
noncomputable def tw11719643923480728351:=0
noncomputable def tw8930664195487630317:=0
noncomputable def tw7301764008498197017:=0
noncomputable def tw15964954656638480757:=0
noncomputable def tw17173359075219843066:=0
noncomputable def tw4295139519547723205:=0
noncomputable def tw13239577254642461370:=0
noncomputable def tw5198148069264451934:=0
noncomputable def tw10110882476216428549:=0
noncomputable def tw8353325124510426987:=0
noncomputable def tw3306938959145459191:=0
noncomputable def tw5813025957151924665:=0
noncomputable def tw10825837471306943104:=0
noncomputable def tw4315957368380681190:=0
noncomputable def tw14879291692306168703:=0
noncomputable def tw14618266545695484032:=0
noncomputable def tw13678477594930407878:=0
noncomputable def tw764928458259039832:=0
noncomputable def tw7716633035069466217:=0
noncomputable def tw3690617317329470505:=0
noncomputable def tw15133800900676053903:=0
noncomputable def tw14385712647808877037:=0
noncomputable def tw18367225516244667414:=0
noncomputable def tw15496894452521479311:=0
noncomputable def tw16127470111421502010:=0
noncomputable def tw1395645772634989669:=0
noncomputable def tw17652903343652762624:=0
noncomputable def tw9056664015853398774:=0
noncomputable def tw5239490002521333221:=0
noncomputable def tw15851837252891417772:=0
noncomputable def tw10875047392872886650:=0
noncomputable def tw13922234229053682759:=0
noncomputable def tw10532017127674631598:=0
noncomputable def tw4889918084621580262:=0
noncomputable def tw4434219986183436476:=0
noncomputable def tw17225826387539325956:=0
noncomputable def tw11974458101597682484:=0
noncomputable def tw5482057079253090615:=0
noncomputable def tw14270485936724068683:=0
noncomputable def tw8880556331719930533:=0
noncomputable def tw3008090853969266064:=0
noncomputable def tw12940727631864703541:=0
noncomputable def tw10515351430489081137:=0
noncomputable def tw17328380967733912919:=0
noncomputable def tw3786802417466180074:=0
noncomputable def tw9780058430471390559:=0
noncomputable def tw2422527296853002807:=0
noncomputable def tw2256211991763263490:=0
noncomputable def tw11584985415961288237:=0
noncomputable def tw119949352070090605:=0
noncomputable def tw6666386753193169436:=0
noncomputable def tw6998865293758812963:=0
noncomputable def tw11688647192532732512:=0
noncomputable def tw6456669901579483158:=0
noncomputable def tw2772655987288060995:=0
noncomputable def tw14507612153308158413:=0
noncomputable def tw4187046369246792836:=0
noncomputable def tw6568374883695578072:=0
noncomputable def tw6633989290675163810:=0
noncomputable def tw8747156192076461713:=0
noncomputable def tw14401488875102255617:=0
noncomputable def tw13617318929664491268:=0
noncomputable def tw8782594140969863920:=0
noncomputable def tw8192305281191948760:=0
noncomputable def tw5290795432904647679:=0
noncomputable def tw11553720500790369146:=0
noncomputable def tw11972842950760424385:=0
noncomputable def tw15373887579397771656:=0
noncomputable def tw10925419146935691779:=0
noncomputable def tw58113621129494325:=0
noncomputable def tw9905031356594318258:=0
noncomputable def tw1410040958953627194:=0
noncomputable def tw1842389778481829992:=0
noncomputable def tw10423442971317687941:=0
noncomputable def tw2464424581340331588:=0
noncomputable def tw14257553628161014296:=0
noncomputable def tw12338778032197567337:=0
noncomputable def tw17562803855646963467:=0
noncomputable def tw12693183990498855126:=0
noncomputable def tw4596019519601599628:=0
noncomputable def tw2334440261914538:=0
noncomputable def tw1417774200120777760:=0
noncomputable def tw1988243471762687948:=0
noncomputable def tw13301975544127483988:=0
noncomputable def tw11814732596221249116:=0
noncomputable def tw7263237116678853539:=0
noncomputable def tw16231815849658705454:=0
noncomputable def tw11899876758978126299:=0
noncomputable def tw17964695852905700364:=0
noncomputable def tw7766909517902590786:=0
noncomputable def tw8863139266804278356:=0
noncomputable def tw14217262965615799692:=0
noncomputable def tw16250517802752084509:=0
noncomputable def tw10928172019477983557:=0
noncomputable def tw2026014973936809361:=0
noncomputable def tw2234557707978562708:=0
noncomputable def tw4179052490129489164:=0
noncomputable def tw8078619674793180252:=0
noncomputable def tw5797013570547768996:=0
noncomputable def tw15306736224028079703:=0
noncomputable def tw11941867128291689556:=0
noncomputable def tw11398084416381652081:=0
noncomputable def tw382112549279519142:=0
noncomputable def tw15483831221262068098:=0
noncomputable def tw13164449608983849257:=0
noncomputable def tw11802425468685518049:=0
noncomputable def tw12013968397704355931:=0
noncomputable def tw11540043943692084283:=0
noncomputable def tw9486126594279609147:=0
noncomputable def tw10618703498340961082:=0
noncomputable def tw7068166960866179860:=0
noncomputable def tw9992656127723609104:=0
noncomputable def tw13238469672934898472:=0
noncomputable def tw12373101519275159293:=0
noncomputable def tw15807811726425434568:=0
noncomputable def tw15702441583906599382:=0
noncomputable def tw7362245953066185353:=0
noncomputable def tw4241028799736574487:=0
noncomputable def tw8771933204185219467:=0
noncomputable def tw11389833858582236805:=0
noncomputable def tw3385843749798302629:=0
noncomputable def tw2696654552720132827:=0
noncomputable def tw4684778143614611030:=0
noncomputable def tw16365197283782050724:=0
noncomputable def tw12398442793019003867:=0
noncomputable def tw1224702228668793007:=0
noncomputable def tw16994577382950217027:=0
noncomputable def tw8437347517313009792:=0
noncomputable def tw730516220472639067:=0
noncomputable def tw15047872840229483940:=0
noncomputable def tw6731842773342564509:=0
noncomputable def tw12291473403599662249:=0
noncomputable def tw13184356994594649992:=0
noncomputable def tw8677008640234508321:=0
noncomputable def tw3049160871760088740:=0
noncomputable def tw17003739825499637343:=0
noncomputable def tw2760589884815319242:=0
noncomputable def tw3984332495107602610:=0
noncomputable def tw16765925728869657214:=0
noncomputable def tw6188706371489418361:=0
noncomputable def tw3032922998019390016:=0
noncomputable def tw8807670457984370169:=0
noncomputable def tw12762282518893729561:=0
noncomputable def tw14693708472638150369:=0
noncomputable def tw2377688755326971652:=0
noncomputable def tw16402851759496235501:=0
noncomputable def tw12875268583467846462:=0
noncomputable def tw13432567676231595924:=0
noncomputable def tw14994606631665138396:=0
noncomputable def tw2111450501980731375:=0
noncomputable def tw1422890667418260914:=0
noncomputable def tw16013048539829327139:=0
noncomputable def tw16564622912381443225:=0
noncomputable def tw3775239166768330115:=0
noncomputable def tw17879997721050873012:=0
noncomputable def tw18062482959711086450:=0
noncomputable def tw12797175840531772557:=0
noncomputable def tw14896764342537892668:=0
noncomputable def tw18359699882746122789:=0
noncomputable def tw6348411861486515814:=0
noncomputable def tw17544082404314700937:=0
noncomputable def tw10180277533717377545:=0
noncomputable def tw16832911529578535033:=0
noncomputable def tw13410217504563987435:=0
noncomputable def tw4190760749005192727:=0
noncomputable def tw4332302423031962557:=0
noncomputable def tw13360168326913747051:=0
noncomputable def tw604663071906034447:=0
noncomputable def tw18201262355214488732:=0
noncomputable def tw11166984910843929097:=0
noncomputable def tw8246997283499951453:=0
noncomputable def tw5715734291534096798:=0
noncomputable def tw6258920957955704303:=0
noncomputable def tw9913616765998618116:=0
noncomputable def tw13929066268391908492:=0
noncomputable def tw626278236418120453:=0
noncomputable def tw16283625002320355125:=0
noncomputable def tw10307464458947782641:=0
noncomputable def tw5633211763024760631:=0
noncomputable def tw15321242399937615503:=0
noncomputable def tw1879338703328109112:=0
noncomputable def tw2772292774359029045:=0
noncomputable def tw13562945801144550226:=0
noncomputable def tw7131673732218749034:=0
noncomputable def tw8639534978591965728:=0
noncomputable def tw17429372708883103217:=0
noncomputable def tw432743815172859876:=0
noncomputable def tw18280805326460232956:=0
noncomputable def tw1208894980500561039:=0
noncomputable def tw15216891295302562803:=0
noncomputable def tw5495134459765045442:=0
noncomputable def tw6078893529370887653:=0
noncomputable def tw6996623344919709667:=0
noncomputable def tw4657588720154441240:=0
noncomputable def tw1026763702368819218:=0
noncomputable def tw9440322793095822699:=0
noncomputable def tw16295953324440131285:=0
noncomputable def tw13014052804350422376:=0
noncomputable def tw7168937755299043354:=0
noncomputable def tw4427361211790413340:=0
noncomputable def tw18287712889211013697:=0
noncomputable def tw17951225422777544768:=0
noncomputable def tw2050114786164459756:=0
noncomputable def tw3749250728305821909:=0
noncomputable def tw11354689156847134235:=0
noncomputable def tw421342895110745962:=0
noncomputable def tw5105214085523790430:=0
noncomputable def tw3775115300595391680:=0
noncomputable def tw13712929468694136631:=0
noncomputable def tw5087630698916881123:=0
noncomputable def tw11245017906013880336:=0
noncomputable def tw3131010810313621532:=0
noncomputable def tw18353761787720482012:=0
noncomputable def tw7970107826714606865:=0
noncomputable def tw7904997347950830255:=0
noncomputable def tw8597624410174797941:=0
noncomputable def tw13655362294981579697:=0
noncomputable def tw9880456831407882921:=0
noncomputable def tw12839256849916958711:=0
noncomputable def tw18167055371340054003:=0
noncomputable def tw17146568139641187692:=0
noncomputable def tw9822250239310275664:=0
noncomputable def tw10106735185856551510:=0
noncomputable def tw1973861010677619621:=0
noncomputable def tw7975803982965825443:=0
noncomputable def tw826525623035847958:=0
noncomputable def tw14980501760110189647:=0
noncomputable def tw14969704143928605293:=0
noncomputable def tw7523505841127046536:=0
noncomputable def tw15920218803674194910:=0
noncomputable def tw15631754996344376972:=0
noncomputable def tw7087850475645848952:=0
noncomputable def tw6106043963579975500:=0
noncomputable def tw6666617369813128817:=0
noncomputable def tw9750475080346851223:=0
noncomputable def tw13574999994754424251:=0
noncomputable def tw6691863243620705344:=0
noncomputable def tw2578195031887129970:=0
noncomputable def tw1034714289108223927:=0
noncomputable def tw1555216155359612121:=0
noncomputable def tw6917938020242337942:=0
noncomputable def tw10316727403941838633:=0
noncomputable def tw16553528901490023466:=0
noncomputable def tw12517690683497287719:=0
noncomputable def tw11801964704219415211:=0
noncomputable def tw6151491586166298611:=0
noncomputable def tw8590790203747912390:=0
noncomputable def tw8673539674484695606:=0
noncomputable def tw2175493229213732015:=0
noncomputable def tw13501189704856324860:=0
noncomputable def tw5812859801508913865:=0
noncomputable def tw11476349045137098773:=0
noncomputable def tw2234718908922147427:=0
noncomputable def tw9027073551305839227:=0
noncomputable def tw13614807636280321203:=0
noncomputable def tw11059837305323212498:=0
noncomputable def tw11231151313317939667:=0
noncomputable def tw6546584390529326402:=0
noncomputable def tw10866607170674833069:=0
noncomputable def tw18049041644962655658:=0
noncomputable def tw13246425205427825108:=0
noncomputable def tw17321170484584367970:=0
noncomputable def tw7407292798837814704:=0
noncomputable def tw15669450223159665999:=0
noncomputable def tw10308781895143540088:=0
noncomputable def tw2401199416503911400:=0
noncomputable def tw17058809591390928998:=0
noncomputable def tw5204626554272463337:=0
noncomputable def tw10094825893242733614:=0
noncomputable def tw3270830284948380821:=0
noncomputable def tw11250179436583958650:=0
noncomputable def tw5029489853705940325:=0
noncomputable def tw1412328077059066122:=0
noncomputable def tw8560745337664479967:=0
noncomputable def tw9516515133039655003:=0
noncomputable def tw4830298307567409495:=0
noncomputable def tw5727077230148849627:=0
noncomputable def tw12651157481609269766:=0
noncomputable def tw10812075781352963161:=0
noncomputable def tw12104954003275946908:=0
noncomputable def tw11376711680691026224:=0
noncomputable def tw11363229500530044299:=0
noncomputable def tw18178991967279384483:=0
noncomputable def tw14589534882219158305:=0
noncomputable def tw14439926272193327660:=0
noncomputable def tw17009189616063407105:=0
noncomputable def tw16288222692637410425:=0
noncomputable def tw2844045631707802984:=0
noncomputable def tw6464498085238844303:=0
noncomputable def tw2050083830622781237:=0
noncomputable def tw7565672923548304521:=0
noncomputable def tw18389474481335217770:=0
noncomputable def tw4869204347987384576:=0
noncomputable def tw4549854700881711738:=0
noncomputable def tw17213674731409807476:=0
noncomputable def tw4670003476589423217:=0
noncomputable def tw9751493609859445046:=0
noncomputable def tw13416854966463373434:=0
noncomputable def tw13795912309793463543:=0
noncomputable def tw10474075387211385186:=0
noncomputable def tw15469224025138922264:=0
noncomputable def tw1403940530436562761:=0
noncomputable def tw6772201918759086603:=0
noncomputable def tw11805497027035237624:=0
noncomputable def tw920998712846209682:=0
noncomputable def tw17755715268553709582:=0
noncomputable def tw2631897624381993400:=0
noncomputable def tw7211485119070044285:=0
noncomputable def tw1636765487668167028:=0
noncomputable def tw18200250230792854297:=0
noncomputable def tw17401094499074712601:=0
noncomputable def tw11695338220889028496:=0
noncomputable def tw10770671539352174119:=0
noncomputable def tw10523557481342157412:=0
noncomputable def tw6403758721934085159:=0
noncomputable def tw2757515512015396411:=0
noncomputable def tw9419249756566001371:=0
noncomputable def tw10182313933553531606:=0
noncomputable def tw3980473434808690830:=0
noncomputable def tw13971519516898815244:=0
noncomputable def tw3251101819083354579:=0
noncomputable def tw13013733014106171989:=0
noncomputable def tw6675193661748460085:=0
noncomputable def tw17678896315538616814:=0
noncomputable def tw17567930446758507419:=0
noncomputable def tw6211107250734233487:=0
noncomputable def tw7360272158341685224:=0
noncomputable def tw11041610410511050136:=0
noncomputable def tw14417372839753166285:=0
noncomputable def tw8835565810319649168:=0
noncomputable def tw13776367061283668816:=0
noncomputable def tw8529986405677372839:=0
noncomputable def tw9936333201715543978:=0
noncomputable def tw13158349687940191791:=0
noncomputable def tw17044373222506961531:=0
noncomputable def tw14212145011520799648:=0
noncomputable def tw16937123348637413465:=0
noncomputable def tw17153812650888892024:=0
noncomputable def tw5348295183731315620:=0
noncomputable def tw18028187309323141410:=0
noncomputable def tw241995871004775105:=0
noncomputable def tw8546446092288180628:=0
noncomputable def tw8147513100594329515:=0
noncomputable def tw12363416984532632127:=0
noncomputable def tw2679916431172954274:=0
noncomputable def tw10976693630134978872:=0
noncomputable def tw649999714777910295:=0
noncomputable def tw14633815428090948840:=0
noncomputable def tw5786994530230766518:=0
noncomputable def tw15260740776222270157:=0
noncomputable def tw13531738464833647716:=0
noncomputable def tw4700733565594785693:=0
noncomputable def tw16855954174786732441:=0
noncomputable def tw5402657200103735215:=0
noncomputable def tw532604761107553077:=0
noncomputable def tw18039585157555425156:=0
noncomputable def tw15480299475722750589:=0
noncomputable def tw15949478119117707998:=0
noncomputable def tw13955579015524561633:=0
noncomputable def tw249385537777422356:=0
noncomputable def tw11862624332224205611:=0
noncomputable def tw15201325287284755257:=0
noncomputable def tw12127337542785492369:=0
noncomputable def tw11163406633795751479:=0
noncomputable def tw3508501722050461067:=0
noncomputable def tw16284692098577535302:=0
noncomputable def tw7308144518532995276:=0
noncomputable def tw4495687511067667852:=0
noncomputable def tw13939310530225532358:=0
noncomputable def tw16189613006105360669:=0
noncomputable def tw4907656373959227626:=0
noncomputable def tw439277371194429203:=0
noncomputable def tw7416534589944594886:=0
noncomputable def tw3760991987667737374:=0
noncomputable def tw17603343670109583843:=0
noncomputable def tw8768665219868753234:=0
noncomputable def tw7152221613668695294:=0
noncomputable def tw3011770836189284436:=0
noncomputable def tw10486816898818042756:=0
noncomputable def tw17277640864884037012:=0
noncomputable def tw14068954045453545115:=0
noncomputable def tw3440538846287497969:=0
noncomputable def tw9096286089121931493:=0
noncomputable def tw7549904482110909174:=0
noncomputable def tw6488304382752427884:=0
noncomputable def tw17734597260976688446:=0
noncomputable def tw4646962857282494316:=0
noncomputable def tw4531339489885147711:=0
noncomputable def tw17833571849063415131:=0
noncomputable def tw4643064569010965144:=0
noncomputable def tw6679614911118567006:=0
noncomputable def tw18039761264020228761:=0
noncomputable def tw13823821997640451092:=0
noncomputable def tw2385525681447873206:=0
noncomputable def tw1313912085899096230:=0
noncomputable def tw13522963273906331898:=0
noncomputable def tw10219130316565986083:=0
noncomputable def tw8782996677771792073:=0
noncomputable def tw17561838950870940307:=0
noncomputable def tw6936877950695630558:=0
noncomputable def tw1608650631317260894:=0
noncomputable def tw6539455522137566923:=0
noncomputable def tw14505985377579016188:=0
noncomputable def tw11076559900279576335:=0
noncomputable def tw1457616022952641239:=0
noncomputable def tw4144019668197812496:=0
noncomputable def tw594556610592347679:=0
noncomputable def tw5077764198103976729:=0
noncomputable def tw882673210318106458:=0
noncomputable def tw8748834136646021950:=0
noncomputable def tw11116850696792313223:=0
noncomputable def tw13556486893179628860:=0
noncomputable def tw12072970323563719978:=0
noncomputable def tw6052505752755981195:=0
noncomputable def tw9039473193252368815:=0
noncomputable def tw8442043964891373642:=0
noncomputable def tw3242251348212792469:=0
noncomputable def tw11224982783484757638:=0
noncomputable def tw11975696633310039173:=0
noncomputable def tw6414148805957740749:=0
noncomputable def tw1112674027907099031:=0
noncomputable def tw304769995332899478:=0
noncomputable def tw16012490264708059282:=0
noncomputable def tw3193671063501053481:=0
noncomputable def tw17935724789575901538:=0
noncomputable def tw8615843738779722871:=0
noncomputable def tw13935812786693436052:=0
noncomputable def tw1154390553744927638:=0
noncomputable def tw6389041652192868845:=0
noncomputable def tw2175587779100445061:=0
noncomputable def tw17924719497392850538:=0
noncomputable def tw3120794539209155800:=0
noncomputable def tw9024203390315991213:=0
noncomputable def tw14724070393886349306:=0
noncomputable def tw15226802456873034363:=0
noncomputable def tw1660453727182422057:=0
noncomputable def tw14160465037043876897:=0
noncomputable def tw4155782549878530852:=0
noncomputable def tw13668578054356199273:=0
noncomputable def tw1112991306847249234:=0
noncomputable def tw1550447876527946171:=0
noncomputable def tw14831868436650268584:=0
noncomputable def tw12168228915682138685:=0
noncomputable def tw10551092884416253158:=0
noncomputable def tw970552516696412680:=0
noncomputable def tw9594582010994614874:=0
noncomputable def tw5549387573772222296:=0
noncomputable def tw15707268792184501987:=0
noncomputable def tw8101152182488101396:=0
noncomputable def tw550598237585079778:=0
noncomputable def tw5253161769290629807:=0
noncomputable def tw18386833781871507054:=0
noncomputable def tw3164738593517032568:=0
noncomputable def tw16841605525256026344:=0
noncomputable def tw14640306770651249270:=0
noncomputable def tw14490004406362303555:=0
noncomputable def tw3154825000613072893:=0
noncomputable def tw2285172218475394222:=0
noncomputable def tw10761430498510178068:=0
noncomputable def tw4396798457387003946:=0
noncomputable def tw10539698989179266327:=0
noncomputable def tw13579367259801375114:=0
noncomputable def tw3857692258004470158:=0
noncomputable def tw10284199823888598922:=0
noncomputable def tw8161571090731554939:=0
noncomputable def tw8886037660423859787:=0
noncomputable def tw5548931154621014550:=0
noncomputable def tw3641435961419705086:=0
noncomputable def tw9171439429636260222:=0
noncomputable def tw6881663561401325681:=0
noncomputable def tw10353458637882317999:=0
noncomputable def tw17073717437888155108:=0
noncomputable def tw17124020085975604254:=0
noncomputable def tw12362774934471651368:=0
noncomputable def tw13943220113391362891:=0
noncomputable def tw12303477585150895417:=0
noncomputable def tw15397390538895473520:=0
noncomputable def tw6627093290189886365:=0
noncomputable def tw334509610239784948:=0
noncomputable def tw18094308053077424786:=0
noncomputable def tw15334271379168293521:=0
noncomputable def tw6359009948528584882:=0
noncomputable def tw17635142504303811556:=0
noncomputable def tw18446117040616640895:=0
noncomputable def tw4553757639669726688:=0
noncomputable def tw13646112185365760158:=0
noncomputable def tw10084765939409998258:=0
noncomputable def tw2427972339521879288:=0
noncomputable def tw17376328822743104839:=0
noncomputable def tw9096089858220326915:=0
noncomputable def tw5384161144028627145:=0
noncomputable def tw10720627363019599017:=0
noncomputable def tw17376588286502793762:=0
noncomputable def tw79053846808937483:=0
noncomputable def tw444044061215904394:=0
noncomputable def tw414205690383064682:=0
noncomputable def tw4073121702363252242:=0
noncomputable def tw2503186311714370164:=0
noncomputable def tw12857379762544473749:=0
noncomputable def tw4487084026719338274:=0
noncomputable def tw14488643048113635109:=0
noncomputable def tw6513628325156446732:=0
noncomputable def tw3462546605731800956:=0
noncomputable def tw16295353109085659846:=0
noncomputable def tw11923112939231802442:=0
noncomputable def tw3037161003393016052:=0
noncomputable def tw10560735806693087697:=0
noncomputable def tw2910039723433922604:=0
noncomputable def tw16251916254915068083:=0
noncomputable def tw3369445649490524984:=0
noncomputable def tw11338147150832415909:=0
noncomputable def tw12453840570814016021:=0
noncomputable def tw18409090317436657262:=0
noncomputable def tw13786266402429079632:=0
noncomputable def tw3133893153533826900:=0
noncomputable def tw13468103669916591258:=0
noncomputable def tw9570177252943414484:=0
noncomputable def tw10280875592044948539:=0
noncomputable def tw18106326442409455860:=0
noncomputable def tw6269136490049585447:=0
noncomputable def tw5733686834056285762:=0
noncomputable def tw17857260884290432928:=0
noncomputable def tw8868118621340848949:=0
noncomputable def tw18191223307897195119:=0
noncomputable def tw4090613940259499297:=0
noncomputable def tw14618030153986477956:=0
noncomputable def tw1897466938681905338:=0
noncomputable def tw3088849372612811791:=0
noncomputable def tw7935664401427772875:=0
noncomputable def tw15504750930967318905:=0
noncomputable def tw15059083205424221427:=0
noncomputable def tw6547464989361883075:=0
noncomputable def tw11435930890691490529:=0
noncomputable def tw12499222334474584340:=0
noncomputable def tw3908666718989261175:=0
noncomputable def tw16727486721979506813:=0
noncomputable def tw1526850246979979794:=0
noncomputable def tw9530999287287561563:=0
noncomputable def tw16623106060557147843:=0
noncomputable def tw7836427339946822454:=0
noncomputable def tw10328412759519556666:=0
noncomputable def tw3927670119762691750:=0
noncomputable def tw13444319540363688900:=0
noncomputable def tw547258864246173662:=0
noncomputable def tw4333168245287180093:=0
noncomputable def tw18295954433977804924:=0
noncomputable def tw6578126250614471891:=0
noncomputable def tw2390523557313406585:=0
noncomputable def tw7208305829769319234:=0
noncomputable def tw12846606410496499270:=0
noncomputable def tw3476792479120764958:=0
noncomputable def tw18362886353961868310:=0
noncomputable def tw4555320833971020468:=0
noncomputable def tw18125252841882120233:=0
noncomputable def tw5352273024274033483:=0
noncomputable def tw8817568267429624485:=0
noncomputable def tw14619195468403563690:=0
noncomputable def tw900881548769364979:=0
noncomputable def tw16135819208055572405:=0
noncomputable def tw9656173044543137652:=0
noncomputable def tw12796272103839250749:=0
noncomputable def tw13552553564309963357:=0
noncomputable def tw5236625234356923625:=0
noncomputable def tw3873035248682705285:=0
noncomputable def tw1184260341794656060:=0
noncomputable def tw736721706281934591:=0
noncomputable def tw1603767967274725610:=0
noncomputable def tw3410152236882991194:=0
noncomputable def tw15247208557440350780:=0
noncomputable def tw1982876718850996269:=0
noncomputable def tw688056091464570287:=0
noncomputable def tw4842330507913632197:=0
noncomputable def tw9658970349296558648:=0
noncomputable def tw3480190729043590667:=0
noncomputable def tw13597896361940630673:=0
noncomputable def tw2294079643119659451:=0
noncomputable def tw11334465792236126437:=0
noncomputable def tw6931811733844406074:=0
noncomputable def tw10944609309445836271:=0
noncomputable def tw5454044540761338738:=0
noncomputable def tw11779051179005143335:=0
noncomputable def tw18223065961867002556:=0
noncomputable def tw9782124111853223418:=0
noncomputable def tw10379974721534515850:=0
noncomputable def tw6018921843944578219:=0
noncomputable def tw6956007760915616489:=0
noncomputable def tw6098640929594890513:=0
noncomputable def tw10160273407180966120:=0
noncomputable def tw17802199596619075361:=0
noncomputable def tw7462264177587169630:=0
noncomputable def tw5743996064279817907:=0
noncomputable def tw9138062242791989413:=0
noncomputable def tw16583410823970469014:=0
noncomputable def tw6370282854643396924:=0
noncomputable def tw5160315468441466212:=0
noncomputable def tw13082131227361762363:=0
noncomputable def tw2207353751141179340:=0
noncomputable def tw1336892276335992927:=0
noncomputable def tw2010463617528723846:=0
noncomputable def tw14983394815924131870:=0
noncomputable def tw4359008766634832277:=0
noncomputable def tw17942463998537947168:=0
noncomputable def tw2540328248413287487:=0
noncomputable def tw17186583017851665513:=0
noncomputable def tw10267325489192613452:=0
noncomputable def tw3345762888294721205:=0
noncomputable def tw6801859641480467447:=0
noncomputable def tw16671407320305331323:=0
noncomputable def tw13051684785108348832:=0
noncomputable def tw9725765348641430446:=0
noncomputable def tw1061485611876797738:=0
noncomputable def tw7800338140619553263:=0
noncomputable def tw3578765194379630987:=0
noncomputable def tw2155998922870549506:=0
noncomputable def tw9351288534023974007:=0
noncomputable def tw5425661979107055540:=0
noncomputable def tw10015420470699798018:=0
noncomputable def tw4878761429553934483:=0
noncomputable def tw12571788793744655646:=0
noncomputable def tw15202080230580710646:=0
noncomputable def tw18222950707150695000:=0
noncomputable def tw15317347785948097970:=0
noncomputable def tw9948030124856851538:=0
noncomputable def tw9448612080359053771:=0
noncomputable def tw4547704959562706667:=0
noncomputable def tw976965436667339038:=0
noncomputable def tw2848341748670308437:=0
noncomputable def tw10168248631321221086:=0
noncomputable def tw13610440836441968614:=0
noncomputable def tw16207979517813661336:=0
noncomputable def tw15966284344683616872:=0
noncomputable def tw9157112042100614684:=0
noncomputable def tw15493129398260681231:=0
noncomputable def tw17712620599597755441:=0
noncomputable def tw16649322179716297473:=0
noncomputable def tw14466754400036816573:=0
noncomputable def tw6833577727581340199:=0
noncomputable def tw9730278103185140890:=0
noncomputable def tw17019926117630784379:=0
noncomputable def tw8704298963250157157:=0
noncomputable def tw65887310555331095:=0
noncomputable def tw12867806939109901364:=0
noncomputable def tw3769117649784550374:=0
noncomputable def tw2650523607082304892:=0
noncomputable def tw443543362175719319:=0
noncomputable def tw7900418437262389955:=0
noncomputable def tw8567180409452373400:=0
noncomputable def tw3920454580998911674:=0
noncomputable def tw1522668422701967131:=0
noncomputable def tw15235600892438249555:=0
noncomputable def tw4142393432820052160:=0
noncomputable def tw17545103652100467565:=0
noncomputable def tw17181593558413363827:=0
noncomputable def tw16616380256204691721:=0
noncomputable def tw1902007409967343618:=0
noncomputable def tw7642968979889893120:=0
end PySem.W.Fast
def Nb.vw:PySem.Program:={ Nb.pwv with main:={ Nb.pwv.main with body:=[Nb.htop 2,Nb.htop 3,Nb.htop 4,Nb.htop 5,Nb.htop 161] } }
def Nb.lo:List PySem.Str:="_wall" :: "is_whole" :: "is_number_of" :: "is_pair" :: "NAMES" :: "BOUNDS" :: "NEEDS" :: "is_name" :: "is_formed" :: "is_within" :: "said_by" :: "needed_by" :: "is_row_of_book" :: "looked" :: "Facts" :: "choices" :: "negated" :: "work_rows" :: "room_rows" :: "store_rows" :: "after_number" :: "after_rows" :: "labelled" :: "problem_of" :: "plan_of" :: "single_row" :: "better_row" :: "sum_row" :: "share_row" :: "shut_row" :: "without" :: "either_row" :: "like_row" :: "Sheet" :: "named_by" :: "renumbered" :: "copied" :: "weighed" :: "parts_of" :: "cost_of" :: "most_of" :: "turned" :: "turn_keeps" :: "is_ahead" :: "is_part" :: "is_hold" :: "are_holds" :: "is_turn" :: "told_given" :: "told_low" :: "told_high" :: "told_better" :: "told_sum" :: "told_share" :: "told_shut" :: "told_either" :: "told_like" :: "LENGTHS" :: "TELLERS" :: "row_told" :: "rows_told" :: "HIGH" :: "LESS" :: "Branching" :: "divisor" :: "ratio" :: "PATIENCE" :: "renewed" :: "Tableau" :: "settle" :: "lowest" :: "exchanged" :: "counted" :: "may_exchange" :: "exchanges" :: "named" :: "Colours" :: "loose" :: "exchange_turn" :: "some_turns" :: "lowers" :: "put_steps" :: "PRIMES" :: "MANY" :: "share" :: "put_share" :: "scaled" :: "lack" :: "dividers" :: "share_of_one" :: "single_shares" :: "cleared" :: "in_ones" :: "combined" :: "prime_shares" :: "shares" :: "rests_on" :: "trimmed" :: "others" :: "Trail" :: "DEEDS" :: "ROUNDS" :: "AT_ONCE" :: "MEMORY" :: "TAKEN" :: "GREATEST" :: "CORNER_PATIENCE" :: "LIKES_PATIENCE" :: "common_part" :: "is_idle" :: "rows_of_use" :: "Knot" :: "search_from" :: "widened" :: "Carrier" :: "carried" :: "search_on" :: "brought_over" :: "answer_to" :: "rows_copied" :: "Desk" :: "_law_whole" :: "_law_mix" :: "_law_draws" :: "_law_name" :: "_law_book" :: "_law_way" :: "_law_deed" :: "_law_other" :: "_law_laid" :: "_law_looked" :: "_law_done" :: "_law_named" :: "_law_step" :: "_law_no_desk" :: []
local macro_rules | `(tactic| refine $f:ident (q:=$_) (loose:=$_) (Xt:=$_) (XP:=$_) $as*)=>`(tactic| refine $f:ident (loose:=Nb.lo) (q:=Nb.vw) (Xt:=fun s=>PySem.W.xlAt Nb.vw [] s && PySem.W.recOk (PySem.W.RowW.records (PySem.W.OpenRow.toRowW { PySem.Challenge.rw_nonebetter_k80_whole_desk.row with prog:=Nb.pwv })) s) (XP:=PySem.W.XL Nb.vw []) $as*)
open PySem PySem.W PyProof.Rows
set_option maxRecDepth 100000 in
set_option maxHeartbeats 0 in
theorem PySem.Challenge.cw_nonebetter_k80_whole_desk_holds : PySem.Challenge.rw_nonebetter_k80_whole_desk.Holds := by
 refine Nb.ws fun said=>?_;w_on;show PySem.W.OpenRow.Holds { PySem.Challenge.rw_nonebetter_k80_whole_desk.row with prog:=Nb.pwv };o_head (PySem.W.kHook Nb.heapK (nat_lit 3 :: nat_lit 30 :: nat_lit 31 :: nat_lit 43 :: nat_lit 44 :: nat_lit 55 :: nat_lit 56 :: nat_lit 71 :: nat_lit 72 :: nat_lit 74 :: nat_lit 75 :: nat_lit 83 :: nat_lit 84 :: nat_lit 90 :: nat_lit 91 :: nat_lit 99 :: nat_lit 100 :: nat_lit 101 :: nat_lit 102 :: nat_lit 103 :: nat_lit 104 :: nat_lit 105 :: nat_lit 106 :: nat_lit 107 :: nat_lit 108 :: nat_lit 109 :: nat_lit 110 :: nat_lit 111 :: nat_lit 112 :: nat_lit 113 :: nat_lit 114 :: nat_lit 115 :: nat_lit 116 :: nat_lit 117 :: nat_lit 118 :: nat_lit 119 :: nat_lit 120 :: nat_lit 121 :: nat_lit 122 :: nat_lit 123 :: nat_lit 124 :: nat_lit 125 :: nat_lit 126 :: nat_lit 127 :: nat_lit 128 :: nat_lit 129 :: nat_lit 130 :: nat_lit 131 :: nat_lit 132 :: nat_lit 133 :: nat_lit 134 :: nat_lit 135 :: nat_lit 136 :: nat_lit 137 :: nat_lit 138 :: nat_lit 139 :: nat_lit 140 :: nat_lit 141 :: nat_lit 142 :: nat_lit 143 :: nat_lit 144 :: nat_lit 145 :: nat_lit 146 :: nat_lit 147 :: nat_lit 148 :: nat_lit 149 :: nat_lit 150 :: nat_lit 151 :: nat_lit 155 :: nat_lit 156 :: nat_lit 160 :: nat_lit 161 :: nat_lit 167 :: nat_lit 168 :: nat_lit 174 :: nat_lit 175 :: nat_lit 179 :: nat_lit 180 :: nat_lit 184 :: nat_lit 185 :: nat_lit 191 :: nat_lit 192 :: nat_lit 1378 :: nat_lit 1379 :: nat_lit 1392 :: nat_lit 1393 :: nat_lit 1399 :: nat_lit 1400 :: nat_lit 1406 :: nat_lit 1407 :: nat_lit 1413 :: nat_lit 1414 :: nat_lit 1420 :: nat_lit 1421 :: nat_lit 1427 :: nat_lit 1428 :: nat_lit 1437 :: nat_lit 1438 :: nat_lit 1448 :: nat_lit 1449 :: nat_lit 1455 :: nat_lit 1456 :: nat_lit 1462 :: nat_lit 1463 :: nat_lit 1469 :: nat_lit 1470 :: nat_lit 1474 :: nat_lit 1475 :: nat_lit 1481 :: nat_lit 1482 :: nat_lit 1486 :: nat_lit 1487 :: nat_lit 1491 :: nat_lit 1492 :: nat_lit 1496 :: nat_lit 1497 :: nat_lit 1503 :: nat_lit 1504 :: nat_lit 1510 :: nat_lit 1511 :: nat_lit 1517 :: nat_lit 1518 :: nat_lit 1522 :: nat_lit 1523 :: nat_lit 1529 :: nat_lit 1530 :: nat_lit 1534 :: nat_lit 1535 :: []) (fun _=>by kernel_rfl));(case hw=>w_witness2)
 k_fill
 refine Nb.walk (l:=PySem.Challenge.rw_nonebetter_k80_whole_desk) rfl rfl (fun w h Y=>PySem.W.kIn_of Y) ?F
 case F =>
  intro w mg fa h KX G hmg
  have ⟨F1,F2,F3,F4,F5,F6,F7,F8,F9,F10,F11,F12,F13,F14,F15,F16,F17,F18,F19,F20,F21,F22,F23,F24,F25⟩:L2.Fn (L2.KOf KX) mg "_law_mix" Nb.Qer/\L2.Fn (L2.KOf KX) mg "_law_draws" Nb.Vg/\L2.Fn (L2.KOf KX) mg "_law_name" Nb.Qbe/\L2.Fn (L2.KOf KX) mg "_law_way" Nb.Qfh/\L2.Fn (L2.KOf KX) mg "_law_book" Nb.Qbw/\L2.Fn (L2.KOf KX) mg "is_whole" Nb.sIWv/\L2.Fn (L2.KOf KX) mg "is_number_of" Nb.sIsN/\L2.Fn (L2.KOf KX) mg "is_name" Nb.sIN/\L2.Fn (L2.KOf KX) mg "said_by" Nb.Qlh/\L2.Fn (L2.KOf KX) mg "is_formed" Nb.sIFv/\L2.Fn (L2.KOf KX) mg "is_within" Nb.sIWi/\L2.Fn (L2.KOf KX) mg "needed_by" Nb.sNee/\L2.Fn (L2.KOf KX) mg "is_row_of_book" Nb.sIRw/\L2.Fn (L2.KOf KX) mg "looked" Nb.sLov/\L2.Fn (L2.KOf KX) mg "rows_copied" Nb.sCop/\L2.Fn (L2.KOf KX) mg "_law_whole" Nb.sWhV/\L2.Fn (L2.KOf KX) mg "_law_other" Nb.sLOt/\L2.Fn (L2.KOf KX) mg "_law_deed" Nb.sLDe/\L2.Fn (L2.KOf KX) mg "_law_laid" Nb.sLLa/\L2.Fn (L2.KOf KX) mg "_law_looked" Nb.sLLk/\L2.Fn (L2.KOf KX) mg "_law_named" Nb.sLNm/\L2.Fn (L2.KOf KX) mg "_law_done" Nb.sLDo/\L2.Fn (L2.KOf KX) mg "_law_step" Nb.sLSt/\L2.Fn (L2.KOf KX) mg "_law_no_desk" Nb.sLNd/\L2.Fn (L2.KOf KX) mg "law" Nb.sLaw:=by
   dsimp only [L2.KOf]
   refine ⟨?_,?_,?_,?_,?_,?_,?_,?_,?_,?_,?_,?_,?_,?_,?_,?_,?_,?_,?_,?_,?_,?_,?_,?_,?_⟩ <;> (refine' L2.Yt KX G ?a ?l ?c ?k;case a | l | c | k=>k_is)
  have M:Nb.Mg mg:=by
   refine' ⟨PySem.W.mg_none_of KX G ?m_len,PySem.W.mg_none_of KX G ?m_min,PySem.W.mg_none_of KX G ?m_max,PySem.W.mg_none_of KX G ?m_sum,PySem.W.mg_none_of KX G ?m_all,PySem.W.mg_none_of KX G ?m_any,PySem.W.mg_none_of KX G ?m_abs,PySem.W.mg_none_of KX G ?m_isinstance,PySem.W.mg_none_of KX G ?m_sorted,PySem.W.mg_none_of KX G ?m_range_,PySem.W.mg_none_of KX G ?m_zip_,PySem.W.mg_none_of KX G ?m_tuple_,PySem.W.mg_none_of KX G ?m_list_,PySem.W.mg_none_of KX G ?m_int_,PySem.W.mg_none_of KX G ?m_bool_,PySem.W.mg_none_of KX G ?m_dict_,PySem.W.mg_none_of KX G ?m_enumerate_,PySem.W.mg_none_of KX G ?m_reversed_,PySem.W.mg_none_of KX G ?m_ValueError_,PySem.W.mg_none_of KX G ?m_set_,PySem.W.mg_none_of KX G ?m_str_⟩
   (case m_len | m_min | m_max | m_sum | m_all | m_any | m_abs | m_isinstance | m_sorted | m_range_ | m_zip_ | m_tuple_ | m_list_ | m_int_ | m_bool_ | m_dict_ | m_enumerate_ | m_reversed_ | m_ValueError_ | m_set_ | m_str_=>k_is)
  have EX:∃ (C D fN CN CS:Addr) (fdN:FuncData) (fo:Obj),L2.ErrI (L2.KOf KX) mg "NoBook" C D fN "row"/\L2.Fun (L2.KOf KX) "__init__" "NoBook.__init__" Nb.sNBI fN fdN/\(L2.KOf KX).lookup fN=some fo/\fo.cls=.type "function"/\PySem.W.keepIn (L2.KOf KX) (.ref C)=true/\Nb.ExK (L2.KOf KX) mg C D CN CS/\L2.IsA (L2.KOf KX) C C/\L2.ErrC (L2.KOf KX) mg "NoStep" CS:=by
   dsimp only [L2.KOf]
   refine' ⟨_,_,_,_,_,_,_,⟨PySem.W.mg_of KX G ?b1,⟨_,_,_,_,_,_,_,_,_,_,_,_,_,_,?c1,?c2,?c3,?c4,?c5⟩,⟨_,_,_,_,?m1,?m2,?m3,?m4,?m5⟩,Nb.ve_row⟩,L2.Kx (st:=Nb.sNBI) ?f1 ?f2 ?f3,?g1,?g2,?g3,⟨PySem.W.mg_of KX G ?p1,L2.Qhz ?i1 ?i2 ?i3,L2.Qhz ?j1 ?j2 ?j3,PySem.W.mg_of KX G ?p2,PySem.W.mg_of KX G ?p4,PySem.W.mg_of KX G ?p5,⟨?x1,?x2,?x3,?x4,?x5⟩,⟨?w1,?w2,?w3,?w4,?w5⟩,⟨?y1,?y2,?y3,?y4,⟨_,_,_,_,?y5,?y6⟩⟩,?z1,?z2,?z3,?z4,?z5,?z6,?z7,?z8⟩,L2.Qhz ?k1 ?k2 ?k3,⟨PySem.W.mg_of KX G ?q1,?q2⟩⟩
   (case b1=>k_is);(case c1=>exact rfl);(case c2=>kernel_rfl);(case c3 | c4 | c5=>k_is)
   (case m1=>exact rfl);(case m2=>kernel_rfl);(case m3 | m4 | m5 | f1 | f2 | f3=>k_is);(case g1=>exact rfl);(case g2=>exact rfl);(case g3 | p1 | p2 | p4 | p5 | q1=>k_is);(case q2=>k_exc)
   (case i1 | i2 | i3 | j1 | j2 | j3 | k1 | k2 | k3 | x1 | x2 | x3 | x4 | x5 | w1 | w2 | w3 | w4 | w5 | y1 | y2 | y3 | y4=>k_is);(case y5=>exact rfl);(case y6=>exact rfl)
   (case z1=>unfold Nb.Yv;kit_is);(case z2=>unfold Nb.Yv;kit_is);(case z3=>unfold Nb.Yv;kit_is);(case z4=>unfold Nb.Yv;kit_is);(case z5=>unfold Nb.Yv;kit_is);(case z6=>unfold Nb.Yv;kit_is);(case z7=>kit_is);(case z8=>kit_is)
  obtain ⟨C,D,fN,CN,CS,fdN,fo,EI,FN,lkN,fcN,kcN,EK,isC,EN⟩:=EX
  have bN:=FN.binds (ps:=["self","row"]) fun _ _ _ _ _ _=>L2.We (fun _ _=>rfl)
  have TNX:∃ aN gN,L2.TvTab w (L2.KOf KX) mg "NAMES" 1 Nb.namesT aN gN:=by
   dsimp only [L2.KOf]
   refine' ⟨_,L2.Qds (PySem.W.mg_of KX G ?b1) ?l1 ?k1 ?o1 ?c1⟩
   (case b1 | l1=>k_is);(case k1=>k_keys);(case o1=>decide);(case c1=>kernel_rfl)
  obtain ⟨aN,gN,TN⟩:=TNX
  have TBX:∃ aB gB,L2.TvTab w (L2.KOf KX) mg "BOUNDS" 3 Nb.boundsT aB gB:=by
   dsimp only [L2.KOf]
   refine' ⟨_,L2.Qds (PySem.W.mg_of KX G ?b1) ?l1 ?k1 ?o1 ?c1⟩
   (case b1 | l1=>k_is);(case k1=>k_keys);(case o1=>decide);(case c1=>kernel_rfl)
  obtain ⟨aB,gB,TB⟩:=TBX
  have TDX:∃ aD gD,L2.TvTab w (L2.KOf KX) mg "NEEDS" 3 Nb.needsT aD gD:=by
   dsimp only [L2.KOf]
   refine' ⟨_,L2.Qds (PySem.W.mg_of KX G ?b1) ?l1 ?k1 ?o1 ?c1⟩
   (case b1 | l1=>k_is);(case k1=>k_keys);(case o1=>decide);(case c1=>kernel_rfl)
  obtain ⟨aD,gD,TD⟩:=TDX
  have CL:∃ (CD fI fL fB fP fT fK:Addr) (fdI fdL fdB fdP fdT fdK:FuncData),Nb.DkTxt (L2.KOf KX) mg CD/\L2.Mk (L2.KOf KX) CD fI/\L2.Fun (L2.KOf KX) "__init__" "Desk.__init__" Nb.sDkI fI fdI/\L2.Fun (L2.KOf KX) "lay" "Desk.lay" Nb.sDkL fL fdL/\L2.Meth (L2.KOf KX) CD "lay" fL/\L2.Fun (L2.KOf KX) "book" "Desk.book" Nb.sDkB fB fdB/\L2.Meth (L2.KOf KX) CD "book" fB/\L2.Fun (L2.KOf KX) "put_row" "Desk.put_row" Nb.sDkP fP fdP/\L2.Meth (L2.KOf KX) CD "put_row" fP/\L2.Fun (L2.KOf KX) "take_row" "Desk.take_row" Nb.sDkT fT fdT/\L2.Meth (L2.KOf KX) CD "take_row" fT/\L2.Fun (L2.KOf KX) "back" "Desk.back" Nb.sDkK fK fdK/\L2.Meth (L2.KOf KX) CD "back" fK:=by
   dsimp only [L2.KOf]
   refine' ⟨_,_,_,_,_,_,_,_,_,_,_,_,_,⟨⟨?pg,?hd,?po,?sa⟩,?n1,?n2,PySem.W.mg_of KX G ?aC⟩,⟨?mk,?a1,?i1,?kc⟩,L2.Kx (st:=Nb.sDkI) ?l1 ?c1 ?k1,L2.Kx (st:=Nb.sDkL) ?l2 ?c2 ?k2,⟨?a2,?i2,?m2⟩,L2.Kx (st:=Nb.sDkB) ?l3 ?c3 ?k3,⟨?a3,?i3,?m3⟩,L2.Kx (st:=Nb.sDkP) ?l4 ?c4 ?k4,⟨?a4,?i4,?m4⟩,L2.Kx (st:=Nb.sDkT) ?l5 ?c5 ?k5,⟨?a5,?i5,?m5⟩,L2.Kx (st:=Nb.sDkK) ?l6 ?c6 ?k6,⟨?a6,?i6,?m6⟩⟩
   (case aC | a1 | i1 | l1 | c1 | k1 | a2 | i2 | l2 | c2 | k2 | m2 | a3 | i3 | l3 | c3 | k3 | m3 | a4 | i4 | l4 | c4 | k4 | m4 | a5 | i5 | l5 | c5 | k5 | m5 | a6 | i6 | l6 | c6 | k6 | m6 | pg | hd | po | sa | mk | kc=>k_is)
   (case n1=>unfold L2.NoAttr;k_is);(case n2=>unfold L2.NoAttr;k_is)
  obtain ⟨CD,fI,fL,fB,fP,fT,fK,fdI,fdL,fdB,fdP,fdT,fdK,T,MI,FI,FL,mL,FB,mB,FP,mP,FT,mT,FK,mK⟩:=CL
  have bI:=FI.binds (ps:=["self","book"]) fun _ _ _ _ _ _=>L2.We (fun _ _=>rfl)
  have bL:=FL.binds (ps:=["self","rows"]) fun _ _ _ _ _ _=>L2.We (fun _ _=>rfl)
  have bB:=FB.binds (ps:=["self"]) fun _ _ _ _ _ _=>L2.bind1 (fun _=>rfl)
  have bP:=FP.binds (ps:=["self","place","row"]) fun _ _ _ _ _ _=>L2.Qgc (fun _ _ _=>rfl)
  have bT:=FT.binds (ps:=["self","place"]) fun _ _ _ _ _ _=>L2.We (fun _ _=>rfl)
  have bK:=FK.binds (ps:=["self"]) fun _ _ _ _ _ _=>L2.bind1 (fun _=>rfl)
  obtain ⟨f,fd,FF,hm⟩:=F25
  have e0:=hmg.symm.trans hm
  cases e0
  refine' ⟨fd,?b,fun base kb nb=>Nb.all_ok M EI FN bN lkN fcN kcN EK isC EN TN TB TD T MI FI bI FL bL mL FB bB mB FP bP mP FT bT mT FK bK mK F1 F2 F3 F4 F5 F6 F7 F8 F9 F10 F11 F12 F13 F14 F15 F16 F17 F18 F19 F20 F21 F22 F23 F24 FF⟩
  obtain ⟨oc,od,kV,doc,pm,an,cdv,ct,osl,rfl,lk,hcd⟩:=FF.ex
  exact fun s u=>.of_eq rfl

