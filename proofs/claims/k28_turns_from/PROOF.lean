import PyProof.Rows.All
import Wide.All
import OpenK.AllK
import Wide.FinOn
import Lean
import PyProof.EqAt
import PyProof.EqKinds
import PyProof.TupleCall
import KE.KDictOf
import KE.KRevIter
import KE.KTryDeep
import KE.KIsAll
import KE.KSortTup
import KE.KMinKey
import KE.KEqDict
import KE.KPairComp
import PyProof.NeKinds
import KE.KDictList
import KE.KDictSum
import PyProof.Rows.SortStr
import PyProof.Rows.SortShellK
import OpenK.KTop
import PyProof.SetScanFacts
import PyProof.Rows.SetFrom
import PyProof.FString5
import KE.KIntText
import PyProof.StrLawsNeg
import KE.KSortKey
import PyProof.Rows.RuleB_bool
import KE.KLam
import KE.KNestM
import PySem.Challenge.RW_nonebetter_k28_whole_turns_from_choices
noncomputable section
abbrev Fg := PySem.W.Frag
section
open PySem PySem.Spec PySem.W PyProof.Rows
abbrev jQ := @wpAny_bind
abbrev jX := @List.length_map
abbrev jY := @List.getD_eq_getElem?_getD
abbrev jZ := @Heap.get?_push_of_some
abbrev jJ := @wpAny_pure
abbrev jK := @List.getElem?_eq_some_iff
abbrev jV := @List.getElem?_map
abbrev jW := @Nat.le_refl
abbrev kQ := @List.length_range
abbrev kX := @Heap.get?_push_size
abbrev kY := @List.mem_of_getElem?
abbrev kZ := @List.append_assoc
abbrev kJ := @List.size_toArray
abbrev kK := @Heap.lt_size
abbrev kW := @List.mem_singleton
abbrev yQ := @List.mem_range
abbrev yX := @Array.getElem?_toList
abbrev yY := @List.mem_cons
abbrev yZ := @Nat.ne_of_lt
abbrev yJ := @Bool.false_eq_true
abbrev yK := @Array.toList_append
abbrev yV := @List.length_append
abbrev yW := @List.length_cons
abbrev zQ := @List.mem_map
abbrev zX := @Array.length_toList
abbrev zY := @List.mem_cons_of_mem
abbrev zZ := @Array.getElem_mem
abbrev zJ := @List.mem_cons_self
abbrev zK := @List.map_append
abbrev zV := @Option.map_eq_some_iff
abbrev zW := @List.map_cons
abbrev xQ := @Bool.false_ne_true
abbrev xX := @Nat.lt_of_le_of_lt
abbrev xY := @List.getElem?_range
abbrev xZ := @Nat.add_le_add_left
abbrev xJ := @List.eq_nil_of_length_eq_zero
abbrev xK := @Nat.lt_of_lt_of_le
abbrev xV := @Nat.lt_of_succ_lt
abbrev xW := @decide_eq_true
abbrev wQ := @decide_eq_false
abbrev wX := @List.mem_append
abbrev wY := @Nat.zero_le
abbrev wZ := @List.length_take
abbrev wJ := @List.mem_append_right
abbrev wK := @List.mem_filter
abbrev wV := @Array.toList_push
abbrev wW := @List.take_length
abbrev jQa := @List.getElem?_append_right
abbrev jQb := @List.map_map
abbrev jQc := @List.pairwise_append
abbrev jQd := @Nat.le_trans
abbrev jQe := @Int.toNat_natCast
abbrev jQf := @List.getElem?_eq_none
abbrev jXa := @Array.getD_eq_getD_getElem?
abbrev jXb := @List.perm_append_comm
abbrev jXc := @List.getElem_of_mem
abbrev jXd := @Array.getElem?_eq_getElem
abbrev jXe := @List.mem_nil_iff
abbrev jXf := @List.getElem_mem
abbrev jYa := @List.filter_cons_of_neg
abbrev jYb := @List.pairwise_map
abbrev jYc := @List.mem_append_left
abbrev jYd := @Array.toList_reverse
abbrev jYe := @Heap.get?_update_other
abbrev jYf := @Heap.size_push
abbrev jZa := @List.append_nil
abbrev jZb := @List.take_append_drop
abbrev jZc := @List.mem_iff_getElem?
abbrev jZd := @List.filter_cons_of_pos
abbrev jZe := @List.nodup_cons
abbrev jZf := @List.pairwise_iff_getElem
abbrev jJa := @Nat.lt_succ_of_lt
abbrev jJb := @of_decide_eq_true
abbrev jJc := @Heap.get?_update_self
abbrev jJd := @List.length_filter_le
abbrev jJe := @Nat.lt_irrefl
abbrev jJf := @Bool.not_true
abbrev jKa := @Bool.and_eq_true
abbrev jKb := @List.flatten_cons
abbrev jKc := @List.take_of_length_le
abbrev jKd := @List.ext_getElem?
abbrev jKe := @List.reverse_append
abbrev jKf := @Bool.eq_iff_iff
abbrev kQa := @Array.getElem_extract
abbrev kQb := @Nat.lt_succ_self
abbrev kQc := @Nat.add_assoc
abbrev kQd := @plainId_quiet
abbrev kQe := @Nat.le_succ
abbrev kQf := @List.replicate_succ
abbrev kXa := @List.map_congr_left
abbrev kXb := @Nat.le_of_not_lt
abbrev kXc := @List.lookup_cons
abbrev kXd := @List.getElem_map
abbrev kXe := @List.not_mem_nil
abbrev kXf := @List.getElem_range
abbrev kYa := @Array.toList_setIfInBounds
abbrev kYb := @Array.perm_iff_toList_perm
abbrev kYc := @List.getElem?_eq_none_iff
abbrev kYd := @List.extract_eq_take_drop
abbrev kYe := @List.drop_eq_getElem_cons
abbrev kYf := @List.find?_cons
abbrev kZa := @Nat.not_lt_zero
abbrev kZb := @List.range_succ
abbrev kZc := @Nat.sub_self
abbrev kZd := @List.flatten_append
abbrev kZe := @List.length_drop
abbrev kZf := @List.all_eq_true
abbrev kJa := @Nat.ne_of_gt
abbrev kJb := @Int.emod_lt_of_pos
abbrev kJc := @Array.getElem?_eq_none
abbrev kJd := @Array.forIn_toList
abbrev kJe := @Array.size_extract
abbrev kJf := @List.length_set
abbrev kKa := @List.foldl_cons
abbrev kKb := @Nat.le_of_lt_succ
abbrev kKc := @Array.toList_extract
abbrev kKd := @Array.getElem_toList
abbrev kKe := @Nat.pow_le_pow_right
abbrev kKf := @Nat.zero_add
abbrev yQa := @List.ext_getElem
abbrev yQb := @List.getElem?_append_left
abbrev yQc := @List.filter_eq_self
abbrev yQd := @Option.isSome_iff_exists
abbrev yQe := @List.length_erase_of_mem
abbrev yQf := @Array.size_setIfInBounds
abbrev yXa := @Int.emod_nonneg
abbrev yXb := @List.pairwise_cons
abbrev yXc := @Nat.le_of_eq
abbrev yXd := @Nat.add_comm
abbrev yXe := @List.pairwise_lt_range
abbrev yXf := @Nat.pow_succ
abbrev yYa := @List.length_replicate
abbrev yYb := @List.length_singleton
abbrev yYc := @Nat.le_add_right
abbrev yYd := @List.any_eq_true
abbrev yYe := @List.cons_append
abbrev yYf := @List.mem_erase_of_ne
abbrev yZa := @List.mem_iff_getElem
abbrev yZb := @List.reverse_reverse
abbrev yZc := @List.forall_mem_cons
abbrev yZd := @Heap.get?_update_ne
abbrev yZe := @Nat.le_of_lt
abbrev yZf := @List.map_nil
abbrev yJa := @Nat.mul_comm
abbrev yJb := @List.mem_filterMap
abbrev yJc := @Array.append_empty
abbrev yJd := @Nat.mod_lt
abbrev yJe := @Bool.not_false
abbrev yJf := @List.take_zero
abbrev yKa := @List.filter_append
abbrev yKb := @List.nodup_append
abbrev yKc := @Option.getD_some
abbrev yKd := @List.getElem?_set_self
abbrev yKe := @List.length_pos_of_mem
abbrev yKf := @Nat.succ_pos
abbrev zQa := @List.drop_eq_nil_of_le
abbrev zQb := @Nat.lt_or_ge
abbrev zQc := @List.of_mem_zip
abbrev zQd := @Bool.or_eq_true
abbrev zQe := @Option.map_some
abbrev zQf := @List.filter_map
abbrev zXa := @Heap.get?_none_of_le
abbrev zXb := @List.getElem?_set_ne
abbrev zXc := @List.not_lt
abbrev zXd := @List.replicate_succ'
abbrev zXe := @Array.toArray_toList
abbrev zXf := @List.filterMap_cons
end
abbrev gE := @List.getElem?_eq_getElem
set_option Elab.async false
set_option linter.all false
set_option maxRecDepth 100000
set_option maxHeartbeats 4000000
set_option bootstrap.genMatcherCode false
set_option genSizeOfSpec false
set_option compiler.extract_closed false
theorem Om{p:Prop}(h:p:=by lia):p:=h
theorem Dc{p:Prop}(h:p:=by decide):p:=h
theorem Dk{p:Prop}(h:p:=by decide +kernel):p:=h
namespace L2
theorem aRfl (h:True:=by rfl):True:=h
theorem aDec (h:True:=by decide):True:=h
theorem aFst (h:True:=by first | exact .inl rfl | exact .inr rfl | assumption):True:=h
theorem aIrf (h:True:=by intro _;rfl):True:=h
end L2
namespace L2
open PySem PySem.Spec PyProof.Rows
abbrev Key:=Sum Int Str
def Qii:Key->Value->Bool
 |.inl k,v=>Value.isInt k v
 |.inr x,v=>Value.isStrOf x v
def keyH(w:World):Key->Int
 |.inl k=>hashInt k
 |.inr x=>hashStr w x
theorem Xl:∀{k:Key} {v:Value},Qii k v=true->(∃i t,k=Sum.inl i/\v=Value.int i t)\/(∃x t,k=Sum.inr x/\v=Value.str x t)
 |.inl i,v,h=>by
  obtain⟨t,e⟩:=Value.isInt_shape (k:=i) (v:=v) h
  exact .inl ⟨i,t,rfl,e⟩
 |.inr x,v,h=>by
  obtain⟨t,e⟩:=Value.isStrOf_shape (x:=x) (v:=v) h
  exact .inr ⟨x,t,rfl,e⟩
theorem Qce(i:Int)(t:Tok):Qii (.inl i) (.int i t)=true:=by simp[Qii,Value.isInt]
theorem Qjq(x:Str)(t:Tok):Qii (.inr x) (.str x t)=true:=by simp[Qii,Value.isStrOf]
theorem key_ll(a b:Int):decide ((Sum.inl a:Key)=Sum.inl b)=(a == b):=by
 by_cases e:a=b
 .subst e;simp
 .have h:¬(Sum.inl a:Key)=Sum.inl b:=fun q=>e (Sum.inl.inj q)
  rw[wQ h]
  exact(beq_eq_false_iff_ne.mpr e).symm
theorem key_rr(a b:Str):decide ((Sum.inr a:Key)=Sum.inr b)=decide (a=b):=by
 by_cases e:a=b
 .subst e;simp
 .have h:¬(Sum.inr a:Key)=Sum.inr b:=fun q=>e (Sum.inr.inj q)
  rw[wQ h,wQ e]
theorem key_lr(a:Int)(b:Str):decide ((Sum.inl a:Key)=Sum.inr b)=false:=wQ (fun q=>nomatch q)
theorem key_rl(a:Str)(b:Int):decide ((Sum.inr a:Key)=Sum.inl b)=false:=wQ (fun q=>nomatch q)
def Xx(prog:Program)(w:World):PySem.KeyKind prog w Key where
 is:=Qii
 hash:=keyH w
 inj:=fun v a b ha hb=>by
  rcases Xl ha with⟨i,t,rfl,rfl⟩ | ⟨x,t,rfl,rfl⟩
  .rcases Xl hb with⟨j,u,rfl,e⟩ | ⟨y,u,rfl,e⟩
   .injection e with e1 _;rw[e1]
   .exact nomatch e
  .rcases Xl hb with⟨j,u,rfl,e⟩ | ⟨y,u,rfl,e⟩
   .exact nomatch e
   .injection e with e1 _;rw[e1]
 byValue:=fun k v h=>by
  rcases Xl h with⟨i,t,rfl,rfl⟩ | ⟨x,t,rfl,rfl⟩<;>rfl
 pyHash:=fun hv h=>by
  rcases Xl hv with⟨i,t,rfl,rfl⟩ | ⟨x,t,rfl,rfl⟩
  .exact wpAny_pyHash_int h
  .exact wpAny_pyHash_str h
 eqBool:=fun hu hv h=>by
  rcases Xl hu with⟨i,t,rfl,rfl⟩ | ⟨x,t,rfl,rfl⟩
  .rcases Xl hv with⟨j,u,rfl,rfl⟩ | ⟨y,u,rfl,rfl⟩
   .rw[key_ll]at h;exact wpAny_eqBool_int h
   .rw[key_lr]at h;exact SeqAt.EqAt.int_str i t y u _ _ _ _ h
  .rcases Xl hv with⟨j,u,rfl,rfl⟩ | ⟨y,u,rfl,rfl⟩
   .rw[key_rl]at h;exact SeqAt.EqAt.str_int x t j u _ _ _ _ h
   .rw[key_rr]at h;exact wpAny_eqBool_str h
 «strs»:=fun k x t v h=>by
  rcases Xl h with⟨i,u,rfl,e⟩ | ⟨y,u,rfl,e⟩
  .exact nomatch e
  .injection e with e1 _
   subst e1
   cases v<;>rfl
theorem Qes(prog:Program)(w:World)(i:Int)(t:Tok):(Xx prog w).is (.inl i) (.int i t)=true:=Qce i t
theorem Qet(prog:Program)(w:World)(x:Str)(t:Tok):(Xx prog w).is (.inr x) (.str x t)=true:=Qjq x t
inductive V where
 |non | bl (b:Bool) | int (i:Int) | str (x:Str) | byt (b:Array UInt8) | flt (b:UInt64) | ref (a:Addr) | ty (n:String)
 deriving DecidableEq
def RelV:V->Value->Prop
 |.non,u=>u=Value.none
 |.bl b,u=>u=Value.bool b
 |.int i,u=>∃t,u=Value.int i t
 |.str x,u=>∃t,u=Value.str x t
 |.byt b,u=>∃t,u=Value.bytes b t
 |.flt b,u=>∃t,u=Value.float b t
 |.ref a,u=>u=Value.ref a
 |.ty n,u=>u=Value.type n
abbrev Vals:List V->List Value->Prop:=Paired RelV
theorem Vals.length{xs:List V}{us:List Value}(r:Vals xs us):xs.length=us.length:=Paired.length r
theorem Vals.get:∀{xs:List V} {us:List Value} {i:Nat} {x:V},Vals xs us->xs[i]?=some x->∃u,us[i]?=some u/\RelV x u
 |_,_,_,_,.nil,e=>by simp at e
 |_,_,0,_,.cons r _,e=>by simp at e;subst e;exact⟨_,rfl,r⟩
 |_,_,i+1,x,.cons _ t,e=>by
  obtain⟨u,h1,h2⟩:=Vals.get (i:=i) (x:=x) t (by simpa using e)
  exact⟨u,by simpa using h1,h2⟩
theorem Vals.set{x:V}{u:Value}(r:RelV x u):∀{xs:List V} {us:List Value} (i:Nat),Vals xs us->Vals (xs.set i x) (us.set i u)
 |_,_,_,.nil=>.nil
 |_,_,0,.cons _ t=>.cons r t
 |_,_,i+1,.cons q t=>.cons q (Vals.set r i t)
theorem Vals.append{xs ys:List V}{us ws:List Value}(h:Vals xs us)(g:Vals ys ws):Vals (xs++ys) (us++ws):=by
 induction h with
 |nil=>exact g
 |cons r t ih=>exact .cons r ih
theorem Vals.take:∀{xs:List V} {us:List Value} (n:Nat),Vals xs us->Vals (xs.take n) (us.take n)
 |_,_,0,_=>.nil
 |_,_,_+1,.nil=>.nil
 |_,_,n+1,.cons r t=>.cons r (Vals.take n t)
theorem Vals.drop:∀{xs:List V} {us:List Value} (n:Nat),Vals xs us->Vals (xs.drop n) (us.drop n)
 |_,_,0,r=>r
 |_,_,_+1,.nil=>.nil
 |_,_,n+1,.cons _ t=>Vals.drop n t
def RelO:Option V->Option Value->Prop
 |some v,some u=>RelV v u
 |none,none=>True
 |_,_=>False
def KV{κ:Type}:List (κ×V)->List (κ×Value)->Prop:=Paired fun(p:κ×V) (q:κ×Value)=>p.1=q.1/\RelV p.2 q.2
def kV:Key->V
 |.inl i=>.int i
 |.inr x=>.str x
inductive HO where
 |lst (xs:List V)
 |tup (xs:List V)
 |dK (kvs:List (Key×V)) | dT (kvs:List (List Key×V))
 |set (S:Int->Bool) (n:Nat)
 |ins (C dx:Addr) (fs:List (Str×V))
 |own (x:Addr)
 |xd (fs:List (Str×V))
 |met (f x:Addr)
 |rng (lo hi:Int)
 |frz (o:Obj) (u:HO)
 |tbl (ps:Array Value)
 |ext (φ:Heap->Prop)
abbrev Hp:=Addr->Option HO
def upd(H:Hp)(a:Addr)(o:HO):Hp:=fun b=>if b=a then some o else H b
theorem Qb{H:Hp}{a:Addr}{o:HO}:upd H a o a=some o:=by unfold upd;rw[if_pos rfl]
theorem Qk{H:Hp}{a b:Addr}{o:HO}(h:b≠a):upd H a o b=H b:=by unfold upd;rw[if_neg h]
theorem Qjr{H:Hp}{a:Addr}{o u:HO}:upd (upd H a o) a u=upd H a u:=by
 funext b;unfold upd;split<;>rfl
theorem Qjs{H:Hp}{a b:Addr}{o u:HO}(h:H a=some o)(h':H b=some u)(d:o≠u):a≠b:=by
 intro e;subst e;rw[h]at h';exact d (Option.some.inj h')
theorem Ql{H:Hp}{a b:Addr}{o:HO}(h:H a=some o)(h':H b=none):a≠b:=by
 intro e;subst e;rw[h]at h';cases h'
section
variable(P:Program)(w:World)
def ObjOk(H:Hp)(h:Heap)(a:Addr):HO->Prop
 |.lst xs=>xs.length<=sizeLine/\∃(its:List Value) (n:Nat),Vals xs its/\h.get? a=some { cls:=.type "list",data:=.seq its.toArray n }
 |.tup xs=>xs.length<=sizeLine/\∃its:List Value,Vals xs its/\IsTup h a its.toArray
 |.dK kvs=>kvs.length<=sizeLine/\(a == sysModules)=false/\∃vs,KV kvs vs/\h.DictOf (Xx P w) a vs
 |.dT kvs=>kvs.length<=sizeLine/\(a == sysModules)=false/\∃xs:List (List Key×Addr×Value),
   Paired (fun(p:List Key×V) (q:List Key×Addr×Value)=>p.1=q.1/\H q.2.1=some (.tup (p.1.map kV))/\RelV p.2 q.2.2) kvs xs /\
   ∃o es ep,h.get? a=some o/\o.ExactDict/\o.data=.dict es ep/\es.toList=xs.map (entryOfKey (tupleKind (Xx P w)))/\(xs.map (·.1)).Nodup
 |.set S n=>h.SetOf (intKind P w) a S n
 |.ins C dx fs=>H dx=some (.own a)/\fs.length<=1000/\dx≠a/\h.get? a=some (PySem.W.instObj C dx) /\
   ∃mA,h.Ns1 dx mA/\(∀f,RelO (fs.lookup f) (mA f))/\PySem.Within mA (fs.map (·.1))
 |.own _=>∃o,h.get? a=some o
 |.xd fs=>∃mA,h.Ns1 a mA/\∀f,RelO (fs.lookup f) (mA f)
 |.rng lo hi=>∃t u v,h.get? a=some { cls:=.type "range",data:=.fields #[.int lo t,.int hi u,.int 1 v] }
 |.frz o u=>h.get? a=some o/\ObjOk H h a u
 |.tbl ps=>h.get? a=some { cls:=.none,data:=.fields ps }
 |.met f x=>h.get? a=some (PySem.W.methodObj (.ref f) (.ref x))
 |.ext φ=>φ h/\(∃o,h.get? a=some o)/\∀h1 h2:Heap,φ h1->(∀o,h1.get? a=some o->h2.get? a=some o)->φ h2
def HOk(H:Hp)(h:Heap):Prop:=∀a o,H a=some o->ObjOk P w H h a o
end
section
variable{P:Program}{w:World}{H H':Hp}{h h':Heap}{a:Addr}{o:HO}
theorem ObjOk.lt(x:ObjOk P w H h a o):a<h.objs.size:=by
 cases o with
 |lst xs=>obtain⟨_,_,_,_,e⟩:=x;exact kK e
 |tup xs=>obtain⟨_,_,_,p⟩:=x;exact p.lt
 |dK kvs=>obtain⟨_,_,_,_,o,_,_,e,_⟩:=x;exact kK e
 |dT kvs=>obtain⟨_,_,_,_,o,_,_,e,_⟩:=x;exact kK e
 |set S n=>obtain⟨o,_,_,_,e,_⟩:=x;exact kK e
 |ins C dx fs=>obtain⟨_,_,_,e,_⟩:=x;exact kK e
 |own y=>obtain⟨_,e⟩:=x;exact kK e
 |xd fs=>obtain⟨_,⟨_,_,_,e,_⟩,_⟩:=x;exact kK e
 |rng lo hi=>obtain⟨_,_,_,e⟩:=x;exact kK e
 |frz ob u=>obtain⟨e,_⟩:=x;exact kK e
 |tbl ps=>exact kK (show h.get? a=some _ from x)
 |met f y=>exact kK (show h.get? a=some _ from x)
 |ext φ=>obtain⟨_,⟨_,e⟩,_⟩:=x;exact kK e
theorem Paired.mapP{α β:Type}{F G:α->β->Prop}{l₁:List α}{l₂:List β}(h:Paired F l₁ l₂)(f:∀a b,F a b->G a b):Paired G l₁ l₂:=by
 induction h with
 |nil=>exact .nil
 |cons r t ih=>exact .cons (f _ _ r) ih
theorem ObjOk.stay(x:ObjOk P w H h a o)(k:∀b u,(b=a\/H b=some (.own a))->h.get? b=some u->h'.get? b=some u)
  (ho:∀b,H b=some (.own a)->H' b=some (.own a)) (ht:∀b xs,H b=some (.tup xs)->H' b=some (.tup xs)):ObjOk P w H' h' a o:=by
 induction o with
 |lst xs=>obtain⟨z,its,n,r,e⟩:=x;exact⟨z,its,n,r,k _ _ (.inl rfl) e⟩
 |tup xs=>obtain⟨z,its,r,ob,e,c⟩:=x;exact⟨z,its,r,ob,k _ _ (.inl rfl) e,c⟩
 |dK kvs=>obtain⟨z,y,vs,r,ob,es,ep,e,c⟩:=x;exact⟨z,y,vs,r,ob,es,ep,k _ _ (.inl rfl) e,c⟩
 |dT kvs=>
  obtain⟨z,y,xs,r,ob,es,ep,e,c⟩:=x
  exact⟨z,y,xs,Paired.mapP r fun p q z=>⟨z.1,ht _ _ z.2.1,z.2.2⟩,ob,es,ep,k _ _ (.inl rfl) e,c⟩
 |set S n=>obtain⟨ob,es,ep,t,e,c⟩:=x;exact⟨ob,es,ep,t,k _ _ (.inl rfl) e,c⟩
 |ins C dx fs=>
  obtain⟨d,z,ne,e,mA,⟨od,es,ep,e2,c⟩,r⟩:=x
  exact⟨ho _ d,z,ne,k _ _ (.inl rfl) e,mA,⟨od,es,ep,k _ _ (.inr d) e2,c⟩,r⟩
 |own y=>obtain⟨ob,e⟩:=x;exact⟨ob,k _ _ (.inl rfl) e⟩
 |xd fs=>obtain⟨mA,⟨od,es,ep,e,c⟩,r⟩:=x;exact⟨mA,⟨od,es,ep,k _ _ (.inl rfl) e,c⟩,r⟩
 |rng lo hi=>obtain⟨t,u,v,e⟩:=x;exact⟨t,u,v,k _ _ (.inl rfl) e⟩
 |frz ob u ih=>obtain⟨e,q⟩:=x;exact⟨k _ _ (.inl rfl) e,ih q⟩
 |tbl ps=>
  have e:h.get? a=some { cls:=.none,data:=.fields ps }:=x
  show h'.get? a=some { cls:=.none,data:=.fields ps }
  exact k a _ (.inl rfl) e
 |met f y=>
  have e:h.get? a=some (PySem.W.methodObj (.ref f) (.ref y)):=x
  show h'.get? a=some (PySem.W.methodObj (.ref f) (.ref y))
  exact k a _ (.inl rfl) e
 |ext φ=>obtain⟨p,⟨o,e⟩,st⟩:=x;exact⟨st _ _ p fun o q=>k _ _ (.inl rfl) q,⟨o,k _ _ (.inl rfl) e⟩,st⟩
theorem HOk.lt(x:HOk P w H h)(e:H a=some o):a<h.objs.size:=(x a o e).lt
theorem HOk.fresh(x:HOk P w H h)(e:h.objs.size<=a):H a=none:=by
 cases q:H a with
 |none=>rfl
 |some u=>exact absurd (xK (x.lt q) e) (jJe _)
theorem HOk.kept(x:HOk P w H h)(k:∀b u,h.get? b=some u->h'.get? b=some u):HOk P w H h':=fun a o e=>
 (x a o e).stay (fun b u _ q=>k b u q) (fun _ q=>q) fun _ _ q=>q
theorem HOk.laid(x:HOk P w H h)(k:∀b u,h.get? b=some u->h'.get? b=some u)(hp:h.objs.size<=a)(new:ObjOk P w (upd H a o) h' a o):HOk P w (upd H a o) h':=fun b u e=>by
 have hn:=x.fresh hp
 by_cases hb:b=a
 .subst hb;rw[Qb]at e;cases e;exact new
 .rw[Qk hb]at e
  exact(x b u e).stay (fun c v _ q=>k c v q) (fun c q=>by rw[Qk (Ql q hn)];exact q) fun c xs q=>by rw[Qk (Ql q hn)];exact q
end
def Rd(H:Hp)(a:Addr)(u:HO):Prop:=H a=some u\/∃o,H a=some (.frz o u)
theorem Rd.ok{P:Program}{w:World}{H:Hp}{h:Heap}{a:Addr}{u:HO}(r:Rd H a u)(x:HOk P w H h):ObjOk P w H h a u:=by
 rcases r with r | ⟨o,r⟩
 .exact x a u r
 .obtain⟨_,q⟩:=x a _ r
  exact q
def Mut:Option HO->Prop
 |some (.lst _)=>True
 |some (.dK _)=>True
 |some (.dT _)=>True
 |some (.set _ _)=>True
 |some (.ins _ _ _)=>True
 |some (.ext _)=>True
 |_=>False
section
variable{P:Program}{w:World}{H:Hp}{h h':Heap}{x e:Addr}{o':HO}
theorem HOk.write(ok:HOk P w H h)(mu:Mut (H x))(he:e=x\/H e=some (.own x))(k:∀b u,b≠e->h.get? b=some u->h'.get? b=some u)(heo:∃u,h'.get? e=some u)
  (new:ObjOk P w (upd H x o') h' x o'):HOk P w (upd H x o') h':=fun b u q=>by
 have nown:∀c y,H c=some (.own y)->c≠x:=fun c y r z=>by subst z;rw[r]at mu;exact mu
 have ntup:∀c xs,H c=some (.tup xs)->c≠x:=fun c xs r z=>by subst z;rw[r]at mu;exact mu
 by_cases hb:b=x
 .subst hb;rw[Qb]at q;cases q;exact new
 .rw[Qk hb]at q
  by_cases hbe:b=e
  .have q':H b=some (.own x):=by
    rcases he with z | z
    .exact absurd (hbe.trans z) hb
    .rw[hbe];exact z
   rw[q]at q';cases q'
   obtain⟨v,hv⟩:=heo
   exact⟨v,by rw[hbe];exact hv⟩
  .refine(ok b u q).stay (fun c v hc r=>k c v ?_ r) (fun c r=>by rw[Qk (nown c b r)];exact r) fun c xs r=>by rw[Qk (ntup c xs r)];exact r
   rcases hc with rfl | hc
   .exact hbe
   .rintro rfl
    rcases he with z | z
    .exact nown c b hc z
    .rw[hc]at z;cases z;exact hb rfl
end
structure Un(fs ex:List Addr)(H H':Hp)(h h':Heap):Prop where
 keep:∀b o,h.get? b=some o->H b=none->b∉fs->b∉ex->h'.get? b=some o
 slot:∀b o,h.get? b=some o->H b=none->b∈fs->b∉ex->∃sl,h'.get? b=some { o with slots:=sl }
 free:∀b o,h.get? b=some o->H b=none->b∉ex->H' b=none
 there:∀b o,h.get? b=some o->b∉ex->∃o',h'.get? b=some o'
 tups:∀b xs,H b=some (.tup xs)->H' b=some (.tup xs)
 frzs:∀b o u,H b=some (.frz o u)->H' b=some (.frz o u)
 tbls:∀b ps,H b=some (.tbl ps)->∃more,H' b=some (.tbl (ps++more))
section
variable{fs ex:List Addr}{H H1:Hp}{h h1 h':Heap}{a x e:Addr}{o:HO}
theorem Un.any(u:Un fs ex H H1 h h1){b:Addr}{ob:Obj}(q:h.get? b=some ob)(n:H b=none)(hx:b∉ex):∃sl,h1.get? b=some { ob with slots:=sl }:=by
 by_cases hb:b∈fs
 .exact u.slot b ob q n hb hx
 .exact⟨ob.slots,u.keep b ob q n hb hx⟩
theorem Un.kept(k:∀b u,h.get? b=some u->h'.get? b=some u):Un fs ex H H h h' :=
 ⟨fun b ob q _ _ _=>k b ob q,fun b ob q _ _ _=>⟨ob.slots,k b ob q⟩,fun _ _ _ n _=>n,fun b ob q _=>⟨ob,k b ob q⟩,fun _ _ q=>q,fun _ _ _ q=>q,fun _ ps q=>⟨#[],by rw[q];simp⟩⟩
theorem Un.refl:Un fs ex H H h h:=Un.kept fun _ _ q=>q
theorem Un.laid(k:∀b u,h.get? b=some u->h'.get? b=some u)(hp:h.objs.size<=a)(hn:H a=none):Un fs ex H (upd H a o) h h' where
 keep:=fun b u q _ _ _=>k b u q
 slot:=fun b u q _ _ _=>⟨u.slots,k b u q⟩
 free:=fun b u q n _=>by rw[Qk (yZ (xK (kK q) hp))];exact n
 there:=fun b u q _=>⟨u,k b u q⟩
 tups:=fun b xs q=>by rw[Qk (Ql q hn)];exact q
 frzs:=fun b u xs q=>by rw[Qk (Ql q hn)];exact q
 tbls:=fun b ps q=>⟨#[],by rw[Qk (Ql q hn),q];simp⟩
theorem Un.write(mu:Mut (H x))(he:e=x\/H e=some (.own x))(k:∀b u,b≠e->h.get? b=some u->h'.get? b=some u)(heo:∃u,h'.get? e=some u):Un fs ex H (upd H x o) h h':=by
 have hx:∀b,H b=none->b≠x:=fun b n z=>by subst z;rw[n]at mu;exact mu
 have hb:∀b,H b=none->b≠e:=fun b n z=>by
  subst z
  rcases he with r | r
  .exact hx b n r
  .rw[n]at r;cases r
 have hm:∀b u,H b=some u->¬Mut (some u)->b≠x:=fun b u q nm z=>by subst z;rw[q]at mu;exact nm mu
 refine⟨fun b u q n _ _=>k b u (hb b n) q,fun b u q n _ _=>⟨u.slots,k b u (hb b n) q⟩,fun b u q n _=>by rw[Qk (hx b n)];exact n,fun b u q _=>?_,
  fun b xs q=>by rw[Qk (hm b _ q fun z=>z)];exact q,fun b u xs q=>by rw[Qk (hm b _ q fun z=>z)];exact q,fun b ps q=>⟨#[],by rw[Qk (hm b _ q fun z=>z),q];simp⟩⟩
 by_cases hbe:b=e
 .subst hbe;exact heo
 .exact⟨u,k b u hbe q⟩
end
def trk(h:Heap)(H:Hp):List Addr:=(List.range h.objs.size).filter fun a=>(H a).isSome
def hidT(h:Heap)(H:Hp):Heap:=PySem.W.hideAll h (trk h H)
theorem Qjt(h:Heap)(H:Hp):(hidT h H).objs.size=h.objs.size:=PySem.W.hideAll_size _ _
theorem Qoj{h:Heap}{H:Hp}{b:Addr}{o:Obj}(e:h.get? b=some o)(n:H b=none):(hidT h H).get? b=some o :=
 PySem.W.hideAll_get _ e fun hm=>by
  have q:(H b).isSome=true:=(wK.mp hm).2
  rw[n]at q;simp at q
theorem Qsk{h:Heap}{H:Hp}{b:Addr}{o:Obj}(e:(hidT h H).get? b=some o):h.get? b=some o/\H b=none:=by
 have e':h.get? b=some o:=PySem.W.of_hideAll (trk h H) e
 refine⟨e',?_⟩
 cases q:H b with
 |none=>rfl
 |some x=>
  have hm:b∈trk h H:=wK.mpr ⟨yQ.mpr (kK e'),by simp[q]⟩
  have z:(hidT h H).get? b=none:=PySem.W.hideAll_none (trk h H) hm
  rw[z]at e;cases e
structure Mod(K:Fg)(mg:Str->Option Value)(base:Heap):Prop where
 kin:K.In base
 glob:base.Ns mainGlobals mg
 blt:∃mb,base.Ns builtinsNs mb/\∀x:Str,x≠"__name__"->mb x=bootBuiltins x
 nolimit:base.NoLimit
set_option genInjectivity false in
set_option genInjectivity false in
structure Cx where
 prog:Program
 w:World
 K:Fg
 mg:Str->Option Value
 base:Heap
 A:Around
 N:List Str
 s₀:Shared
 H₀:Hp
 env:Env
 outer:List Env
 stack:List Env
 ex:List Addr
 fn:Str->Bool
 calm:Bool
 pn:List (Addr×Obj)
 xe:Value->Shared->Prop
def frs(l:List Env):List Addr:=l.filterMap (·.frame)
abbrev Cx.fs(X:Cx):List Addr:=frs X.outer
def Vis(sc:Scope)(x:Str):Prop:=sc.names.lookup x=some .local\/sc.names.lookup x=some .cell\/sc.names.lookup x=some .free
def Loc(sc:Scope)(x:Str):Prop:=sc.names.lookup x=some .local\/sc.names.lookup x=some .cell
def Look(env:Env)(h:Heap)(m:Str->Option Value)(x:Str)(u:Value):Prop :=
 (env.kindOf x=some .local/\m x=some u)\/((env.kindOf x=some .cell\/env.kindOf x=some .free)/\∃c,env.cells.lookup x=some c/\h.IsCell c (some u))
structure Cx.Ok(X:Cx):Prop where
 mod:Mod X.K X.mg X.base
 kind:X.env.scope.kind=.function
 glob:X.env.globals=mainGlobals
 blt:X.env.builtins=builtinsNs
 above:X.s₀.heap.objs.size<=X.env.locals
 inj:∀x y c,X.env.cells.lookup x=some c->X.env.cells.lookup y=some c->x=y
 has:∀x,(X.env.kindOf x=some .cell\/X.env.kindOf x=some .free)->∃c,X.env.cells.lookup x=some c
 cab:∀x c,X.fn x=true->X.env.cells.lookup x=some c->X.s₀.heap.objs.size<=c
 hd:X.calm=true->X.A.handled=none
 frames:X.A.frames=some X.stack
 stk:X.stack=X.outer\/(X.stack=X.env::X.outer/\X.env.frame=some X.env.locals)
 exf:∀b∈X.ex,b≠X.env.locals/\∀x c,X.env.cells.lookup x=some c->c≠b
 bs:∀b o,X.base.get? b=some o->X.s₀.heap.get? b=some o/\X.H₀ b=none
 bsz:X.base.objs.size<=X.s₀.heap.objs.size
 noex:∀b o,X.base.get? b=some o->b∉X.ex
 exfs:∀b∈X.ex,b∉X.fs
 funs:X.s₀.heap.FunFrames X.base X.outer
 frf:∀b∈X.fs,X.H₀ b=none
structure Inv(X:Cx)(pins:List (Addr×Obj))(σ:List (Option V))(H:Hp)(s:Shared):Prop where
 ok:X.Ok
 os:s.os=X.s₀.os
 bare:AllBare s.gens
 base:Un X.fs X.ex X.H₀ H X.s₀.heap s.heap
 loc:∃m,s.heap.Ns X.env.locals m/\∀(i:Nat) (x:Str) (v:V),X.N[i]?=some x->σ[i]?=some (some v)->Vis X.env.scope x->∃u,RelV v u/\Look X.env s.heap m x u
 cell:∀x c,X.env.cells.lookup x=some c->∃v,s.heap.IsCell c v
 free:H X.env.locals=none
 freeC:∀x c,X.env.cells.lookup x=some c->H c=none
 pin:∀p∈X.pn++pins,s.heap.get? p.1=some p.2/\H p.1=none/\p.1≠X.env.locals/\p.1∉X.fs/\∀v,p.2.data≠.cell v
 hok:HOk X.prog X.w H s.heap
 len:σ.length=X.N.length
section
variable{X:Cx}{pins:List (Addr×Obj)}{σ:List (Option V)}{H H':Hp}{s:Shared}{h':Heap}
theorem Cx.Ok.nofr(ok:X.Ok){b:Addr}{o:Obj}(e:X.base.get? b=some o):b∉X.fs:=fun hb=>by
 have:=(ok.funs.mem hb).1
 rw[e]at this;cases this
theorem Inv.bs(I:Inv X pins σ H s):∀b o,X.base.get? b=some o->s.heap.get? b=some o/\H b=none:=fun b o e=>
 ⟨I.base.keep b o (I.ok.bs b o e).1 (I.ok.bs b o e).2 (I.ok.nofr e) (I.ok.noex b o e),I.base.free b o (I.ok.bs b o e).1 (I.ok.bs b o e).2 (I.ok.noex b o e)⟩
theorem Inv.bk(I:Inv X pins σ H s):∀b o,X.base.get? b=some o->s.heap.get? b=some o:=fun b o e=>(I.bs b o e).1
theorem Inv.mod(I:Inv X pins σ H s):Mod X.K X.mg X.base:=I.ok.mod
theorem Inv.kIn(I:Inv X pins σ H s):X.K.In s.heap:=I.ok.mod.kin.keeps I.bk
theorem Inv.nolimit(I:Inv X pins σ H s):s.heap.NoLimit:=I.ok.mod.nolimit.keeps I.bk
theorem Inv.lt(I:Inv X pins σ H s):X.env.locals<s.heap.objs.size:=by obtain⟨_,hn,_⟩:=I.loc;exact hn.lt
theorem Inv.sz(I:Inv X pins σ H s):X.s₀.heap.objs.size<=s.heap.objs.size:=jQd I.ok.above (yZe I.lt)
theorem Inv.nofs(I:Inv X pins σ H s){a:Addr}(h:s.heap.objs.size<=a):a∉X.fs:=fun hb=>by
 obtain⟨_,o,ho,_⟩:=I.ok.funs.mem hb
 exact absurd (xK (kK ho) (jQd I.sz h)) (jJe _)
theorem Inv.cne(I:Inv X pins σ H s):∀x c,X.env.cells.lookup x=some c->c≠X.env.locals:=fun x c e z=>by
 obtain⟨v,o,ho,hd⟩:=I.cell x c e
 obtain⟨m,⟨o',es,ep,ho',hd',_⟩,_⟩:=I.loc
 rw[z,ho']at ho;cases ho;rw[hd']at hd;cases hd
theorem Inv.funs(I:Inv X pins σ H s):s.heap.FunFrames X.base X.outer:=by
 have all:∀(l:List Env),(∀b∈frs l,b∈X.fs)->X.s₀.heap.FunFrames X.base l->s.heap.FunFrames X.base l:=by
  intro l
  induction l with
  |nil=>intro _ _;trivial
  |cons env r ih=>
   intro hs hl
   obtain⟨hk,⟨L,o,hf,hn,ho,hd⟩,hr⟩:=hl
   have hL:L∈X.fs:=hs L (by unfold frs;rw[zXf,hf];exact zJ)
   obtain⟨sl,e⟩:=I.base.slot L o ho (I.ok.frf L hL) hL fun z=>I.ok.exfs L z hL
   exact⟨hk,⟨L,_,hf,hn,e,hd⟩,ih (fun b hb=>hs b (by unfold frs;rw[zXf,hf];exact zY _ hb)) hr⟩
 exact all X.outer (fun _ hb=>hb) I.ok.funs
theorem Inv.stack(I:Inv X pins σ H s):s.heap.FunFrames X.base X.stack:=by
 rcases I.ok.stk with e | ⟨e,hf⟩
 .rw[e];exact I.funs
 .rw[e]
  obtain⟨m,hn,_⟩:=I.loc
  refine .cons (by rw[I.ok.kind];decide) hf hn ?_ I.funs
  exact zXa (jQd I.ok.bsz I.ok.above)
theorem Inv.stkSub(I:Inv X pins σ H s):∀b∈frs X.stack,b∈X.env.locals::X.fs:=fun b hb=>by
 rcases I.ok.stk with e | ⟨e,hf⟩
 .rw[e]at hb;exact zY _ hb
 .rw[e]at hb
  unfold frs at hb
  rw[zXf,hf]at hb
  exact hb
theorem Inv.stkFree(I:Inv X pins σ H s):∀b∈frs X.stack,H b=none:=fun b hb=>by
 rcases yY.mp (I.stkSub b hb)with e | hb
 .rw[e];exact I.free
 .obtain⟨_,o,ho,_⟩:=I.ok.funs.mem hb
  exact I.base.free b o ho (I.ok.frf b hb) fun z=>I.ok.exfs b z hb
theorem Inv.step{g':Array GenState}{t':Nat}{d':Drawn}{ch:List Addr}(I:Inv X pins σ H s)
  (hch:∀b∈ch,(b∈X.ex\/X.s₀.heap.objs.size<=b)/\b≠X.env.locals/\(∀x c,X.env.cells.lookup x=some c->c≠b)/\∀p∈X.pn++pins,p.1≠b)
  (keep:∀b o,b≠X.env.locals->b∉X.fs->b∉ch->s.heap.get? b=some o->H b=none->h'.get? b=some o)
  (slot:∀b o,b≠X.env.locals->b∈X.fs->b∉ch->s.heap.get? b=some o->H b=none->∃sl,h'.get? b=some { o with slots:=sl }) (free:∀b o,b∉ch->s.heap.get? b=some o->H b=none->H' b=none)
  (there:∀b o,b∉ch->s.heap.get? b=some o->∃o',h'.get? b=some o')
  (tups:∀b xs,H b=some (.tup xs)->H' b=some (.tup xs)) (frzs:∀b o u,H b=some (.frz o u)->H' b=some (.frz o u)) (tbls:∀b ps,H b=some (.tbl ps)->∃more,H' b=some (.tbl (ps++more)))
  (ns:∀m,s.heap.Ns X.env.locals m->h'.Ns X.env.locals m) (hok:HOk X.prog X.w H' h') (hg:AllBare g') :
  Inv X pins σ H' { s with heap:=h',gens:=g',drawn:=d',toks:=t' }:=by
 have neL:∀b o,X.s₀.heap.get? b=some o->b≠X.env.locals:=fun b o e=>yZ (xK (kK e) I.ok.above)
 have neC:∀b o,X.s₀.heap.get? b=some o->b∉X.ex->b∉ch:=fun b o e hx hb=>by
  rcases(hch b hb).1 with z | z
  .exact hx z
  .exact absurd (xK (kK e) z) (jJe _)
 have cellK:∀x c,X.env.cells.lookup x=some c->∀v,s.heap.IsCell c v->h'.IsCell c v:=fun x c e v ⟨o,ho,hd⟩=>by
  have nch:c∉ch:=fun z=>(hch c z).2.2.1 x c e rfl
  by_cases hc:c∈X.fs
  .obtain⟨sl,q⟩:=slot c o (I.cne x c e) hc nch ho (I.freeC x c e)
   exact⟨_,q,hd⟩
  .exact⟨o,keep c o (I.cne x c e) hc nch ho (I.freeC x c e),hd⟩
 refine⟨I.ok,I.os,hg,⟨fun b o e n hb hx=>?_,fun b o e n hb hx=>?_,fun b o e n hx=>?_,fun b o e hx=>?_,fun b xs e=>tups b xs (I.base.tups b xs e),fun b o xs e=>frzs b o xs (I.base.frzs b o xs e),fun b ps e=>?_⟩,?_,fun x c e=>?_,?_,fun x c e=>?_,fun p hp=>?_,hok,I.len⟩
 .exact keep b o (neL b o e) hb (neC b o e hx) (I.base.keep b o e n hb hx) (I.base.free b o e n hx)
 .obtain⟨sl,e1⟩:=I.base.slot b o e n hb hx
  obtain⟨sl',e2⟩:=slot b _ (neL b o e) hb (neC b o e hx) e1 (I.base.free b o e n hx)
  exact⟨sl',e2⟩
 .obtain⟨o',e1⟩:=I.base.there b o e hx
  exact free b o' (neC b o e hx) e1 (I.base.free b o e n hx)
 .obtain⟨o',e1⟩:=I.base.there b o e hx
  exact there b o' (neC b o e hx) e1
 .obtain⟨m1,e1⟩:=I.base.tbls b ps e
  obtain⟨m2,e2⟩:=tbls b _ e1
  exact⟨m1++m2,by rw[e2,Array.append_assoc]⟩
 .obtain⟨m,hn,hl⟩:=I.loc
  refine⟨m,ns m hn,fun i x v e1 e2 e3=>?_⟩
  obtain⟨u,r,l⟩:=hl i x v e1 e2 e3
  refine⟨u,r,?_⟩
  rcases l with l | ⟨k,c,e,z⟩
  .exact .inl l
  .exact .inr ⟨k,c,e,cellK x c e _ z⟩
 .obtain⟨v,z⟩:=I.cell x c e
  exact⟨v,cellK x c e v z⟩
 .obtain⟨m,⟨o,_,_,ho,_⟩,_⟩:=I.loc
  exact free _ o (fun z=>(hch _ z).2.1 rfl) ho I.free
 .obtain⟨v,o,ho,hd⟩:=I.cell x c e
  exact free c o (fun z=>(hch c z).2.2.1 x c e rfl) ho (I.freeC x c e)
 .obtain⟨e,n,ne,nf,d⟩:=I.pin p hp
  have nch:p.1∉ch:=fun z=>(hch p.1 z).2.2.2 p hp rfl
  exact⟨keep p.1 p.2 ne nf nch e n,free p.1 p.2 nch e n,ne,nf,d⟩
theorem Inv.un{t':Nat}(I:Inv X pins σ H s)(u:Un X.fs [] H H' s.heap h')(hok:HOk X.prog X.w H' h'):Inv X pins σ H' { s with heap:=h',toks:=t' }:=by
 obtain⟨m,⟨o,es,ep,ho,r⟩,_⟩:=id I.loc
 obtain⟨sl,hL⟩:=u.any ho I.free (by simp)
 exact I.step (g':=s.gens) (d':=s.drawn) (ch:=[]) (fun _ z=>nomatch z) (fun b o _ hb _ e n=>u.keep b o e n hb (by simp)) (fun b o _ hb _ e n=>u.slot b o e n hb (by simp)) (fun b o _ e n=>u.free b o e n (by simp)) (fun b o _ e=>u.there b o e (by simp)) u.tups u.frzs u.tbls (fun m' hm=>by
  obtain⟨o',es',ep',ho',r'⟩:=hm
  rw[ho]at ho';cases ho'
  exact⟨_,es',ep',hL,r'⟩) hok I.bare
theorem Inv.call{g':Array GenState}{t':Nat}{d':Drawn}{ch:List Addr}(I:Inv X pins σ H s)(u:Un (frs X.stack) ch H H' s.heap h')(hok:HOk X.prog X.w H' h')(hg:AllBare g')
  (hch:∀b∈ch,(b∈X.ex\/X.s₀.heap.objs.size<=b)/\b≠X.env.locals/\(∀x c,X.env.cells.lookup x=some c->c≠b)/\∀p∈X.pn++pins,p.1≠b) :
  Inv X pins σ H' { s with heap:=h',gens:=g',drawn:=d',toks:=t' }:=by
 obtain⟨m,⟨o,es,ep,ho,r⟩,_⟩:=id I.loc
 obtain⟨sl,hL⟩:=u.any ho I.free fun z=>(hch _ z).2.1 rfl
 exact I.step (ch:=ch) hch (fun b o hL hb hc e n=>u.keep b o e n (fun z=>(yY.mp (I.stkSub b z)).elim hL hb) hc) (fun b o _ _ hc e n=>u.any e n hc) (fun b o hc e n=>u.free b o e n hc) (fun b o hc e=>u.there b o e hc) u.tups u.frzs u.tbls (fun m' hm=>by
  obtain⟨o',es',ep',ho',r'⟩:=hm
  rw[ho]at ho';cases ho'
  exact⟨_,es',ep',hL,r'⟩) hok hg
theorem Inv.turned{t':Nat}{it:Addr}(I:Inv X pins σ H s)(k:∀b o,b≠it->s.heap.get? b=some o->h'.get? b=some o)(hn:H it=none)(hL:it≠X.env.locals)
  (h1:it∈X.ex\/X.s₀.heap.objs.size<=it) (h2:∀x c,X.env.cells.lookup x=some c->c≠it) (h3:∀p∈X.pn++pins,p.1≠it):Inv X pins σ H { s with heap:=h',toks:=t' }:=by
 have nit:∀b u,H b=some u->b≠it:=fun b u e z=>by rw[z,hn]at e;cases e
 refine I.step (g':=s.gens) (d':=s.drawn) (ch:=[it]) (fun b hb=>?_) (fun b o _ _ hc e _=>k b o (fun z=>hc (by simp[z])) e) (fun b o _ _ hc e _=>⟨o.slots,k b o (fun z=>hc (by simp[z])) e⟩) (fun _ _ _ _ n=>n)
  (fun b o hc e=>⟨o,k b o (fun z=>hc (by simp[z])) e⟩) (fun _ _ e=>e) (fun _ _ _ e=>e) (fun b ps e=>⟨#[],by rw[e];simp⟩) (fun m hm=>?_) (fun b u e=>?_) I.bare
 .have e:b=it:=by simpa using hb
  subst e
  exact⟨h1,hL,h2,h3⟩
 .obtain⟨o,es,ep,ho,r⟩:=hm
  exact⟨o,es,ep,k _ o (Ne.symm hL) ho,r⟩
 .refine(I.hok b u e).stay (fun c v hc q=>k c v ?_ q) (fun _ q=>q) fun _ _ q=>q
  rcases hc with z | z
  .rw[z];exact nit b u e
  .exact nit c _ z
theorem Inv.tok(I:Inv X pins σ H s)(t:Nat):Inv X pins σ H { s with toks:=t }:=I.un (h':=s.heap) (t':=t) Un.refl I.hok
theorem Inv.kept{t':Nat}(I:Inv X pins σ H s)(k:∀b u,s.heap.get? b=some u->h'.get? b=some u):Inv X pins σ H { s with heap:=h',toks:=t' }:=I.un (Un.kept k) (I.hok.kept k)
theorem Inv.laid{a:Addr}{o:HO}{t':Nat}(I:Inv X pins σ H s)(k:∀b u,s.heap.get? b=some u->h'.get? b=some u)(hp:s.heap.objs.size<=a)(new:ObjOk X.prog X.w (upd H a o) h' a o) :
  Inv X pins σ (upd H a o) { s with heap:=h',toks:=t' }:=I.un (Un.laid k hp (I.hok.fresh hp)) (I.hok.laid k hp new)
theorem Inv.write{x e:Addr}{o:HO}{t':Nat}(I:Inv X pins σ H s)(mu:Mut (H x))(he:e=x\/H e=some (.own x))(k:∀b u,b≠e->s.heap.get? b=some u->h'.get? b=some u)(heo:∃u,h'.get? e=some u)
  (new:ObjOk X.prog X.w (upd H x o) h' x o):Inv X pins σ (upd H x o) { s with heap:=h',toks:=t' }:=I.un (Un.write mu he k heo) (I.hok.write mu he k heo new)
theorem Inv.pins_of{pins':List (Addr×Obj)}(I:Inv X pins σ H s)(h:∀p∈pins',s.heap.get? p.1=some p.2/\H p.1=none/\p.1≠X.env.locals/\p.1∉X.fs/\∀v,p.2.data≠.cell v):Inv X pins' σ H s :=
 ⟨I.ok,I.os,I.bare,I.base,I.loc,I.cell,I.free,I.freeC,fun p hp=>(wX.mp hp).elim (fun z=>I.pin p (jYc _ z)) (h p),I.hok,I.len⟩
theorem Qgg{N:List Str}(hN:N.Nodup){i j:Nat}{x:Str}(a:N[i]?=some x)(b:N[j]?=some x):i=j:=by
 obtain⟨h1,e1⟩:=jK.mp a
 obtain⟨h2,e2⟩:=jK.mp b
 exact(List.getElem_inj hN).mp (e1.trans e2.symm)
theorem Qcf{M:Model}{A:Around}{E:Value->Shared->Prop}{i:Nat}{x:Str}{v:V}{u:Value}{Q:Unit->Shared->Prop}(I:Inv X pins σ H s)(hN:X.N.Nodup)(hi:X.N[i]?=some x)(hx:Loc X.env.scope x)(r:RelV v u)
  (h:∀s',Inv X pins (σ.set i (some v)) H s'->(∃a,Heap.SameBut a s.heap s'.heap/\(a=X.env.locals\/X.env.cells.lookup x=some a))->Q () s') (hf:autoParam (X.fn x=true\/X.env.scope.names.lookup x=some .local) L2.aFst._auto_1):wpAny M A (storeName X.env x u) Q E s:=by
 obtain⟨m,hn,hl⟩:=id I.loc
 have hcls:(X.env.scope.kind == .class||(X.env.scope.kind == .module&&X.env.locals != X.env.globals))=false:=by rw[I.ok.kind];rfl
 have hiσ:i<σ.length:=by rw[I.len];exact(jK.mp hi).1
 have cne:=I.cne
 have tracked:∀{a:Addr} {h':Heap},(∃o,s.heap.get? a=some o/\H a=none)->Heap.SameBut a s.heap h'->HOk X.prog X.w H h':=fun{a h'} ha hs b ob e=>by
  obtain⟨_,_,hfree⟩:=ha
  refine(I.hok b ob e).stay (fun c w' hc q=>(hs.2 c ?_).trans q) (fun _ q=>q) fun _ _ q=>q
  rintro rfl
  rcases hc with rfl | hc
  .rw[hfree]at e;cases e
  .rw[hfree]at hc;cases hc
 rcases hx with hk | hk
 .refine wpAny_storeName_local hk hn (fun h' hn' hs=>?_) hcls
  obtain⟨oL,_,_,hoL,_⟩:=id hn
  refine h _ ⟨I.ok,I.os,I.bare,⟨fun b o e n hb hx=>?_,fun b o e n hb hx=>?_,I.base.free,fun b o e hx=>?_,I.base.tups,I.base.frzs,I.base.tbls⟩,⟨_,hn',fun j y v' e1 e2 e3=>?_⟩,fun y c e=>?_,I.free,I.freeC,fun p hp=>?_,tracked ⟨oL,hoL,I.free⟩ hs,by simpa using I.len⟩ ⟨_,hs,.inl rfl⟩
  .exact(hs.2 b (yZ (xK (kK e) I.ok.above))).trans (I.base.keep b o e n hb hx)
  .obtain⟨sl,e1⟩:=I.base.slot b o e n hb hx
   exact⟨sl,(hs.2 b (yZ (xK (kK e) I.ok.above))).trans e1⟩
  .obtain⟨o',e1⟩:=I.base.there b o e hx
   exact⟨o',(hs.2 b (yZ (xK (kK e) I.ok.above))).trans e1⟩
  .by_cases hj:j=i
   .subst hj
    rw[hi]at e1;cases e1
    rw[yKd hiσ]at e2
    cases e2
    exact⟨u,r,.inl ⟨hk,by simp⟩⟩
   .rw[zXb (Ne.symm hj)]at e2
    obtain⟨u',r',q⟩:=hl j y v' e1 e2 e3
    refine⟨u',r',?_⟩
    rcases q with⟨k,e⟩ | ⟨k,c,e,z⟩
    .refine .inl ⟨k,?_⟩
     have:y≠x:=fun e=>hj (Qgg hN e1 (e▸hi))
     simp[this,e]
    .exact .inr ⟨k,c,e,z.sameBut hs (cne y c e)⟩
  .obtain⟨w',z⟩:=I.cell y c e
   exact⟨w',z.sameBut hs (cne y c e)⟩
  .obtain⟨e,n,ne,nf,d⟩:=I.pin p hp
   exact⟨(hs.2 p.1 ne).trans e,n,ne,nf,d⟩
 .have hfn:X.fn x=true:=by
   rcases hf with z | z
   .exact z
   .rw[z]at hk;cases hk
  obtain⟨c,hc⟩:=I.ok.has x (.inl hk)
  obtain⟨w',z⟩:=I.cell x c hc
  refine wpAny_storeName_cell I.ok.kind hk hc z (fun h' hc' hs=>?_)
  obtain⟨oc,hoc,hocd⟩:=id z
  refine h { s with heap:=h' } ⟨I.ok,I.os,I.bare,⟨fun b o e n hb hx=>?_,fun b o e n hb hx=>?_,I.base.free,fun b o e hx=>?_,I.base.tups,I.base.frzs,I.base.tbls⟩,⟨m,hn.sameBut hs (Ne.symm (cne x c hc)),fun j y v' e1 e2 e3=>?_⟩,fun y c' e=>?_,I.free,I.freeC,fun p hp=>?_,tracked ⟨oc,hoc,I.freeC x c hc⟩ hs,by simpa using I.len⟩ ⟨c,hs,.inr hc⟩
  .exact(hs.2 b (yZ (xK (kK e) (I.ok.cab x c hfn hc)))).trans (I.base.keep b o e n hb hx)
  .obtain⟨sl,e1⟩:=I.base.slot b o e n hb hx
   exact⟨sl,(hs.2 b (yZ (xK (kK e) (I.ok.cab x c hfn hc)))).trans e1⟩
  .obtain⟨o',e1⟩:=I.base.there b o e hx
   exact⟨o',(hs.2 b (yZ (xK (kK e) (I.ok.cab x c hfn hc)))).trans e1⟩
  .by_cases hj:j=i
   .subst hj
    rw[hi]at e1;cases e1
    rw[yKd hiσ]at e2
    cases e2
    exact⟨u,r,.inr ⟨.inl hk,c,hc,hc'⟩⟩
   .rw[zXb (Ne.symm hj)]at e2
    obtain⟨u',r',q⟩:=hl j y v' e1 e2 e3
    refine⟨u',r',?_⟩
    rcases q with q | ⟨k,c',e,z'⟩
    .exact .inl q
    .refine .inr ⟨k,c',e,z'.sameBut hs ?_⟩
     rintro rfl
     exact hj (Qgg hN e1 (I.ok.inj _ _ _ e hc▸hi))
  .by_cases hcc:c'=c
   .subst hcc;exact⟨_,hc'⟩
   .obtain⟨w2,z2⟩:=I.cell y c' e
    exact⟨w2,z2.sameBut hs hcc⟩
  .obtain⟨e,n,ne,nf,d⟩:=I.pin p hp
   refine⟨(hs.2 p.1 ?_).trans e,n,ne,nf,d⟩
   intro q
   rw[q,hoc]at e
   have q':oc=p.2:=Option.some.inj e
   exact d w' (by rw[<-q'];exact hocd)
theorem Qgh{M:Model}{A:Around}{E:Value->Shared->Prop}{i:Nat}{x:Str}{v:V}{u:Value}{Q:Unit->Shared->Prop}(I:Inv X pins σ H s)(hN:X.N.Nodup)(hi:X.N[i]?=some x)(hx:Loc X.env.scope x)(r:RelV v u)
  (h:∀s',Inv X pins (σ.set i (some v)) H s'->Q () s') (hf:autoParam (X.fn x=true\/X.env.scope.names.lookup x=some .local) L2.aFst._auto_1):wpAny M A (storeName X.env x u) Q E s :=
 Qcf I hN hi hx r (fun s' I' _=>h s' I') hf
theorem Inv.call'{s':Shared}{ch:List Addr}(I:Inv X pins σ H s)(ho:s'.os=s.os)(u:Un (frs X.stack) ch H H' s.heap s'.heap)(hok:HOk X.prog X.w H' s'.heap)(hg:AllBare s'.gens)
  (hch:∀b∈ch,(b∈X.ex\/X.s₀.heap.objs.size<=b)/\b≠X.env.locals/\(∀x c,X.env.cells.lookup x=some c->c≠b)/\∀p∈X.pn++pins,p.1≠b):Inv X pins σ H' s':=by
 obtain⟨h',g',d',t',o'⟩:=s'
 have e:o'=s.os:=ho
 subst e
 exact I.call (g':=g') (t':=t') (d':=d') u hok hg hch
end
abbrev XK:=Value->Option Addr->Hp->Prop
abbrev St:=List (Option V)
abbrev VK:=V->Hp->Prop
abbrev TE:=St->Hp->VK->Prop
abbrev TT:=St->Hp->(Bool->Hp->Prop)->Prop
abbrev TA:=St->Hp->(List V->Hp->Prop)->Prop
set_option genInjectivity false in
set_option genInjectivity false in
structure Ends where
 nx:St->Hp->Prop
 rt:VK
 bk:St->Hp->Prop:=fun _ _=>False
 ct:St->Hp->Prop:=fun _ _=>False
abbrev TS:=Ends->St->Hp->Prop
def EP(X:Cx)(pins:List (Addr×Obj))(σ:St)(Q:VK)(u:Value)(s':Shared):Prop:=∃v H',Inv X pins σ H' s'/\RelV v u/\Q v H'
def TP(X:Cx)(pins:List (Addr×Obj))(σ:St)(Q:Bool->Hp->Prop)(b:Bool)(s':Shared):Prop:=∃H',Inv X pins σ H' s'/\Q b H'
def AP(X:Cx)(pins:List (Addr×Obj))(σ:St)(Q:List V->Hp->Prop)(us:List Value)(s':Shared):Prop:=∃vs H',Inv X pins σ H' s'/\Vals vs us/\Q vs H'
def SP(X:Cx)(pins:List (Addr×Obj))(D:Ends)(f:Flow)(s':Shared):Prop :=
 match f with
 |.next=>∃σ' H',Inv X pins σ' H' s'/\D.nx σ' H'
 |.brk=>∃σ' H',Inv X pins σ' H' s'/\D.bk σ' H'
 |.cont=>∃σ' H',Inv X pins σ' H' s'/\D.ct σ' H'
 |.ret u=>∃v σ' H',Inv X pins σ' H' s'/\RelV v u/\D.rt v H'
def PE(X:Cx)(e:Expr)(t:TE):Prop :=
 ∀(pins:List (Addr×Obj)) (s:Shared) (σ:St) (H:Hp) (Q:VK),Inv X pins σ H s->t σ H Q->wpAny (model X.prog X.w) X.A (eval e X.env) (EP X pins σ Q) X.xe s
def PT(X:Cx)(e:Expr)(t:TT):Prop :=
 ∀(pins:List (Addr×Obj)) (s:Shared) (σ:St) (H:Hp) (Q:Bool->Hp->Prop),Inv X pins σ H s->t σ H Q->wpAny (model X.prog X.w) X.A (isTrue e X.env (eval e X.env)) (TP X pins σ Q) X.xe s
def PW(X:Cx)(e:Expr)(t:TT):Prop :=
 ∀(whole:Sem Value) (pins:List (Addr×Obj)) (s:Shared) (σ:St) (H:Hp) (Q:Bool->Hp->Prop),Inv X pins σ H s->t σ H Q->wpAny (model X.prog X.w) X.A (isTrue e X.env whole) (TP X pins σ Q) X.xe s
theorem PW.pt{X:Cx}{e:Expr}{t:TT}(h:PW X e t):PT X e t:=h _
def PA(X:Cx)(es:List Expr)(t:TA):Prop :=
 ∀(pos:Pos) (pins:List (Addr×Obj)) (s:Shared) (σ:St) (H:Hp) (Q:List V->Hp->Prop),Inv X pins σ H s->t σ H Q->wpAny (model X.prog X.w) X.A (spliced (backTo pos (starEach es X.env))) (AP X pins σ Q) X.xe s
def PS(X:Cx)(st:Stmt)(t:TS):Prop :=
 ∀(pins:List (Addr×Obj)) (s:Shared) (σ:St) (H:Hp) (D:Ends),Inv X pins σ H s->t D σ H->wpAny (model X.prog X.w) X.A (exec st X.env) (SP X pins D) X.xe s
def PSs(X:Cx)(st:List Stmt)(t:TS):Prop :=
 ∀(pins:List (Addr×Obj)) (s:Shared) (σ:St) (H:Hp) (D:Ends),Inv X pins σ H s->t D σ H->wpAny (model X.prog X.w) X.A (execs st X.env) (SP X pins D) X.xe s
theorem thn{α:Type}{t:Sem α}{Q Q':α->Shared->Prop}{M:Model}{A:Around}{E:Value->Shared->Prop}{s:Shared}(h:wpAny M A t Q E s)(hQ:∀a s,Q a s->Q' a s):wpAny M A t Q' E s:=wpAny_mono h hQ fun _ _ x=>x
section
variable{X:Cx}
def tVar(i:Nat):TE:=fun σ H Q=>∃v,σ[i]?=some (some v)/\Q v H
def tC(v:V):TE:=fun _ H Q=>Q v H
theorem pe_var{i:Nat}{x:Str}{pos:Pos}(hN:X.N[i]?=some x)(hv:Vis X.env.scope x)(hd:autoParam ((x == ("__debug__":Str))=false) L2.aDec._auto_1)(hcd:autoParam ((x == ("__classdict__":Str))=false) L2.aDec._auto_1):PE X (.Name x pos) (tVar i):=by
 intro pins s σ H Q I h
 obtain⟨v,e,h⟩:=h
 obtain⟨m,hn,hl⟩:=I.loc
 obtain⟨u,r,l⟩:=hl i x v hN e hv
 have fin:EP X pins σ Q u s:=⟨v,H,I,r,h⟩
 rcases l with⟨hk,hm⟩ | ⟨hk,c,hc,hcell⟩
 .exact wpAny_Name (wpAny_loadName_local I.ok.kind hk hn hm fin) hd
 .rcases hk with hk | hk
  .exact wpAny_Name (wpAny_loadName_cell I.ok.kind hk hc hcell fin) hd
  .exact wpAny_Name (wpAny_loadName_free I.ok.kind hk hc hcell fin hcd) hd
theorem Qj{i j pos}:PE X (.Constant (.int i) j pos) (tC (.int i)):=fun _ _ _ H _ I h=>wpAny_Constant_int ⟨.int i,H,I.tok _,⟨_,rfl⟩,h⟩
theorem Qaf{b j pos}:PE X (.Constant (.bool b) j pos) (tC (.bl b)):=fun _ _ _ H _ I h=>Constant_bool ⟨.bl b,H,I,rfl,h⟩
theorem Ys{j pos}:PE X (.Constant .none j pos) (tC .non):=fun _ _ _ H _ I h=>Constant_none ⟨.non,H,I,rfl,h⟩
def Gl(X:Cx)(x:Str):Prop:=X.env.kindOf x=some .globalImplicit
theorem Qju{E:Value->Shared->Prop}{pins:List (Addr×Obj)}{s:Shared}{σ:St}{H:Hp}{x:Str}{u:Value}{pos:Pos}{Q:Value->Shared->Prop}(I:Inv X pins σ H s)(hg:Gl X x)(hm:X.mg x=some u)(h:Q u s)
  (hd:autoParam ((x == ("__debug__":Str))=false) L2.aDec._auto_1):wpAny (model X.prog X.w) X.A (eval (.Name x pos) X.env) Q E s :=
 Calls.Name_function_global I.ok.kind hg (Calls.loadGlobal_global (by rw[I.ok.glob];exact I.mod.glob.keeps I.bk) hm h) hd
theorem Jt{E:Value->Shared->Prop}{pins:List (Addr×Obj)}{s:Shared}{σ:St}{H:Hp}{x:Str}{u:Value}{pos:Pos}{Q:Value->Shared->Prop}(I:Inv X pins σ H s)(hg:Gl X x)(hm:X.mg x=none)(hv:bootBuiltins x=some u)(h:Q u s)
  (hn:autoParam (x≠"__name__") L2.aDec._auto_1) (hd:autoParam ((x == ("__debug__":Str))=false) L2.aDec._auto_1):wpAny (model X.prog X.w) X.A (eval (.Name x pos) X.env) Q E s:=by
 obtain⟨mb,h1,h2⟩:=I.mod.blt
 exact Calls.Name_function_global I.ok.kind hg (Calls.loadGlobal_builtin (by rw[I.ok.glob];exact I.mod.glob.keeps I.bk) hm (by rw[I.ok.blt];exact h1.keeps I.bk) ((h2 x hn).trans hv) h) hd
theorem Qsl{x:Str}{v:V}{u:Value}{pos:Pos}(hg:Gl X x)(hm:X.mg x=none)(hv:bootBuiltins x=some u)(r:RelV v u)(hn:autoParam (x≠"__name__") L2.aDec._auto_1)(hd:autoParam ((x == ("__debug__":Str))=false) L2.aDec._auto_1):PE X (.Name x pos) (tC v) :=
 fun _ _ _ H _ I h=>Jt I hg hm hv ⟨v,H,I,r,h⟩ hn hd
variable{a b:Expr}{ta tb:TE}{pos:Pos}
def tB(t:TE):TT:=fun σ H Q=>t σ H fun x H1=>∃c,x=.bl c/\Q c H1
theorem Vl{e:Expr}{t:TE}(h:PE X e t)(he:autoParam (∀whole,isTrue e X.env whole=(do let v ← whole;standAt e.pos;holding [v] (truthy v))) L2.aIrf._auto_1):PT X e (tB t):=by
 intro pins s σ H Q I hw
 refine isTrue_plain (thn (h pins s σ H _ I hw) fun v s1 hqP=>?_) (he _)
 obtain⟨x,H1,I1,r1,q1⟩:=hqP
 obtain⟨d,rfl,q⟩:=q1
 cases r1
 exact wpAny_truthy_bool ⟨H1,I1,q⟩
variable{tA tB':TT}{rest:List Expr}
def tAnd(t u:TT):TT:=fun σ H Q=>t σ H fun c H1=>if c=true then u σ H1 Q else Q false H1
def tOr(t u:TT):TT:=fun σ H Q=>t σ H fun c H1=>if c=true then Q true H1 else u σ H1 Q
def tNot(t:TT):TT:=fun σ H Q=>t σ H fun c H1=>Q (!c) H1
theorem Qsm(ha:PT X a tA):PW X (.BoolOp .And [a] pos) tA:=by
 intro wh pins s σ H Q I h
 refine isTrue_and (thn (ha pins s σ H Q I h) fun c s1 e=>?_)
 cases c with
 |true=>exact isTrue_and_nil e
 |false=>exact e
theorem Qgi(ha:PT X a tA):PW X (.BoolOp .Or [a] pos) tA:=by
 intro wh pins s σ H Q I h
 refine isTrue_or (thn (ha pins s σ H Q I h) fun c s1 e=>?_)
 cases c with
 |false=>exact isTrue_or_nil e
 |true=>exact e
theorem pw_and(ha:PT X a tA)(hb:PW X (.BoolOp .And (b::rest) pos) tB'):PW X (.BoolOp .And (a::b::rest) pos) (tAnd tA tB'):=by
 intro wh pins s σ H Q I h
 refine isTrue_and (thn (ha pins s σ H _ I h) fun c s1 hqP=>?_)
 obtain⟨H1,I1,q1⟩:=hqP
 cases c with
 |true=>exact hb wh pins s1 σ H1 Q I1 q1
 |false=>exact⟨H1,I1,q1⟩
theorem Qok(ha:PT X a tA)(hb:PW X (.BoolOp .Or (b::rest) pos) tB'):PW X (.BoolOp .Or (a::b::rest) pos) (tOr tA tB'):=by
 intro wh pins s σ H Q I h
 refine isTrue_or (thn (ha pins s σ H _ I h) fun c s1 hqP=>?_)
 obtain⟨H1,I1,q1⟩:=hqP
 cases c with
 |true=>exact⟨H1,I1,q1⟩
 |false=>exact hb wh pins s1 σ H1 Q I1 q1
theorem Qjv(ha:PT X a tA):PT X (.UnaryOp .Not a pos) (tNot tA):=by
 intro pins s σ H Q I h
 exact isTrue_not (ha pins s σ H (fun c H1=>Q (!c) H1) I h)
def tAndV(ta tb:TE):TE:=fun σ H Q=>ta σ H fun x H1=>∃c,x=.bl c/\if c=true then tb σ H1 Q else Q (.bl false) H1
def tNotV(ta:TE):TE:=fun σ H Q=>ta σ H fun x H1=>∃c,x=.bl c/\Q (.bl (!c)) H1
theorem Qcg{op}{t:TE}(h:PE X a t):PE X (.BoolOp op [a] pos) t:=fun pins s σ H Q I hw=>BoolOp_one (h pins s σ H Q I hw)
theorem Qch(ha:PE X a ta)(hb:PE X (.BoolOp .And (b::rest) pos) tb):PE X (.BoolOp .And (a::b::rest) pos) (tAndV ta tb):=by
 intro pins s σ H Q I h
 refine BoolOp_and (thn (ha pins s σ H _ I h) fun v s1 hqP=>?_)
 obtain⟨x,H1,I1,r1,q1⟩:=hqP
 obtain⟨c,rfl,q1⟩:=q1
 cases r1
 refine wpAny_truthy_bool ?_
 cases c with
 |true=>exact hb pins s1 σ H1 Q I1 q1
 |false=>exact⟨.bl false,H1,I1,rfl,q1⟩
theorem Qjw(ha:PE X a ta):PE X (.UnaryOp .Not a pos) (tNotV ta):=by
 intro pins s σ H Q I h
 refine UnaryOp_ (thn (ha pins s σ H _ I h) fun v s1 hqP=>?_)
 obtain⟨x,H1,I1,r1,q1⟩:=hqP
 obtain⟨c,rfl,q1⟩:=q1
 cases r1
 exact not_of (wpAny_truthy_bool ⟨.bl (!c),H1,I1,rfl,q1⟩)
def tIf(t:TT)(ta tb:TE):TE:=fun σ H Q=>t σ H fun c H1=>if c=true then ta σ H1 Q else tb σ H1 Q
theorem Qol{c:Expr}(hc:PT X c tA)(ha:PE X a ta)(hb:PE X b tb):PE X (.IfExp c a b pos) (tIf tA ta tb):=by
 intro pins s σ H Q I h
 refine wpAny_IfExp (thn (hc pins s σ H _ I h) fun d s1 hqP=>?_)
 obtain⟨H1,I1,q1⟩:=hqP
 cases d with
 |true=>exact ha pins s1 σ H1 Q I1 q1
 |false=>exact hb pins s1 σ H1 Q I1 q1
end
def SqL(K:Fg)(H:Hp)(a:Addr)(xs:List V):Prop :=
 Rd H a (.lst xs) \/
  ∃(o:Obj) (its:Array Value) (n:Nat),K.lookup a=some o/\o.cls=.type "list"/\o.dict=none/\o.data=.seq its n/\its.size<=sizeLine/\Vals xs its.toList
def SqT(K:Fg)(H:Hp)(a:Addr)(xs:List V):Prop :=
 Rd H a (.tup xs) \/
  ∃(o:Obj) (its:Array Value) (n:Nat),K.lookup a=some o/\o.cls=.type "tuple"/\o.data=.seq its n/\its.size<=sizeLine/\Vals xs its.toList
def absV:Value->Option V
 |.none=>some .non
 |.bool b=>some (.bl b)
 |.int i _=>some (.int i)
 |.str x _=>some (.str x)
 |.bytes b _=>some (.byt b)
 |.float b _=>some (.flt b)
 |.ref a=>some (.ref a)
 |.type n=>some (.ty n)
 |_=>none
theorem RelV.abs{x:V}{u:Value}(r:RelV x u):absV u=some x:=by
 cases x with
 |non=>cases r;rfl
 |bl _=>cases r;rfl
 |int _=>obtain⟨t,rfl⟩:=r;rfl
 |str _=>obtain⟨t,rfl⟩:=r;rfl
 |byt _=>obtain⟨t,rfl⟩:=r;rfl
 |flt _=>obtain⟨t,rfl⟩:=r;rfl
 |ref _=>cases r;rfl
 |ty _=>cases r;rfl
theorem RelV.inj{x y:V}{u:Value}(r:RelV x u)(q:RelV y u):x=y:=Option.some.inj (r.abs.symm.trans q.abs)
theorem Vals.inj{xs ys:List V}{us:List Value}(h:Vals xs us)(g:Vals ys us):xs=ys:=by
 induction h generalizing ys with
 |nil=>cases g;rfl
 |cons r t ih=>
  cases g with
  |cons r' t'=>rw[r.inj r',ih t']
section
variable{X:Cx}{pins:List (Addr×Obj)}{σ:St}{H:Hp}{s:Shared}{a:Addr}{xs ys:List V}
theorem Inv.list(I:Inv X pins σ H s)(h:SqL X.K H a xs):∃its:List Value,Vals xs its/\PlainL s.heap a its.toArray/\xs.length<=sizeLine:=by
 rcases h with h | ⟨o,its,n,hk,hc,hd,hs,hz,r⟩
 .obtain⟨z,its,n,r,e⟩:=h.ok I.hok
  exact⟨its,r,⟨_,n,e,rfl,rfl,rfl⟩,z⟩
 .refine⟨its.toList,r,⟨o,n,I.kIn a o hk,hc,hd,by simpa using hs⟩,?_⟩
  have e:=r.length
  simp only[zX]at e
  lia
theorem Inv.tuple(I:Inv X pins σ H s)(h:SqT X.K H a xs):∃its:List Value,Vals xs its/\IsTup s.heap a its.toArray/\xs.length<=sizeLine:=by
 rcases h with h | ⟨o,its,n,hk,hc,hs,hz,r⟩
 .obtain⟨z,its,r,p⟩:=h.ok I.hok
  exact⟨its,r,p,z⟩
 .refine⟨its.toList,r,⟨o,I.kIn a o hk,hc,n,by simpa using hs⟩,?_⟩
  have e:=r.length
  simp only[zX]at e
  lia
theorem Inv.list_inj(I:Inv X pins σ H s)(h:SqL X.K H a xs)(h':SqL X.K H a ys):xs=ys:=by
 obtain⟨its,r,⟨o,n,e,_,_,d⟩,_⟩:=I.list h
 obtain⟨its',r',⟨o',n',e',_,_,d'⟩,_⟩:=I.list h'
 rw[e]at e';cases e'
 rw[d]at d'
 injection d' with d1 _
 have:its=its':=by simpa using congrArg Array.toList d1
 subst this
 exact r.inj r'
theorem Inv.tuple_inj(I:Inv X pins σ H s)(h:SqT X.K H a xs)(h':SqT X.K H a ys):xs=ys:=by
 obtain⟨its,r,⟨o,e,_,n,d⟩,_⟩:=I.tuple h
 obtain⟨its',r',⟨o',e',_,n',d'⟩,_⟩:=I.tuple h'
 rw[e]at e';cases e'
 rw[d]at d'
 injection d' with d1 _
 have:its=its':=by simpa using congrArg Array.toList d1
 subst this
 exact r.inj r'
end
abbrev Cx.wish(X:Cx)(E:Value->Shared->Prop):Cx:={ X with xe:=E }
abbrev Cx.nox(X:Cx):Cx:=X.wish fun _ _=>False
theorem Cx.Ok.wish{X:Cx}(ok:X.Ok)(E:Value->Shared->Prop):(X.wish E).Ok :=
 ⟨ok.mod,ok.kind,ok.glob,ok.blt,ok.above,ok.inj,ok.has,ok.cab,ok.hd,ok.frames,ok.stk,ok.exf,ok.bs,ok.bsz,ok.noex,ok.exfs,ok.funs,ok.frf⟩
theorem Cx.Ok.unwish{X:Cx}{E:Value->Shared->Prop}(ok:(X.wish E).Ok):X.Ok :=
 ⟨ok.mod,ok.kind,ok.glob,ok.blt,ok.above,ok.inj,ok.has,ok.cab,ok.hd,ok.frames,ok.stk,ok.exf,ok.bs,ok.bsz,ok.noex,ok.exfs,ok.funs,ok.frf⟩
section
variable{X:Cx}{pins:List (Addr×Obj)}{σ:St}{H:Hp}{s:Shared}{E:Value->Shared->Prop}
theorem Inv.wish(I:Inv X pins σ H s)(E:Value->Shared->Prop):Inv (X.wish E) pins σ H s:=⟨I.ok.wish E,I.os,I.bare,I.base,I.loc,I.cell,I.free,I.freeC,I.pin,I.hok,I.len⟩
theorem Inv.unwish(I:Inv (X.wish E) pins σ H s):Inv X pins σ H s:=⟨I.ok.unwish,I.os,I.bare,I.base,I.loc,I.cell,I.free,I.freeC,I.pin,I.hok,I.len⟩
theorem SP.unwish{D:Ends}{f:Flow}{s':Shared}(h:SP (X.wish E) pins D f s'):SP X pins D f s':=by
 cases f with
 |next=>obtain⟨σ',H',I,q⟩:=h;exact⟨σ',H',I.unwish,q⟩
 |brk=>obtain⟨σ',H',I,q⟩:=h;exact⟨σ',H',I.unwish,q⟩
 |cont=>obtain⟨σ',H',I,q⟩:=h;exact⟨σ',H',I.unwish,q⟩
 |ret u=>obtain⟨v,σ',H',I,r,q⟩:=h;exact⟨v,σ',H',I.unwish,r,q⟩
theorem PSs.nox{st:List Stmt}{t:TS}(h:PSs X.nox st t):PSs X st t:=fun pins s σ H D I hw=>
 wpAny_mono (h pins s σ H D (I.wish _) hw) (fun _ _ q=>q.unwish) fun _ _ z=>False.elim z
end
section
variable{X:Cx}{st:Stmt}{rest:List Stmt}{t u:TS}{e:Expr}{te:TE}{pos:Pos}
def tNext:TS:=fun D σ H=>D.nx σ H
def tSeq(t u:TS):TS:=fun D σ H=>t { D with nx:=u D } σ H
theorem Xi:PSs X [] tNext:=fun _ _ σ H _ I h=>wpAny_execs_nil ⟨σ,H,I,h⟩
theorem Qg(h1:PS X st t)(h2:PSs X rest u):PSs X (st::rest) (tSeq t u):=by
 intro pins s σ H D I h
 refine wpAny_execs_cons (thn (h1 pins s σ H { D with nx:=u D } I h) fun f s1 q=>?_)
 cases f with
 |next=>
  obtain⟨σ',H',I',q⟩:=q
  exact h2 pins s1 σ' H' D I' q
 |ret v=>exact q
 |brk=>exact q
 |cont=>exact q
theorem Qm(h1:PS X st t):PSs X [st] t:=by
 intro pins s σ H D I h
 refine wpAny_execs_cons (thn (h1 pins s σ H D I h) fun f s1 q=>?_)
 cases f with
 |next=>exact wpAny_execs_nil q
 |ret v=>exact q
 |brk=>exact q
 |cont=>exact q
theorem Inv.quiet{pins:List (Addr×Obj)}{σ:St}{H:Hp}{s:Shared}(I:Inv X pins σ H s):interactive X.env=false:=by simp[interactive,I.ok.kind]
def tDrop(te:TE):TS:=fun D σ H=>te σ H fun _ H1=>D.nx σ H1
theorem Zb(he:PE X e te)(hs:autoParam (swapsWith e none pos.line X.env=pure false) L2.aRfl._auto_1):PS X (.Expr e pos) (tDrop te):=by
 intro pins s σ H D I h
 exact wpAny_Expr_any (thn (he pins s σ H _ I h) fun v s1 ⟨x,H1,I1,r1,q1⟩=>⟨σ,H1,I1,q1⟩) I.quiet hs
def tRet(te:TE):TS:=fun D σ H=>te σ H D.rt
theorem Qs(he:PE X e te):PS X (.Return (some e) pos) (tRet te):=by
 intro pins s σ H D I h
 exact wpAny_Return_some (thn (he pins s σ H _ I h) fun v s1 ⟨x,H1,I1,r1,q1⟩=>⟨x,σ,H1,I1,r1,q1⟩)
def tIfS(c:TT)(t u:TS):TS:=fun D σ H=>c σ H fun b H1=>if b=true then t D σ H1 else u D σ H1
theorem Zn{c:Expr}{a b:List Stmt}{tc:TT}(hc:PT X c tc)(ha:PSs X a t)(hb:PSs X b u):PS X (.If c a b pos) (tIfS tc t u):=by
 intro pins s σ H D I h
 refine wpAny_If (thn (hc pins s σ H _ I h) fun d s1 hqP=>?_)
 obtain⟨H1,I1,q1⟩:=hqP
 cases d with
 |true=>exact ha pins s1 σ H1 D I1 q1
 |false=>exact hb pins s1 σ H1 D I1 q1
end
abbrev TG:=V->St->Hp->(St->Hp->Prop)->Prop
abbrev TGs:=List V->St->Hp->(St->Hp->Prop)->Prop
def PG(X:Cx)(target:Expr)(t:TG):Prop :=
 ∀(pins:List (Addr×Obj)) (s:Shared) (σ:St) (H:Hp) (v:V) (u:Value) (Q:St->Hp->Prop),Inv X pins σ H s->RelV v u->t v σ H Q ->
  wpAny (model X.prog X.w) X.A (assign target X.env u) (fun _ s'=>∃σ' H',Inv X pins σ' H' s'/\Q σ' H') X.xe s
def PGs(X:Cx)(ts:List Expr)(t:TGs):Prop :=
 ∀(pins:List (Addr×Obj)) (s:Shared) (σ:St) (H:Hp) (vs:List V) (us:List Value) (Q:St->Hp->Prop),Inv X pins σ H s->Vals vs us->t vs σ H Q ->
  wpAny (model X.prog X.w) X.A (assignInOrder ((assignEach ts X.env).map (·.2)) us) (fun _ s'=>∃σ' H',Inv X pins σ' H' s'/\Q σ' H') X.xe s
abbrev TSet:=V->V->V->Hp->(Hp->Prop)->Prop
def PSet(X:Cx)(t:TSet):Prop :=
 ∀(pins:List (Addr×Obj)) (s:Shared) (σ:St) (H:Hp) (o i v:V) (ov iv u:Value) (Q:Hp->Prop),Inv X pins σ H s->RelV o ov->RelV i iv->RelV v u->t o i v H Q ->
  wpAny (model X.prog X.w) X.A (setItem ov iv u) (fun _ s'=>∃H',Inv X pins σ H' s'/\Q H') X.xe s
section
variable{X:Cx}{pos:Pos}
def Qag(i:Nat):TG:=fun v σ H Q=>Q (σ.set i (some v)) H
theorem Qz{i:Nat}{x:Str}(hN:X.N.Nodup)(hi:X.N[i]?=some x)(hx:Loc X.env.scope x)(hf:autoParam (X.fn x=true\/X.env.scope.names.lookup x=some .local) L2.aFst._auto_1):PG X (.Name x pos) (Qag i):=by
 intro pins s σ H v u Q I r h
 exact wpAny_assign_Name (Qgh I hN hi hx r (fun s' I'=>⟨_,H,I',h⟩) hf)
def gNil:TGs:=fun vs σ H Q=>vs=[]/\Q σ H
def Qsn(t:TG)(u:TGs):TGs:=fun vs σ H Q=>∃v r,vs=v::r/\t v σ H fun σ' H'=>u r σ' H' Q
theorem Qso:PGs X [] gNil:=by
 intro pins s σ H vs us Q I r h
 obtain⟨e,h⟩:=h
 subst e
 cases r
 exact assignInOrder_nil ⟨σ,H,I,h⟩
theorem Qgj{e:Expr}{es:List Expr}{t:TG}{u:TGs}(h1:PG X e t)(h2:PGs X es u)
  (hs:autoParam ((assignEach (e::es) X.env).map (·.2)=assign e X.env::(assignEach es X.env).map (·.2)) L2.aRfl._auto_1):PGs X (e::es) (Qsn t u):=by
 intro pins s σ H vs us Q I r h
 obtain⟨v,vr,e1,h⟩:=h
 subst e1
 cases r with
 |cons r rr=>
  rw[hs]
  refine assignInOrder_cons (thn (h1 pins s σ H _ _ _ I r h) fun _ s1 hqP=>?_)
  obtain⟨σ1,H1,I1,q1⟩:=hqP
  exact h2 pins s1 σ1 H1 _ _ Q I1 rr q1
def gTup(K:Fg)(n:Nat)(t:TGs):TG:=fun v σ H Q=>∃a xs,v=.ref a/\SqT K H a xs/\xs.length=n/\t xs σ H Q
theorem pg_tup{es:List Expr}{k:Nat}{t:TGs}{n:Nat}(hc:X.calm=true)(h:PGs X es t)
  (hn:autoParam ((assignEach es X.env).length=n) L2.aRfl._auto_1) (hst:autoParam ((assignEach es X.env).findIdx? (·.1)=none) L2.aRfl._auto_1):PG X (.Tuple es k pos) (gTup X.K n t):=by
 intro pins s σ H v u Q I r hw
 obtain⟨a,xs,e1,hq,hl,hw⟩:=hw
 subst e1
 cases r
 obtain⟨its,rv,ht,hz⟩:=I.tuple hq
 refine assign_Tuple_tuple (I.ok.hd hc) ht (by simp[hn,<-hl,rv.length]) hst fun h' hx=>?_
 have I1:Inv X pins σ H { s with heap:=h' }:=I.kept (t':=s.toks) fun b o e=>hx b o (yZ (kK e)) e
 exact h pins _ σ H xs _ Q I1 (by simpa using rv) hw
def gSub(to ti:TE)(t:TSet):TG:=fun v σ H Q=>to σ H fun o H1=>ti σ H1 fun i H2=>t o i v H2 fun H3=>Q σ H3
theorem Qgk{o i:Expr}{to ti:TE}{t:TSet}(ho:PE X o to)(hi:PE X i ti)(hs:PSet X t)
  (ha:∀v,assign (.Subscript o i pos) X.env v=(do
   let ov ← holding [v] (eval o X.env)
   let iv ← holding [v,ov] (eval i X.env)
   standAt pos
   holding [v,ov,iv] (setItem ov iv v)
   release [v,ov,iv] []):=by intro _;rfl):PG X (.Subscript o i pos) (gSub to ti t):=by
 intro pins s σ H v u Q I r h
 rw[ha]
 refine jQ (wpAny_holding (thn (ho pins s σ H _ I h) fun ov s1 hqP=>?_))
 obtain⟨x,H1,I1,r1,q1⟩:=hqP
 refine jQ (wpAny_holding (thn (hi pins s1 σ H1 _ I1 q1) fun iv s2 hqP=>?_))
 obtain⟨y,H2,I2,r2,q2⟩:=hqP
 refine jQ (wpAny_standAt (jQ (wpAny_holding (thn (hs pins s2 σ H2 x y v ov iv u _ I2 r1 r2 r q2) fun _ s3 hqP=>?_))))
 obtain⟨H3,I3,q3⟩:=hqP
 exact wpAny_release ⟨σ,H3,I3,q3⟩
def tAsg(te:TE)(g:TG):TS:=fun D σ H=>te σ H fun x H1=>g x σ H1 D.nx
theorem Qgl{tg e:Expr}{te:TE}{g:TG}(he:PE X e te)(hg:PG X tg g)(hs:autoParam (swapsWithSole [tg] e pos.line X.env=pure false) L2.aRfl._auto_1)(hw:autoParam (swappedStores [tg] e X.env=pure none) L2.aRfl._auto_1)
  (h1:autoParam ((assignEach [tg] X.env).map (·.2)=[assign tg X.env]) L2.aRfl._auto_1):PS X (.Assign [tg] e pos) (tAsg te g):=by
 intro pins s σ H D I h
 refine wpAny_Assign_stores (thn (he pins s σ H _ I h) fun v s1 hqP=>?_) hs hw
 obtain⟨x,H1,I1,r1,q1⟩:=hqP
 rw[h1]
 exact thn (hg pins s1 σ H1 x v _ I1 r1 q1) fun _ s2 q=>q
theorem Qo{i:Nat}{x:Str}{e:Expr}{te:TE}{pos':Pos}(hN:X.N.Nodup)(hi:X.N[i]?=some x)(hx:Loc X.env.scope x)(he:PE X e te)(hs:autoParam (swapsWith e (some (.Name x pos')) pos.line X.env=pure false) L2.aRfl._auto_1)(hf:autoParam (X.fn x=true\/X.env.scope.names.lookup x=some .local) L2.aFst._auto_1) :
  PS X (.Assign [.Name x pos'] e pos) (tAsg te (Qag i)):=by
 intro pins s σ H D I h
 refine wpAny_Assign_Name (thn (he pins s σ H _ I h) fun v s1 hqP=>?_) hs
 obtain⟨y,H1,I1,r1,q1⟩:=hqP
 exact Qgh I1 hN hi hx r1 (fun s2 I2=>⟨_,H1,I2,q1⟩) hf
end
section
variable{X:Cx}{pos:Pos}
def Qrm(c:TT)(tb:TS):TS:=fun D σ H=>∃W:Nat->St->Hp->Prop,(∃m,W m σ H)/\∀m σ H,W m σ H ->
 c σ H fun b H1=>if b=true then ∃N:St->Hp->Prop,(∀σ' H',N σ' H'->∃m',m'<m/\W m' σ' H')/\tb { D with nx:=N,ct:=N,bk:=D.nx } σ H1 else D.nx σ H1
theorem Qba{c:Expr}{body:List Stmt}{tc:TT}{tb:TS}(hp:PassesOwn (model X.prog X.w) X.A X.env X.xe)(hc:PT X c tc)(hb:PSs X body tb):PS X (.While c body [] pos) (Qrm tc tb):=by
 intro pins s σ H D I h
 obtain⟨W,⟨m0,w0⟩,turn⟩:=h
 refine wpAny_While (codeAny_whileLoop (fun n s'=>∃σ' H',Inv X pins σ' H' s'/\W n σ' H') ?_ m0 ⟨σ,H,I,w0⟩)
 rintro n s1 ⟨σ1,H1,I1,w1⟩
 refine wpAny_passesOwn hp (thn (hc pins s1 σ1 H1 _ I1 (turn n σ1 H1 w1)) fun b s2 hqP=>?_)
 obtain⟨H2,I2,q2⟩:=hqP
 cases b with
 |true=>
  obtain⟨N,hN,q2⟩:=q2
  rw[if_pos rfl]
  refine wpAny_passesOwn hp (thn (hb pins s2 σ1 H2 _ I2 q2) fun f s3 q3=>?_)
  cases f with
  |next=>
   obtain⟨σ3,H3,I3,n3⟩:=q3
   obtain⟨m',hm,w3⟩:=hN σ3 H3 n3
   exact⟨m',hm,σ3,H3,I3,w3⟩
  |cont=>
   obtain⟨σ3,H3,I3,n3⟩:=q3
   obtain⟨m',hm,w3⟩:=hN σ3 H3 n3
   exact⟨m',hm,σ3,H3,I3,w3⟩
  |brk=>exact q3
  |ret v=>exact q3
 |false=>
  rw[if_neg xQ]
  exact wpAny_execs_nil ⟨σ1,H2,I2,q2⟩
end
set_option genInjectivity false in
set_option genInjectivity false in
structure It where
 go:Nat->Hp->Prop
 yld:Nat->Hp->V->Hp->Prop
 stop:Nat->Hp->Prop
def FpOk(X:Cx)(pins:List (Addr×Obj))(H:Hp)(b:Addr):Prop :=
 H b=none/\b≠X.env.locals/\b∉X.fs/\(b∈X.ex\/X.s₀.heap.objs.size<=b)/\(∀x c,X.env.cells.lookup x=some c->c≠b)/\∀p∈X.pn++pins,p.1≠b
theorem Inv.fpOk{X:Cx}{pins:List (Addr×Obj)}{σ:St}{H H':Hp}{s:Shared}{b:Addr}(I:Inv X pins σ H s)(hb:s.heap.objs.size<=b)(hn:H' b=none):FpOk X pins H' b:=by
 refine⟨hn,kJa (xK I.lt hb),I.nofs hb,.inr (jQd I.sz hb),fun x c e z=>?_,fun p hp z=>?_⟩
 .obtain⟨v,q⟩:=I.cell x c e
  exact absurd (xK q.lt (by rw[z];exact hb)) (jJe _)
 .exact absurd (xK (kK (I.pin p hp).1) (by rw[z];exact hb)) (jJe _)
structure Turn(P:Program)(w:World)(K:Fg)(tg:Expr)(J:It)(fp:List Addr)(it:Addr)(tn:Nat->Heap->Prop):Prop where
 mem:it∈fp
 obj:∀i h,tn i h->∀b∈fp,∃o,h.get? b=some o/\∀v,o.data≠.cell v
 keep:∀i h h',tn i h->(∀b∈fp,∀o,h.get? b=some o->h'.get? b=some o)->tn i h'
 item:∀(X:Cx),X.prog=P->X.w=w->X.K=K->X.calm=true->∀(i:Nat) (pins:List (Addr×Obj)) (s:Shared) (σ:St) (H:Hp) (E:Value->Shared->Prop),Inv X pins σ H s->(∀b∈fp,FpOk X pins H b)->tn i s.heap->J.go i H ->
  wpAny (model P w) X.A (pyNext (.ref it)) (fun r s1=>∃u,r=some u /\
   wpAny (model P w) X.A (letOwnedTupleGo tg (.ref it) u) (fun _ s2=>∃x H',Inv X pins σ H' s2/\RelV x u/\J.yld i H x H'/\tn (i+1) s2.heap/\∀b∈fp,H' b=none) E s1) E s
 done:∀(X:Cx),X.prog=P->X.w=w->X.K=K->X.calm=true->∀(i:Nat) (pins:List (Addr×Obj)) (s:Shared) (σ:St) (H:Hp) (E:Value->Shared->Prop),Inv X pins σ H s->(∀b∈fp,FpOk X pins H b)->tn i s.heap->J.stop i H ->
  wpAny (model P w) X.A (pyNext (.ref it)) (fun r s1=>r=none/\Inv X pins σ H s1) E s
 self:∀(A:Around) (i:Nat) (s:Shared) (Q:Value->Shared->Prop) (E:Value->Shared->Prop),tn i s.heap->Q (.ref it) s->wpAny (model P w) A (pyIter (.ref it)) Q E s
abbrev TI:=St->Hp->(It->Hp->Prop)->Prop
def PIE(X:Cx)(pins:List (Addr×Obj))(σ:St)(tg:Expr)(R:It->Hp->Prop)(itv:Value)(s2:Shared):Prop :=
 ∃(it:Addr) (fp:List Addr) (tn:Nat->Heap->Prop) (J:It) (H':Hp),itv=.ref it/\Inv X pins σ H' s2/\Turn X.prog X.w X.K tg J fp it tn/\tn 0 s2.heap/\(∀b∈fp,FpOk X pins H' b)/\R J H'
def PI(X:Cx)(tg iter:Expr)(wi:TI):Prop :=
 ∀(pins:List (Addr×Obj)) (s:Shared) (σ:St) (H:Hp) (R:It->Hp->Prop),Inv X pins σ H s->wi σ H R ->
  wpAny (model X.prog X.w) X.A (eval iter X.env) (fun v s1=>wpAny (model X.prog X.w) X.A (pyIter v) (PIE X pins σ tg R) X.xe s1) X.xe s
theorem Qom {M:Model} {A:Around} {E:Value->Shared->Prop} {s:Shared} {tg:Expr} {it:Addr} {u:Value} {o:Obj} {n:String} {vs:Array Value} {Q:Unit->Shared->Prop} (ho:s.heap.get? it=some o) (hc:o.cls=.type n) (hd:o.data=.fields vs)
    (hn:["enumerate","zip","dict_itemiterator","dict_reverseitemiterator","odict_iterator","itertools.zip_longest","itertools.pairwise"].contains n=false) (hQ:Q () s):wpAny M A (letOwnedTupleGo tg (.ref it) u) Q E s:=by
  unfold letOwnedTupleGo
  cases tg<;>first
    |exact jJ hQ
    | (cases u <;> first
        |exact jJ hQ
        | (refine jQ (wpAny_load ho ?_)
           rw[hc,hd]
           show wpAny M A (if (["enumerate","zip","dict_itemiterator","dict_reverseitemiterator","odict_iterator","itertools.zip_longest","itertools.pairwise"].contains n&&vs[0]? == some (rawInt _))=true then _ else _) Q E s
           rw[if_neg (by intro h;rw[hn,Bool.false_and]at h;cases h)]
           exact jJ hQ))
def Itl(K:Fg)(a:Addr):It :=
 ⟨fun i H=>∃xs x,SqL K H a xs/\xs[i]?=some x,fun i H x H'=>H'=H/\∀xs,SqL K H a xs->xs[i]?=some x,fun i H=>∃xs,SqL K H a xs/\xs.length<=i⟩
def Itt(K:Fg)(a:Addr):It :=
 ⟨fun i H=>∃xs x,SqT K H a xs/\xs[i]?=some x,fun i H x H'=>H'=H/\∀xs,SqT K H a xs->xs[i]?=some x,fun i H=>∃xs,SqT K H a xs/\xs.length<=i⟩
def Itr(lo:Int)(n:Nat):It:=⟨fun i _=>i<n,fun i H x H'=>H'=H/\x=.int (lo+i),fun i _=>n<=i⟩
theorem Qjx{P:Program}{w:World}{K:Fg}{tg:Expr}(a it:Addr):Turn P w K tg (Itl K a) [it] it (fun i h=>h.IsListIter it a i) where
 mem:=by simp
 obj:=fun i h st b hb=>by
  have e:b=it:=by simpa using hb
  subst e
  obtain⟨o,e,c,d⟩:=st
  exact⟨o,e,fun v z=>by rw[d]at z;cases z⟩
 keep:=fun i h h' st k=>st.at fun o e=>k it (by simp) o e
 item:=by
  intro X hP hw hK hc i pins s σ H E I hf st hg
  subst hP hw hK
  obtain⟨xs,x,hq,hx⟩:=hg
  obtain⟨its,rv,p,hz⟩:=I.list hq
  obtain⟨u,hu,ru⟩:=rv.get hx
  obtain⟨f0,f1,f2,f3,f4,f5⟩:=hf it (by simp)
  refine wpAny_pyNext_list_item st p.isList (x:=u) (by simpa using hu) fun h' st' sb=>?_
  have I1:Inv X pins σ H { s with heap:=h' }:=I.turned (t':=s.toks) (fun b o hb e=>(sb.2 b hb).trans e) f0 f1 f3 f4 f5
  obtain⟨o,e,c,d⟩:=id st'
  exact⟨u,rfl,Qom (s:={ s with heap:=h' }) e c d Dc ⟨x,H,I1,ru,⟨rfl,fun ys hy=>by rw[I.list_inj hy hq];exact hx⟩,st',fun b hb=>(hf b hb).1⟩⟩
 done:=by
  intro X hP hw hK hc i pins s σ H E I hf st hg
  subst hP hw hK
  obtain⟨xs,hq,hx⟩:=hg
  obtain⟨its,rv,p,hz⟩:=I.list hq
  obtain⟨f0,f1,f2,f3,f4,f5⟩:=hf it (by simp)
  have hl:=rv.length
  exact wpAny_pyNext_list_end (I.ok.hd hc) st p.isList (by simp;lia) fun h' eb=>⟨rfl,I.turned (t':=s.toks) (fun b o hb e=>eb b o hb e) f0 f1 f3 f4 f5⟩
 self:=fun _ _ _ _ _ st h=>wpAny_pyIter_listiter st h
theorem Qij{P:Program}{w:World}{K:Fg}{tg:Expr}(a it:Addr):Turn P w K tg (Itt K a) [it] it (fun i h=>h.IsTupleIter it a i) where
 mem:=by simp
 obj:=fun i h st b hb=>by
  have e:b=it:=by simpa using hb
  subst e
  obtain⟨o,e,c,d⟩:=st
  exact⟨o,e,fun v z=>by rw[d]at z;cases z⟩
 keep:=fun i h h' st k=>st.at fun o e=>k it (by simp) o e
 item:=by
  intro X hP hw hK hc i pins s σ H E I hf st hg
  subst hP hw hK
  obtain⟨xs,x,hq,hx⟩:=hg
  obtain⟨its,rv,p,hz⟩:=I.tuple hq
  obtain⟨u,hu,ru⟩:=rv.get hx
  obtain⟨f0,f1,f2,f3,f4,f5⟩:=hf it (by simp)
  refine wpAny_pyNext_tuple_item st (show s.heap.IsTuple a its.toArray from p) (x:=u) (by simpa using hu) fun h' st' sb=>?_
  have I1:Inv X pins σ H { s with heap:=h' }:=I.turned (t':=s.toks) (fun b o hb e=>(sb.2 b hb).trans e) f0 f1 f3 f4 f5
  obtain⟨o,e,c,d⟩:=id st'
  exact⟨u,rfl,Qom (s:={ s with heap:=h' }) e c d Dc ⟨x,H,I1,ru,⟨rfl,fun ys hy=>by rw[I.tuple_inj hy hq];exact hx⟩,st',fun b hb=>(hf b hb).1⟩⟩
 done:=by
  intro X hP hw hK hc i pins s σ H E I hf st hg
  subst hP hw hK
  obtain⟨xs,hq,hx⟩:=hg
  obtain⟨its,rv,p,hz⟩:=I.tuple hq
  obtain⟨f0,f1,f2,f3,f4,f5⟩:=hf it (by simp)
  have hl:=rv.length
  exact wpAny_pyNext_tuple_end (I.ok.hd hc) st (show s.heap.IsTuple a its.toArray from p) (by simp;lia) fun h' eb=>⟨rfl,I.turned (t':=s.toks) (fun b o hb e=>eb b o hb e) f0 f1 f3 f4 f5⟩
 self:=fun _ _ _ _ _ st h=>wpAny_pyIter_tupleiter st h
theorem Qik{P:Program}{w:World}{K:Fg}{tg:Expr}(it:Addr)(lo:Int)(n:Nat):Turn P w K tg (Itr lo n) [it] it (fun i h=>IsRangeIter h it (lo+(i:Nat)*1) ((n:Int)-(i:Nat)) 1) where
 mem:=by simp
 obj:=fun i h st b hb=>by
  have e:b=it:=by simpa using hb
  subst e
  exact⟨_,st,fun v z=>by
   have z':Data.fields _=Data.cell v:=z
   cases z'⟩
 keep:=fun i h h' st k=>k it (by simp) _ st
 item:=by
  intro X hP hw hK hc i pins s σ H E I hf st hg
  subst hP hw hK
  obtain⟨f0,f1,f2,f3,f4,f5⟩:=hf it (by simp)
  have W:=Walks.range (prog:=X.prog) (w:=X.w) (I.ok.hd hc) it lo 1 n
  refine W.item i s _ _ hg st fun v h' tk hv st' kk=>?_
  obtain⟨t,rfl⟩:=hv
  have I1:Inv X pins σ H { s with heap:=h',toks:=tk }:=I.turned (fun b o hb e=>kk b o (by simpa using hb) e) f0 f1 f3 f4 f5
  refine⟨_,rfl,Qom (s:={ s with heap:=h',toks:=tk }) (n:="range_iterator") st' rfl rfl Dc ⟨.int (lo+i),H,I1,⟨t,?_⟩,⟨rfl,rfl⟩,st',fun b hb=>(hf b hb).1⟩⟩
  rw[Int.mul_one]
 done:=by
  intro X hP hw hK hc i pins s σ H E I hf st hg
  subst hP hw hK
  obtain⟨f0,f1,f2,f3,f4,f5⟩:=hf it (by simp)
  exact wpAny_pyNext_range_end (I.ok.hd hc) st (by have:n<=i:=hg;lia) fun h' eb=>⟨rfl,I.turned (t':=s.toks) (fun b o hb e=>eb b o hb e) f0 f1 f3 f4 f5⟩
 self:=fun _ _ _ _ _ st h=>wpAny_pyIter_rangeiter st h
section
variable{X:Cx}{tg:Expr}
def iList(K:Fg)(tl:TE):TI:=fun σ H R=>tl σ H fun x H1=>∃a,x=.ref a/\(∃xs,SqL K H1 a xs)/\R (Itl K a) H1
def iTup(K:Fg)(tl:TE):TI:=fun σ H R=>tl σ H fun x H1=>∃a,x=.ref a/\(∃xs,SqT K H1 a xs)/\R (Itt K a) H1
theorem Xj{l:Expr}{tl:TE}(hl:PE X l tl):PI X tg l (iList X.K tl):=by
 intro pins s σ H R I h
 refine thn (hl pins s σ H _ I h) fun v s1 hqP=>?_
 obtain⟨x,H1,I1,r1,q1⟩:=hqP
 obtain⟨a,e,⟨xs,hq⟩,q⟩:=q1
 subst e
 cases r1
 obtain⟨its,rv,p,hz⟩:=I1.list hq
 refine wpAny_pyIter_list p.isList ?_
 refine⟨s1.heap.objs.size,[s1.heap.objs.size],_,_,H1,rfl,I1.kept (t':=s1.toks) fun b o e=>jZ _ e,Qjx a _,⟨_,kX _ rfl,rfl,rfl⟩,fun b hb=>?_,q⟩
 have e:b=s1.heap.objs.size:=by simpa using hb
 subst e
 exact I1.fpOk (jW _) (I1.hok.fresh (jW _))
theorem pi_tup{l:Expr}{tl:TE}(hl:PE X l tl):PI X tg l (iTup X.K tl):=by
 intro pins s σ H R I h
 refine thn (hl pins s σ H _ I h) fun v s1 hqP=>?_
 obtain⟨x,H1,I1,r1,q1⟩:=hqP
 obtain⟨a,e,⟨xs,hq⟩,q⟩:=q1
 subst e
 cases r1
 obtain⟨its,rv,p,hz⟩:=I1.tuple hq
 refine wpAny_pyIter_tuple (show s1.heap.IsTuple a its.toArray from p) ?_
 refine⟨s1.heap.objs.size,[s1.heap.objs.size],_,_,H1,rfl,I1.kept (t':=s1.toks) fun b o e=>jZ _ e,Qij a _,⟨_,kX _ rfl,rfl,rfl⟩,fun b hb=>?_,q⟩
 have e:b=s1.heap.objs.size:=by simpa using hb
 subst e
 exact I1.fpOk (jW _) (I1.hok.fresh (jW _))
theorem Qon{pins:List (Addr×Obj)}{σ:St}{H:Hp}{s:Shared}{R:It->Hp->Prop}{E:Value->Shared->Prop}{lo hi:Int}{t u v:Tok}{tk:Nat}(I:Inv X pins σ H s)(h1:-(2 ^ 62)<=lo)(h2:lo<2 ^ 62)(h3:-(2 ^ 62)<=hi)(h4:hi<2 ^ 62)
  (q:R (Itr lo (hi-lo).toNat) H):wpAny (model X.prog X.w) X.A (pyIter (.ref s.heap.objs.size)) (PIE X pins σ tg R) E { s with heap:=s.heap.push { cls:=.type "range",data:=.fields #[.int lo t,.int hi u,.int 1 v] },toks:=tk }:=by
 refine wpAny_pyIter_range (IsRange.new ..) (small_one h1 h2 h3 h4) ?_
 have I1:Inv X pins σ H { s with heap:=s.heap.push { cls:=.type "range",data:=.fields #[.int lo t,.int hi u,.int 1 v] },toks:=tk }:=I.kept fun b o e=>jZ _ e
 refine⟨(s.heap.push { cls:=.type "range",data:=.fields #[.int lo t,.int hi u,.int 1 v] }).objs.size,[(s.heap.push { cls:=.type "range",data:=.fields #[.int lo t,.int hi u,.int 1 v] }).objs.size],_,_,H,rfl,
  I1.kept (t':=tk) fun b o e=>jZ _ e,Qik _ lo (hi-lo).toNat,?_,fun b hb=>?_,q⟩
 .have e1:lo+((0:Nat):Int)*1=lo:=by simp
  have e2:(((hi-lo).toNat:Nat):Int)-((0:Nat):Int)=Builtin.Range.rangeSize lo hi 1:=by rw[rangeSize_one];split<;>lia
  show IsRangeIter _ _ (lo+((0:Nat):Int)*1) ((((hi-lo).toNat:Nat):Int)-((0:Nat):Int)) 1
  rw[e1,e2]
  exact kX _ rfl
 .have e:b=(s.heap.push { cls:=.type "range",data:=.fields #[.int lo t,.int hi u,.int 1 v] }).objs.size:=by simpa using hb
  subst e
  exact I1.fpOk (jW _) (I1.hok.fresh (jW _))
def iRng1(ta:TA):TI:=fun σ H R=>ta σ H fun vs H1=>∃j:Int,vs=[.int j]/\-(2 ^ 62)<=j/\j<2 ^ 62/\R (Itr 0 j.toNat) H1
theorem Ya{a:Expr}{ta:TA}{p pos:Pos}(hg:Gl X "range")(hm:X.mg "range"=none)(ha:PA X [a] ta)(hs:autoParam (starEach [a] X.env=[(false,eval a X.env)]) L2.aRfl._auto_1):PI X tg (.Call (.Name "range" p) [a] [] pos) (iRng1 ta):=by
 intro pins s σ H R I h
 refine Call_ (Jt I hg hm boot_range (PyProof.Rows.callWith_type1 (thn (ha pos pins s σ H _ I h) fun us s1 hqP=>?_) hs rfl))
 obtain⟨vs,H1,I1,r1,q1⟩:=hqP
 obtain⟨j,e,q1,q2,q⟩:=q1
 subst e
 cases r1 with
 |cons r rr=>
  cases rr
  obtain⟨t,rfl⟩:=r
  exact call_range_1 (Qon I1 Om Om q1 q2 (by simpa using q))
def tFor(wi:TI)(g:TG)(tb:TS):TS:=fun D σ H=>wi σ H fun J H1=>∃W:Nat->Nat->St->Hp->Prop,(∃m,W 0 m σ H1)/\∀i m σ H,W i m σ H ->
 (J.stop i H/\D.nx σ H)\/(J.go i H/\∃N:St->Hp->Prop,(∀σ' H',N σ' H'->∃m',m'<m/\W (i+1) m' σ' H')/\∀x H',J.yld i H x H'->g x σ H' fun σ2 H2=>tb { D with nx:=N,ct:=N,bk:=D.nx } σ2 H2)
def Qci(fp:List Addr)(h:Heap):List (Addr×Obj):=fp.filterMap fun b=>(h.get? b).map fun o=>(b,o)
theorem Jj{fp:List Addr}{h:Heap}{b:Addr}{o:Obj}(hb:b∈fp)(e:h.get? b=some o):(b,o)∈Qci fp h:=yJb.mpr ⟨b,hb,by rw[e];rfl⟩
theorem Qjy{fp:List Addr}{h:Heap}{p:Addr×Obj}(hp:p∈Qci fp h):p.1∈fp/\h.get? p.1=some p.2:=by
 obtain⟨b,hb,e⟩:=yJb.mp hp
 cases q:h.get? b with
 |none=>rw[q]at e;cases e
 |some o=>
  rw[q]at e
  have e':(b,o)=p:=Option.some.inj e
  subst e'
  exact⟨hb,q⟩
theorem Inv.pinned{pins:List (Addr×Obj)}{σ:St}{H:Hp}{s:Shared}{fp:List Addr}(I:Inv X pins σ H s)(hf:∀b∈fp,FpOk X pins H b)(ho:∀b∈fp,∃o,s.heap.get? b=some o/\∀v,o.data≠.cell v):Inv X (pins++Qci fp s.heap) σ H s :=
 I.pins_of fun p hp=>(wX.mp hp).elim (fun z=>I.pin p (wJ _ z)) fun z=>by
  obtain⟨hb,e⟩:=Qjy z
  obtain⟨f0,f1,f2,_⟩:=hf p.1 hb
  obtain⟨o,e',d⟩:=ho p.1 hb
  rw[e]at e';cases e'
  exact⟨e,f0,f1,f2,d⟩
theorem Inv.unpinned{pins pl:List (Addr×Obj)}{σ:St}{H:Hp}{s:Shared}(I:Inv X (pins++pl) σ H s):Inv X pins σ H s:=I.pins_of fun p hp=>I.pin p (wJ _ (jYc _ hp))
theorem Yb{iter:Expr}{body:List Stmt}{wi:TI}{g:TG}{tb:TS}{pos:Pos}(hp:PassesOwn (model X.prog X.w) X.A X.env X.xe)(hc:X.calm=true)(hi:PI X tg iter wi)(hg:PG X tg g)(hb:PSs X body tb)
  (hs:autoParam (∀x,foldedSetIterable iter X.env x=pure x) L2.aIrf._auto_1):PS X (.For tg iter body [] pos) (tFor wi g tb):=by
 intro pins s σ H D I h
 refine wpAny_For (thn (hi pins s σ H _ I h) fun v s1 h1=>thn h1 fun itv s2 h2=>?_) hs
 obtain⟨it,fp,tn,J,H2,e,I2,T,st2,f2,W,⟨m0,w0⟩,turn⟩:=h2
 subst e
 -- what stays true of the iterator's objects through the loop
 have stat:∀{H':Hp},(∀b∈fp,H' b=none)->∀b∈fp,FpOk X pins H' b:=fun hn b hb=>⟨hn b hb,(f2 b hb).2⟩
 refine codeAny_forLoop_any (fun n s'=>∃i σ' H',Inv X pins σ' H' s'/\tn i s'.heap/\(∀b∈fp,H' b=none)/\W i n σ' H') ?_ m0 ⟨0,σ,H2,I2,st2,fun b hb=>(f2 b hb).1,w0⟩
 rintro n s3 ⟨i,σ3,H3,I3,st3,fr3,w3⟩
 rcases turn i n σ3 H3 w3 with⟨stop,qn⟩ | ⟨go,N,hN,step⟩
 .refine wpAny_passesOwn hp (thn (T.done X rfl rfl rfl hc i pins s3 σ3 H3 X.xe I3 (stat fr3) st3 stop) fun r s4 hqP=>?_)
  obtain⟨hr,I4⟩:=hqP
  subst hr
  exact wpAny_execs_nil ⟨σ3,H3,I4,qn⟩
 .refine wpAny_passesOwn hp (thn (T.item X rfl rfl rfl hc i pins s3 σ3 H3 X.xe I3 (stat fr3) st3 go) fun r s4 hqP=>?_)
  obtain⟨u,hr,h4⟩:=hqP
  subst hr
  refine wpAny_passesOwn hp (thn h4 fun _ s5 hqP=>?_)
  obtain⟨x,H5,I5,r5,y5,st5,fr5⟩:=hqP
  have I5':=I5.pinned (stat fr5) (T.obj _ _ st5)
  refine wpAny_passesOwn hp (thn (hg _ s5 σ3 H5 x u _ I5' r5 (step x H5 y5)) fun _ s6 hqP=>?_)
  obtain⟨σ6,H6,I6,q6⟩:=hqP
  refine wpAny_passesOwn hp (thn (hb _ s6 σ6 H6 _ I6 q6) fun f s7 q7=>?_)
  have again:∀{σ7:St} {H7:Hp},Inv X (pins++Qci fp s5.heap) σ7 H7 s7->N σ7 H7->∃m,m<n/\∃i σ' H',Inv X pins σ' H' s7/\tn i s7.heap/\(∀b∈fp,H' b=none)/\W i m σ' H':=fun{σ7 H7} I7 n7=>by
   obtain⟨m',hm,w7⟩:=hN σ7 H7 n7
   refine⟨m',hm,i+1,σ7,H7,I7.unpinned,T.keep _ _ _ st5 fun b hb o e=>(I7.pin (b,o) (wJ _ (wJ _ (Jj hb e)))).1,fun b hb=>?_,w7⟩
   obtain⟨o,e,d⟩:=T.obj _ _ st5 b hb
   exact(I7.pin (b,o) (wJ _ (wJ _ (Jj hb e)))).2.1
  cases f with
  |next=>obtain⟨σ7,H7,I7,n7⟩:=q7;exact again I7 n7
  |cont=>obtain⟨σ7,H7,I7,n7⟩:=q7;exact again I7 n7
  |brk=>obtain⟨σ7,H7,I7,q7⟩:=q7;exact⟨σ7,H7,I7.unpinned,q7⟩
  |ret v=>obtain⟨x7,σ7,H7,I7,r7,q7⟩:=q7;exact⟨x7,σ7,H7,I7.unpinned,r7,q7⟩
end
theorem Kd{K:Fg}{a:Addr}{xs:List V}{g:TG}{tb:TS}{D:Ends}{σ:St}{H:Hp}(Pv:Nat->St->Hp->Prop)(h0:Pv 0 σ H)(hl:∀i σ H,i<=xs.length->Pv i σ H->SqL K H a xs)
  (hs:∀i x σ H,xs[i]?=some x->Pv i σ H->g x σ H fun σ2 H2=>tb { D with nx:=Pv (i+1),ct:=Pv (i+1),bk:=D.nx } σ2 H2) (hd:∀σ H,Pv xs.length σ H->D.nx σ H) :
  ∃W:Nat->Nat->St->Hp->Prop,(∃m,W 0 m σ H)/\∀i m σ H,W i m σ H ->
   ((Itl K a).stop i H/\D.nx σ H)\/((Itl K a).go i H/\∃N:St->Hp->Prop,(∀σ' H',N σ' H'->∃m',m'<m/\W (i+1) m' σ' H')/\∀x H',(Itl K a).yld i H x H'->g x σ H' fun σ2 H2=>tb { D with nx:=N,ct:=N,bk:=D.nx } σ2 H2):=by
 refine⟨fun i m σ H=>m=xs.length-i/\i<=xs.length/\Pv i σ H,⟨xs.length,by simp,wY _,h0⟩,?_⟩
 rintro i m σ H ⟨rfl,hi,p⟩
 have q:=hl i σ H hi p
 by_cases hlt:i<xs.length
 .refine .inr ⟨⟨xs,xs[i],q,by simp[hlt]⟩,Pv (i+1),fun σ' H' p'=>⟨xs.length-(i+1),Om,rfl,hlt,p'⟩,fun x H' y=>?_⟩
  obtain⟨e,y⟩:=y
  subst e
  exact hs i x σ _ (y xs q) p
 .have e:i=xs.length:=Om
  subst e
  exact .inl ⟨⟨xs,q,jW _⟩,hd σ H p⟩
theorem Yn{lo:Int}{n:Nat}{g:TG}{tb:TS}{D:Ends}{σ:St}{H:Hp}(Pv:Nat->St->Hp->Prop)(h0:Pv 0 σ H)
  (hs:∀i σ H,i<n->Pv i σ H->g (.int (lo+i)) σ H fun σ2 H2=>tb { D with nx:=Pv (i+1),ct:=Pv (i+1),bk:=D.nx } σ2 H2) (hd:∀σ H,Pv n σ H->D.nx σ H) :
  ∃W:Nat->Nat->St->Hp->Prop,(∃m,W 0 m σ H)/\∀i m σ H,W i m σ H ->
   ((Itr lo n).stop i H/\D.nx σ H)\/((Itr lo n).go i H/\∃N:St->Hp->Prop,(∀σ' H',N σ' H'->∃m',m'<m/\W (i+1) m' σ' H')/\∀x H',(Itr lo n).yld i H x H'->g x σ H' fun σ2 H2=>tb { D with nx:=N,ct:=N,bk:=D.nx } σ2 H2):=by
 refine⟨fun i m σ H=>m=n-i/\i<=n/\Pv i σ H,⟨n,by simp,wY _,h0⟩,?_⟩
 rintro i m σ H ⟨rfl,hi,p⟩
 by_cases hlt:i<n
 .refine .inr ⟨hlt,Pv (i+1),fun σ' H' p'=>⟨n-(i+1),Om,rfl,hlt,p'⟩,fun x H' y=>?_⟩
  obtain⟨e,y⟩:=y
  subst e y
  exact hs i σ _ hlt p
 .have e:i=n:=Om
  subst e
  exact .inl ⟨jW _,hd σ H p⟩
theorem Qbb{c:TT}{tb:TS}{D:Ends}{σ:St}{H:Hp}(Pv:St->Hp->Prop)(μ:St->Hp->Nat)(h0:Pv σ H)
  (hs:∀σ H,Pv σ H->c σ H fun b H1=>if b=true then tb { D with nx:=fun σ' H'=>Pv σ' H'/\μ σ' H'<μ σ H,ct:=fun σ' H'=>Pv σ' H'/\μ σ' H'<μ σ H,bk:=D.nx } σ H1 else D.nx σ H1)
  (mono:∀σ H Q Q',(∀b H1,Q b H1->Q' b H1)->c σ H Q->c σ H Q'):Qrm c tb D σ H:=by
 refine⟨fun m σ H=>m=μ σ H/\Pv σ H,⟨_,rfl,h0⟩,?_⟩
 rintro m σ H ⟨rfl,p⟩
 refine mono σ H _ _ (fun b H1 q=>?_) (hs σ H p)
 cases b with
 |true=>exact⟨_,fun σ' H' ⟨p',l⟩=>⟨_,l,rfl,p'⟩,q⟩
 |false=>exact q
abbrev R2:=V->V->Hp->VK->Prop
def OpR(X:Cx)(f:Value->Value->Sem Value)(r:R2):Prop :=
 ∀(pins:List (Addr×Obj)) (s:Shared) (σ:St) (H:Hp) (x y:V) (v u:Value) (Q:VK),Inv X pins σ H s->RelV x v->RelV y u->r x y H Q ->
  wpAny (model X.prog X.w) X.A (f v u) (EP X pins σ Q) X.xe s
def UnR(X:Cx)(f:Value->Sem Value)(r:V->Hp->VK->Prop):Prop :=
 ∀(pins:List (Addr×Obj)) (s:Shared) (σ:St) (H:Hp) (x:V) (v:Value) (Q:VK),Inv X pins σ H s->RelV x v->r x H Q ->
  wpAny (model X.prog X.w) X.A (f v) (EP X pins σ Q) X.xe s
def Yc(X:Cx)(f:Value)(r:List V->Hp->VK->Prop):Prop :=
 ∀(pins:List (Addr×Obj)) (s:Shared) (σ:St) (H:Hp) (xs:List V) (us:List Value) (Q:VK),Inv X pins σ H s->Vals xs us->r xs H Q ->
  wpAny (model X.prog X.w) X.A (call f us) (EP X pins σ Q) X.xe s
def tOp(r:R2)(ta tb:TE):TE:=fun σ H Q=>ta σ H fun x H1=>tb σ H1 fun y H2=>r x y H2 Q
def tUn(r:V->Hp->VK->Prop)(ta:TE):TE:=fun σ H Q=>ta σ H fun x H1=>r x H1 Q
def rI(C:Int->Int->Prop)(g:Int->Int->V):R2:=fun x y H Q=>∃i j,x=.int i/\y=.int j/\C i j/\Q (g i j) H
def rI0(g:Int->Int->V):R2:=fun x y H Q=>∃i j,x=.int i/\y=.int j/\Q (g i j) H
def rU(g:Int->V):V->Hp->VK->Prop:=fun x H Q=>∃i,x=.int i/\Q (g i) H
section
variable{X:Cx}{a b:Expr}{ta tb:TE}{pos:Pos}
theorem binT(ha:PE X a ta)(hb:PE X b tb){pins:List (Addr×Obj)}{s:Shared}{σ:St}{H:Hp}{R:V->V->Hp->Prop}(I:Inv X pins σ H s)
  (h:ta σ H fun x H1=>tb σ H1 fun y H2=>R x y H2) {Q:Value->Shared->Prop} {f:Value->Value->Sem Value}
  (hf:∀v u s2 x y H2,Inv X pins σ H2 s2->RelV x v->RelV y u->R x y H2->wpAny (model X.prog X.w) X.A (f v u) Q X.xe s2) :
  wpAny (model X.prog X.w) X.A (eval a X.env) (fun v s₁=>wpAny (model X.prog X.w) X.A (eval b X.env) (fun u s₂=>wpAny (model X.prog X.w) X.A (f v u) Q X.xe s₂) X.xe s₁) X.xe s:=by
 refine thn (ha pins s σ H _ I h) fun v s1 hqP=>?_
 obtain⟨x,H1,I1,r1,q1⟩:=hqP
 refine thn (hb pins s1 σ H1 _ I1 q1) fun u s2 hqP=>?_
 obtain⟨y,H2,I2,r2,q2⟩:=hqP
 exact hf v u s2 x y H2 I2 r1 r2 q2
theorem Qx{op:Operator}{r:R2}(ho:OpR X (binaryOp op) r)(ha:PE X a ta)(hb:PE X b tb):PE X (.BinOp a op b pos) (tOp r ta tb):=by
 intro pins s σ H Q I h
 exact wpAny_BinOp (binT ha hb I h fun v u s2 x y H2 I2 rx ry q=>ho pins s2 σ H2 x y v u Q I2 rx ry q)
theorem Qoo{op:UnaryOp}{r:V->Hp->VK->Prop}(ho:UnR X (unaryOp op) r)(ha:PE X a ta):PE X (.UnaryOp op a pos) (tUn r ta):=by
 intro pins s σ H Q I h
 exact UnaryOp_ (thn (ha pins s σ H _ I h) fun v s1 ⟨x,H1,I1,r1,q1⟩=>ho pins s1 σ H1 x v Q I1 r1 q1)
theorem opI{f:Value->Value->Sem Value}{C:Int->Int->Prop}{g:Int->Int->Int}
  (rule:∀(i j:Int) (t u:Tok) (s:Shared) (Q:Value->Shared->Prop) (E:Value->Shared->Prop),C i j->Q (.int (g i j) s.toks) { s with toks:=s.toks+1 }->wpAny (model X.prog X.w) X.A (f (.int i t) (.int j u)) Q E s) :
  OpR X f (rI C fun i j=>.int (g i j)):=by
 intro pins s σ H x y v u Q I rx ry h
 obtain⟨i,j,rfl,rfl,hc,q⟩:=h
 obtain⟨t,rfl⟩:=rx
 obtain⟨t',rfl⟩:=ry
 exact rule i j t t' s _ _ hc ⟨.int (g i j),H,I.tok _,⟨_,rfl⟩,q⟩
theorem opI0{f:Value->Value->Sem Value}{g:Int->Int->Int}
  (rule:∀(i j:Int) (t u:Tok) (s:Shared) (Q:Value->Shared->Prop) (E:Value->Shared->Prop),Q (.int (g i j) s.toks) { s with toks:=s.toks+1 }->wpAny (model X.prog X.w) X.A (f (.int i t) (.int j u)) Q E s) :
  OpR X f (rI0 fun i j=>.int (g i j)):=by
 intro pins s σ H x y v u Q I rx ry h
 obtain⟨i,j,rfl,rfl,q⟩:=h
 obtain⟨t,rfl⟩:=rx
 obtain⟨t',rfl⟩:=ry
 exact rule i j t t' s _ _ ⟨.int (g i j),H,I.tok _,⟨_,rfl⟩,q⟩
theorem opB0{f:Value->Value->Sem Value}{g:Int->Int->Bool}
  (rule:∀(i j:Int) (t u:Tok) (s:Shared) (Q:Value->Shared->Prop) (E:Value->Shared->Prop),Q (.bool (g i j)) s->wpAny (model X.prog X.w) X.A (f (.int i t) (.int j u)) Q E s) :
  OpR X f (rI0 fun i j=>.bl (g i j)):=by
 intro pins s σ H x y v u Q I rx ry h
 obtain⟨i,j,rfl,rfl,q⟩:=h
 obtain⟨t,rfl⟩:=rx
 obtain⟨t',rfl⟩:=ry
 exact rule i j t t' s _ _ ⟨.bl (g i j),H,I,rfl,q⟩
def CDiv(i j:Int):Prop:=0<j/\j<1073741824
def CPow(i j:Int):Prop:=0<=j/\j<=1000000/\i.natAbs<2 ^ 64
def CMul(i j:Int):Prop:=(-(2 ^ 64)<i/\i<2 ^ 64)\/(-(2 ^ 64)<j/\j<2 ^ 64)
theorem CMul.ok{i j:Int}(h:CMul i j):IntMulOk i j:=by
 rcases h with⟨h1,h2⟩ | ⟨h1,h2⟩
 .exact .of_left (intBits_le_64 h1 h2)
 .exact .of_right (intBits_le_64 h1 h2)
theorem Yi:OpR X (binaryOp .Add) (rI0 fun i j=>.int (i+j)):=opI0 fun _ _ _ _ _ _ _ q=>add_int q
theorem Qgm:OpR X (binaryOp .Sub) (rI0 fun i j=>.int (i-j)):=opI0 fun _ _ _ _ _ _ _ q=>sub_int q
theorem Ke:OpR X (binaryOp .Mult) (rI CMul fun i j=>.int (i*j)):=opI fun _ _ _ _ _ _ _ hc q=>mul_int q hc.ok
theorem Jv:OpR X (binaryOp .FloorDiv) (rI CDiv fun i j=>.int (i / j)):=opI fun i j _ _ _ _ _ hc q=>by
 have h1:(0:Int)<j:=hc.1
 have h2:j<1073741824:=hc.2
 exact floordiv_int Om (by rw[Int.fdiv_eq_ediv_of_nonneg i Om];exact q) (.inl (PyProof.noPylong_small Om))
theorem Zc:OpR X (binaryOp .Mod) (rI (fun _ j=>0<j) fun i j=>.int (i % j)):=opI fun i j _ _ _ _ _ hc q=>by
 have h1:(0:Int)<j:=hc
 exact mod_int' Om (by rw[Int.fmod_eq_emod_of_nonneg i Om];exact q)
theorem Qrn:OpR X (binaryOp .Pow) (rI CPow fun i j=>.int (i ^ j.toNat)):=opI fun _ _ _ _ _ _ _ hc q=>pow_int_small hc.1 hc.2.1 hc.2.2 q
theorem unI{f:Value->Sem Value}{g:Int->Int}
  (rule:∀(i:Int) (t:Tok) (s:Shared) (Q:Value->Shared->Prop) (E:Value->Shared->Prop),Q (.int (g i) s.toks) { s with toks:=s.toks+1 }->wpAny (model X.prog X.w) X.A (f (.int i t)) Q E s) :
  UnR X f (rU fun i=>.int (g i)):=by
 intro pins s σ H x v Q I rx h
 obtain⟨i,rfl,q⟩:=h
 obtain⟨t,rfl⟩:=rx
 exact rule i t s _ _ ⟨.int (g i),H,I.tok _,⟨_,rfl⟩,q⟩
theorem Qgn:UnR X (unaryOp .USub) (rU fun i=>.int (-i)):=unI fun _ _ _ _ _ q=>neg_int q
end
def scal:V->V->Bool
 |.non,.non=>true | .non,.int _=>true | .int _,.non=>true | .non,.bl _=>true | .bl _,.non=>true | .non,.str _=>true | .str _,.non=>true
 |.int _,.int _=>true | .bl _,.bl _=>true | .str _,.str _=>true | .byt _,.byt _=>true
 |.int _,.str _=>true | .str _,.int _=>true | .bl _,.str _=>true | .str _,.bl _=>true
 |_,_=>false
def rEq:R2:=fun x y H Q=>scal x y=true/\Q (.bl (decide (x=y))) H
def rNe:R2:=fun x y H Q=>scal x y=true/\Q (.bl (!decide (x=y))) H
theorem Qjz{i j:Int}:decide (V.int i=V.int j)=(i == j):=by
 rw[jKf]
 simp
theorem Qro{i j:Bool}:decide (V.bl i=V.bl j)=(i == j):=by
 rw[jKf]
 simp
theorem Qka{i j:Str}:decide (V.str i=V.str j)=(i == j):=by
 rw[jKf]
 simp
theorem Qkb{i j:Array UInt8}:decide (V.byt i=V.byt j)=(i.toList == j.toList):=by
 rw[jKf]
 cases i
 cases j
 simp
section
variable{X:Cx}{a b c:Expr}{ta tb:TE}{pos:Pos}
theorem Xe{pins:List (Addr×Obj)}{σ:St}{H:Hp}{s:Shared}{Q:VK}{k k':Bool}(I:Inv X pins σ H s)(q:Q (.bl k) H)(e:k=k'):EP X pins σ Q (.bool k') s:=by
 subst e
 exact⟨.bl k,H,I,rfl,q⟩
theorem Qeu:OpR X (compareOp .Eq) rEq:=by
 intro pins s σ H x y v u Q I rx ry h
 obtain⟨hs,q⟩:=h
 cases x with
 |non=>
  cases rx
  cases y with
  |non=>cases ry;exact PySem.EqNone.eq_none_none (Xe I q (by simp))
  |bl j=>cases ry;exact PySem.EqNone.eq_none_bool (Xe I q (by simp))
  |int j=>obtain⟨t',rfl⟩:=ry;exact PySem.EqNone.eq_none_int (Xe I q (by simp))
  |str j=>obtain⟨t',rfl⟩:=ry;exact PySem.EqNone.eq_none_str (Xe I q (by simp))
  |_=>exact absurd (show false=true from hs) xQ
 |bl i=>
  cases rx
  cases y with
  |non=>cases ry;exact PySem.EqNone.eq_bool_none (Xe I q (by simp))
  |bl j=>cases ry;exact eq_bool (Xe I q Qro)
  |str j=>obtain⟨t',rfl⟩:=ry;exact PySem.EqMixed.eq_bool_str (Xe I q (by simp))
  |_=>exact absurd (show false=true from hs) xQ
 |int i=>
  obtain⟨t,rfl⟩:=rx
  cases y with
  |non=>cases ry;exact PySem.EqNone.eq_int_none (Xe I q (by simp))
  |int j=>obtain⟨t',rfl⟩:=ry;exact eq_int (Xe I q Qjz)
  |str j=>obtain⟨t',rfl⟩:=ry;exact PySem.EqMixed.eq_int_str (Xe I q (by simp))
  |_=>exact absurd (show false=true from hs) xQ
 |str i=>
  obtain⟨t,rfl⟩:=rx
  cases y with
  |non=>cases ry;exact PySem.EqNone.eq_str_none (Xe I q (by simp))
  |bl j=>cases ry;exact PySem.EqMixed.eq_str_bool (Xe I q (by simp))
  |int j=>obtain⟨t',rfl⟩:=ry;exact PySem.EqMixed.eq_str_int (Xe I q (by simp))
  |str j=>obtain⟨t',rfl⟩:=ry;exact eq_str (Xe I q Qka)
  |_=>exact absurd (show false=true from hs) xQ
 |byt i=>
  obtain⟨t,rfl⟩:=rx
  cases y with
  |byt j=>obtain⟨t',rfl⟩:=ry;exact PySem.W.eq_bytes (Xe I q Qkb)
  |_=>exact absurd (show false=true from hs) xQ
 |_=>cases y<;>exact absurd (show false=true from hs) xQ
theorem Qop:OpR X (compareOp .NotEq) rNe:=by
 intro pins s σ H x y v u Q I rx ry h
 obtain⟨hs,q⟩:=h
 cases x with
 |non=>
  cases rx
  cases y with
  |non=>cases ry;exact PySem.EqNone.ne_none_none (Xe I q (by simp))
  |bl j=>cases ry;exact PySem.EqNone.ne_none_bool (Xe I q (by simp))
  |int j=>obtain⟨t',rfl⟩:=ry;exact PySem.EqNone.ne_none_int (Xe I q (by simp))
  |str j=>obtain⟨t',rfl⟩:=ry;exact PySem.EqNone.ne_none_str (Xe I q (by simp))
  |_=>exact absurd (show false=true from hs) xQ
 |bl i=>
  cases rx
  cases y with
  |non=>cases ry;exact PySem.EqNone.ne_bool_none (Xe I q (by simp))
  |bl j=>cases ry;exact ne_bool (Xe I q (congrArg not Qro))
  |str j=>obtain⟨t',rfl⟩:=ry;exact PySem.EqMixed.ne_bool_str (Xe I q (by simp))
  |_=>exact absurd (show false=true from hs) xQ
 |int i=>
  obtain⟨t,rfl⟩:=rx
  cases y with
  |non=>cases ry;exact PySem.EqNone.ne_int_none (Xe I q (by simp))
  |int j=>obtain⟨t',rfl⟩:=ry;exact ne_int (Xe I q (congrArg not Qjz))
  |str j=>obtain⟨t',rfl⟩:=ry;exact PySem.EqMixed.ne_int_str (Xe I q (by simp))
  |_=>exact absurd (show false=true from hs) xQ
 |str i=>
  obtain⟨t,rfl⟩:=rx
  cases y with
  |non=>cases ry;exact PySem.EqNone.ne_str_none (Xe I q (by simp))
  |bl j=>cases ry;exact PySem.EqMixed.ne_str_bool (Xe I q (by simp))
  |int j=>obtain⟨t',rfl⟩:=ry;exact PySem.EqMixed.ne_str_int (Xe I q (by simp))
  |str j=>obtain⟨t',rfl⟩:=ry;exact ne_str (Xe I q (congrArg not Qka))
  |_=>exact absurd (show false=true from hs) xQ
 |byt i=>
  obtain⟨t,rfl⟩:=rx
  cases y with
  |byt j=>obtain⟨t',rfl⟩:=ry;exact PySem.W.ne_bytes (Xe I q (congrArg not Qkb))
  |_=>exact absurd (show false=true from hs) xQ
 |_=>cases y<;>exact absurd (show false=true from hs) xQ
theorem op_lt:OpR X (compareOp .Lt) (rI0 fun i j=>.bl (decide (i<j))):=opB0 fun _ _ _ _ _ _ _ q=>lt_int q
theorem Qsp:OpR X (compareOp .Gt) (rI0 fun i j=>.bl (decide (j<i))):=opB0 fun _ _ _ _ _ _ _ q=>gt_int q
theorem Qal:OpR X (compareOp .Is) (fun x y H Q=>y=.non/\Q (.bl (decide (x=.non))) H):=by
 intro pins s σ H x y v u Q I rx ry h
 obtain⟨rfl,q⟩:=h
 cases ry
 refine is_none_gen (Xe I q ?_)
 cases x<;>first
  |(cases rx;rfl)
  |(obtain⟨t,rfl⟩:=rx;rfl)
theorem Qev:OpR X (compareOp .IsNot) (fun x y H Q=>y=.non/\Q (.bl (!decide (x=.non))) H):=by
 intro pins s σ H x y v u Q I rx ry h
 obtain⟨rfl,q⟩:=h
 cases ry
 refine isnot_none_gen (Xe I q ?_)
 cases x<;>first
  |(cases rx;rfl)
  |(obtain⟨t,rfl⟩:=rx;rfl)
theorem Xf(b:Expr){op:CmpOp}(h:autoParam (op≠.In) L2.aDec._auto_1)(h2:autoParam (op≠.NotIn) L2.aDec._auto_1):behindInMarks op b=false:=by
 have e1:(op == CmpOp.In)=false:=by cases op<;>first | rfl | exact absurd rfl h
 have e2:(op == CmpOp.NotIn)=false:=by cases op<;>first | rfl | exact absurd rfl h2
 cases b<;>simp[behindInMarks,e1,e2]
theorem Zz{op:CmpOp}{r:R2}(ho:OpR X (compareOp op) r)(ha:PE X a ta)(hb:PE X b tb)(hm:behindInMarks op b=false):PE X (.Compare a [op] [b] pos) (tOp r ta tb):=by
 intro pins s σ H Q I h
 exact wpAny_Compare1 (binT ha hb I h fun v u s2 x y H2 I2 rx ry q=>ho pins s2 σ H2 x y v u Q I2 rx ry q) hm
def tTest(t:TE):TT:=fun σ H Q=>t σ H fun x H'=>∃k,x=.bl k/\Q k H'
theorem Xc{op:CmpOp}{r:R2}(ho:OpR X (compareOp op) r)(ha:PE X a ta)(hb:PE X b tb)(hm:behindInMarks op b=false):PT X (.Compare a [op] [b] pos) (tTest (tOp r ta tb)):=by
 intro pins s σ H Q I h
 refine wpAny_isTrue_Compare1 (thn (ha pins s σ H _ I h) fun v s1 ⟨x,H1,I1,r1,q1⟩=>thn (hb pins s1 σ H1 _ I1 q1) fun u s2 ⟨y,H2,I2,r2,q2⟩=>
  thn (ho pins s2 σ H2 x y v u _ I2 r1 r2 q2) fun c s3 ⟨z,H3,I3,r3,k,e,q3⟩=>?_) hm
 subst e
 cases r3
 exact wpAny_truthy_bool ⟨H3,I3,q3⟩
theorem Qcj:(sizeLine:Nat)<2 ^ 63:=by rw[sizeLine_eq];decide
theorem vals1{x:V}{us:List Value}(r:Vals [x] us):∃u,us=[u]/\RelV x u:=by
 cases r with
 |cons r1 r2=>cases r2;exact⟨_,rfl,r1⟩
theorem vals2{x y:V}{us:List Value}(r:Vals [x,y] us):∃u w',us=[u,w']/\RelV x u/\RelV y w':=by
 cases r with
 |cons r1 r2=>
  cases r2 with
  |cons r3 r4=>cases r4;exact⟨_,_,rfl,r1,r3⟩
theorem Qkc(hc:X.calm=true):Yc X (.builtin "min") (fun xs H Q=>∃i j,xs=[.int i,.int j]/\Q (.int (if j<i then j else i)) H):=by
 intro pins s σ H xs us Q I r h
 obtain⟨i,j,rfl,q⟩:=h
 obtain⟨u,w',rfl,⟨t,rfl⟩,⟨t',rfl⟩⟩:=vals2 r
 refine min_two_ints (I.ok.hd hc) fun h' tk k=>⟨_,H,I.kept k,?_,q⟩
 by_cases hj:j<i
 .rw[if_pos hj,if_pos hj];exact⟨_,rfl⟩
 .rw[if_neg hj,if_neg hj];exact⟨_,rfl⟩
theorem Qck:Yc X (.type "int") (fun xs H Q=>(∃i,xs=[.int i]/\Q (.int i) H)\/∃k,xs=[.bl k]/\Q (.int (if k then 1 else 0)) H):=by
 intro pins s σ H xs us Q I r h
 rcases h with⟨i,rfl,q⟩ | ⟨k,rfl,q⟩
 .obtain⟨u,rfl,t,rfl⟩:=vals1 r
  exact call_int_int ⟨.int i,H,I,⟨_,rfl⟩,q⟩
 .obtain⟨u,rfl,r1⟩:=vals1 r
  cases r1
  exact call_int_bool ⟨.int (if k then 1 else 0),H,I.tok _,⟨_,rfl⟩,q⟩
end
structure ObjM(h:Heap)(x dx C:Addr)(mA:Str->Option Value):Prop where
 obj:h.get? x=some (PySem.W.instObj C dx)
 ns:h.Ns1 dx mA
 ne:dx≠x
theorem Qkd{h:Heap}{dx:Addr}{mA:Str->Option Value}(n:h.Ns1 dx mA):∃od,h.get? dx=some od/\∀name,PySem.W.lookIn name od=some (mA name):=by
 obtain⟨o,es,ep,ho,hd,hk,_,hm⟩:=n
 refine⟨o,ho,fun name=>?_⟩
 have e:=hm name
 unfold nsFind findBy at e
 rw[<-Array.find?_toList]at e
 unfold PySem.W.lookIn
 rw[hd]
 dsimp only
 split
 .rename_i y q
  rw[q]at e
  exact congrArg some e
 .rename_i q
  rw[q]at e
  have a:es.toList.any (·.refKey)=false:=by
   rw[List.any_eq_false]
   intro y hy
   obtain⟨z,t,hkey⟩:=hk y (Array.mem_toList_iff.mp hy)
   simp[DictEntry.refKey,hkey]
  have a':¬es.toList.any (·.refKey)=true:=by rw[a];exact xQ
  rw[if_neg a']
  exact congrArg some e
theorem ObjM.look{h:Heap}{x dx C:Addr}{mA:Str->Option Value}(I:ObjM h x dx C mA):∃od,PySem.W.InstAt h x (PySem.W.instObj C dx) C (some od)/\∀name,PySem.W.lookIn name od=some (mA name) :=
 let ⟨od,ho,hl⟩:=Qkd I.ns
 ⟨od,⟨I.obj,rfl,rfl,ho⟩,hl⟩
section
variable{prog:Program}{w:World}{A:Around}{E:Value->Shared->Prop}{s:Shared}{K:Fg}{x dx C f:Addr}{mA:Str->Option Value}{name:Str}{v:Value}
theorem get_map{expr:Bool}{Q:Value->Shared->Prop}(X:K.In s.heap)(I:ObjM s.heap x dx C mA)(hg:PySem.W.plainGet K C name=true)(hh:PySem.W.hasDictIn K C=true)
  (ha:PySem.W.findIn K (.ref C) name=some none) (hv:mA name=some v) (hv':PySem.W.handedIn v=true) (h:Q v { s with toks:=s.toks+1 }) :
  wpAny (model prog w) A (getAttr (.ref x) name expr) Q E s:=by
 obtain⟨od,J,hl⟩:=I.look
 exact PySem.W.get_value X J (PySem.W.plainGet_of hg).1 (PySem.W.findObj_own hh ha rfl (by rw[hl,hv])) hv' h
theorem Qoq{pl:Sem Bool}{Q:Value×List Value->Shared->Prop}(X:K.In s.heap)(I:ObjM s.heap x dx C mA)(hg:PySem.W.plainGet K C name=true)
  (hf:PySem.W.findIn K (.ref C) name=some (some (.ref f))) (ht:PySem.W.isFn K (.ref f)=true) (hv:mA name=none) (h:Q (.ref f,[.ref x]) s) :
  wpAny (model prog w) A (getMethod (.ref x) name pl) Q E s:=by
 obtain⟨od,J,hl⟩:=I.look
 exact PySem.W.method_fn X J (PySem.W.plainGet_of hg).1 (PySem.W.plainGet_of hg).2 hf (beq_iff_eq.mp ht) (by show(PySem.W.lookIn name od).map (·.isSome)=some false;rw[hl,hv];rfl) h
theorem Qsq{ns:List Str}{Q:Unit->Shared->Prop}(X:K.In s.heap)(I:ObjM s.heap x dx C mA)
  (hs:PySem.W.findIn K (.ref C) "__setattr__"=some (some (.builtin "object.__setattr__"))) (hp:PySem.W.plainOver K C=true) (ht:PySem.W.takerIn K C name=some none) (hh:PySem.W.hasDictIn K C=true)
  (hw:PySem.Within mA ns) (hsz:ns.length<=sizeLine)
  (h:∀h',ObjM h' x dx C (fun y=>if y=name then some v else mA y)->Heap.SameBut dx s.heap h'->Q () { s with heap:=h',toks:=s.toks+2 }) :
  wpAny (model prog w) A (setAttr (.ref x) name v) Q E s:=by
 obtain⟨od,J,hl⟩:=I.look
 refine PySem.W.set_plain X J hs (PySem.W.osa_open (s:={ s with toks:=s.toks+1 }) (r:=none) X J hp ht fun b=>?_)
 obtain⟨cd,hc,hd'⟩:=PySem.W.any_some hh
 have hx:s.heap.get? x=some ⟨.ref C,some dx,.plain,#[]⟩:=I.obj
 refine jQ (jJ (jQ (jQ (wpAny_loadPart hx (jQ (PySem.W.Looks.here (s:={ s with toks:=s.toks+1 }) (PySem.W.looks_clsIn X hc) ?_))))))
 rw[hd']
 refine jJ (a:=some dx) (jQ (jJ (jQ ?_)))
 refine wpAny_nsSet1 (s:={ s with toks:=s.toks+1 }) I.ns fun h' hn2 hs2=>?_
 obtain⟨oD,esD,epD,hoD,hdD,hcD⟩:=hn2.count (PySem.Within.cons name v hw)
 refine jQ (wpAny_lookBehind hoD (by rw[hdD];exact pastItsLine_dict (jQd hcD (by rw[yW];lia))) ?_)
 exact jJ (h _ ⟨(hs2.2 _ (Ne.symm I.ne)).trans I.obj,hn2,I.ne⟩ hs2)
theorem Qor{R:Result->Shared->Prop}{vs:List Value}{kw:List (Str×Value)}(X:K.In s.heap)(hm:PySem.W.makesIn K C=true)
  (hi:PySem.W.findIn K (.ref C) "__init__"=some (some (.ref f))) (hf:PySem.W.typeIn K (.ref f)=some (.type "function"))
  (h:codeAny (model prog w) (A.under (.builtin "type.__call__" ⟨.ref C::vs,kw⟩)) (.call (.ref f) ⟨.ref (s.heap.objs.size+1)::vs,kw⟩) (PySem.W.InitBack (s.heap.objs.size+1) R)
   { s with heap:=(s.heap.push PySem.W.emptyDict).push (PySem.W.instObj C s.heap.objs.size) }) :
  codeAny (model prog w) A (.call (.ref C) ⟨vs,kw⟩) R s:=by
 obtain⟨hh,g,d,t,os⟩:=s
 exact PySem.W.make_core (PySem.W.makes_of X hm) (PySem.W.looks_findIn X hi) (fun self=>PySem.W.bind_fn X self hf) (.inl rfl) h
end
def putF(f:Str)(v:V):List (Str×V)->List (Str×V)
 |[]=>[(f,v)]
 |(g,x)::r=>if g=f then(g,v)::r else(g,x)::putF f v r
theorem Vu(f g:Str)(v:V):∀fs:List (Str×V),(putF f v fs).lookup g=if g=f then some v else fs.lookup g
 |[]=>by
  show List.lookup g [(f,v)]=_
  by_cases h:g=f
  .have hb:(g == f)=true:=beq_iff_eq.mpr h
   simp only[List.lookup,hb,if_pos h]
  .have hb:(g == f)=false:=beq_eq_false_iff_ne.mpr h
   simp only[List.lookup,hb,if_neg h]
 |(k,x)::r=>by
  have ih:=Vu f g v r
  rw[show putF f v ((k,x)::r)=(if k=f then(k,v)::r else(k,x)::putF f v r)from rfl]
  by_cases hk:k=f
  .rw[if_pos hk]
   by_cases h:g=k
   .have hb:(g == k)=true:=beq_iff_eq.mpr h
    simp only[List.lookup,hb,if_pos (h.trans hk)]
   .have hb:(g == k)=false:=beq_eq_false_iff_ne.mpr h
    simp only[List.lookup,hb,if_neg (fun e:g=f=>h (e.trans hk.symm))]
  .rw[if_neg hk]
   by_cases h:g=k
   .have hb:(g == k)=true:=beq_iff_eq.mpr h
    simp only[List.lookup,hb,if_neg (fun e:g=f=>hk (h.symm.trans e))]
   .have hb:(g == k)=false:=beq_eq_false_iff_ne.mpr h
    simp only[List.lookup,hb]
    exact ih
theorem Vv(f:Str)(v:V):∀fs:List (Str×V),f∈(putF f v fs).map (·.1)/\∀g,g∈fs.map (·.1)->g∈(putF f v fs).map (·.1)
 |[]=>⟨by simp[putF],fun g h=>by simp at h⟩
 |(k,x)::r=>by
  obtain⟨i1,i2⟩:=Vv f v r
  rw[show putF f v ((k,x)::r)=(if k=f then(k,v)::r else(k,x)::putF f v r)from rfl]
  by_cases hk:k=f
  .rw[if_pos hk]
   subst hk
   exact⟨by simp,fun g h=>by simpa using h⟩
  .rw[if_neg hk]
   refine⟨?_,fun g h=>?_⟩
   .rw[zW]
    exact zY _ i1
   .rw[zW]at h⊢
    rcases yY.mp h with e | e
    .exact yY.mpr (.inl e)
    .exact zY _ (i2 g e)
theorem Vw(f:Str)(v:V):∀fs:List (Str×V),(putF f v fs).length<=fs.length+1
 |[]=>by simp[putF]
 |(k,x)::r=>by
  have ih:=Vw f v r
  rw[show putF f v ((k,x)::r)=(if k=f then(k,v)::r else(k,x)::putF f v r)from rfl]
  by_cases hk:k=f
  .rw[if_pos hk,yW,yW];lia
  .rw[if_neg hk,yW,yW];lia
theorem RelO.some_of{v:V}{o:Option Value}(r:RelO (some v) o):∃u,o=some u/\RelV v u:=by
 cases o with
 |none=>exact(show False from r).elim
 |some u=>exact⟨u,rfl,r⟩
theorem RelO.none_of{o:Option Value}(r:RelO none o):o=none:=by
 cases o with
 |none=>rfl
 |some u=>exact(show False from r).elim
theorem Qke{v:V}{u:Value}(r:RelV v u):PySem.W.handedIn u=true:=by
 cases v with
 |non=>cases(show u=Value.none from r);rfl
 |bl b=>cases(show u=Value.bool b from r);rfl
 |int i=>obtain⟨t,e⟩:=(show ∃t,u=Value.int i t from r);cases e;rfl
 |str x=>obtain⟨t,e⟩:=(show ∃t,u=Value.str x t from r);cases e;rfl
 |byt b=>obtain⟨t,e⟩:=(show ∃t,u=Value.bytes b t from r);cases e;rfl
 |flt b=>obtain⟨t,e⟩:=(show ∃t,u=Value.float b t from r);cases e;rfl
 |ref a=>cases(show u=Value.ref a from r);rfl
 |ty n=>cases(show u=Value.type n from r);rfl
section
variable{P:Program}{w:World}{H:Hp}{h:Heap}{a C dx:Addr}{fs:List (Str×V)}
theorem Qew(hok:HOk P w H h)(e:H a=some (.ins C dx fs)):∃mA,ObjM h a dx C mA/\(∀f,RelO (fs.lookup f) (mA f))/\PySem.Within mA (fs.map (·.1))/\fs.length<=1000/\H dx=some (.own a):=by
 obtain⟨d,z,ne,ob,mA,n,r,q⟩:=(show ObjOk P w H h a (.ins C dx fs)from hok a _ e)
 exact⟨mA,⟨ob,n,ne⟩,r,q,z,d⟩
end
structure Cls(K:Fg)(C:Addr):Prop where
 pg:PySem.W.plainGet K C Str.empty=true
 hd:PySem.W.hasDictIn K C=true
 po:PySem.W.plainOver K C=true
 sa:PySem.W.findIn K (.ref C) "__setattr__"=some (some (.builtin "object.__setattr__"))
theorem Cls.get{K:Fg}{C:Addr}(c:Cls K C)(f:Str):PySem.W.plainGet K C f=true:=c.pg
def NoAttr(K:Fg)(C:Addr)(f:Str):Prop:=PySem.W.findIn K (.ref C) f=some none
theorem NoAttr.taker{K:Fg}{C:Addr}{f:Str}(n:NoAttr K C f):PySem.W.takerIn K C f=some none:=by
 unfold PySem.W.takerIn
 rw[show PySem.W.findIn K (.ref C) f=some none from n]
 rfl
structure Meth(K:Fg)(C:Addr)(m:Str)(f:Addr):Prop where
 at_:PySem.W.findIn K (.ref C) m=some (some (.ref f))
 fn:PySem.W.isFn K (.ref f)=true
 kp:PySem.W.keepIn K (.ref f)=true
section
variable{X:Cx}{pins:List (Addr×Obj)}{σ:St}{H:Hp}{s:Shared}{a C dx:Addr}{fs:List (Str×V)}{f:Str}{v:V}{A:Around}{E:Value->Shared->Prop}
theorem Qam{b:Bool}{Q:Value->Shared->Prop}(I:Inv X pins σ H s)(e:H a=some (.ins C dx fs))(c:Cls X.K C)(n:NoAttr X.K C f)(l:fs.lookup f=some v)
  (h:∀u s',Inv X pins σ H s'->RelV v u->Q u s'):wpAny (model X.prog X.w) A (getAttr (.ref a) f b) Q E s:=by
 obtain⟨mA,O,r,_,_,_⟩:=Qew I.hok e
 obtain⟨u,hu,ru⟩:=RelO.some_of (v:=v) (o:=mA f) (by rw[<-l];exact r f)
 exact get_map I.kIn O (c.get f) c.hd n hu (Qke ru) (h u _ (I.tok _) ru)
theorem Qan{m:Str}{g:Addr}{pl:Sem Bool}{Q:Value×List Value->Shared->Prop}(I:Inv X pins σ H s)(e:H a=some (.ins C dx fs))(c:Cls X.K C)(k:Meth X.K C m g)(l:fs.lookup m=none)
  (h:Q (.ref g,[.ref a]) s):wpAny (model X.prog X.w) A (getMethod (.ref a) m pl) Q E s:=by
 obtain⟨mA,O,r,_,_,_⟩:=Qew I.hok e
 have hn:mA m=none:=RelO.none_of (by rw[<-l];exact r m)
 exact Qoq I.kIn O (c.get m) k.at_ k.fn hn h
theorem Qao{y:V}{u:Value}{Q:Unit->Shared->Prop}(I:Inv X pins σ H s)(e:H a=some (.ins C dx fs))(c:Cls X.K C)(n:NoAttr X.K C f)(hl:fs.length<1000)(ry:RelV y u)
  (h:∀s',Inv X pins σ (upd H a (.ins C dx (putF f y fs))) s'->Q () s'):wpAny (model X.prog X.w) A (setAttr (.ref a) f u) Q E s:=by
 obtain⟨mA,O,r,wi,_,ho⟩:=Qew I.hok e
 have hz:(fs.map (·.1)).length<=sizeLine:=by rw[jX,sizeLine_eq];lia
 refine Qsq I.kIn O c.sa c.po n.taker c.hd wi hz fun h' O' sb=>h _ ?_
 have hd:∃o,h'.get? dx=some o:=let ⟨o,_,_,e',_⟩:=O'.ns;⟨o,e'⟩
 refine I.write (x:=a) (e:=dx) (by rw[e];exact True.intro) (.inr ho) (fun b q hb z=>(sb.2 b hb).trans z) hd ?_
 refine⟨by rw[Qk O.ne];exact ho,?_,O.ne,O'.obj,_,O'.ns,fun g=>?_,fun g hg=>?_⟩
 .have:=Vw f y fs;lia
 .show RelO ((putF f y fs).lookup g) (if g=f then some u else mA g)
  rw[Vu]
  by_cases q:g=f
  .rw[if_pos q,if_pos q];exact ry
  .rw[if_neg q,if_neg q];exact r g
 .by_cases q:g=f
  .rw[q];exact(Vv f y fs).1
  .refine(Vv f y fs).2 g (wi g fun z=>hg ?_)
   show(if g=f then some u else mA g)=none
   rw[if_neg q];exact z
theorem Inv.made(I:Inv X pins σ H s):Inv X pins σ (upd (upd H s.heap.objs.size (.own (s.heap.objs.size+1))) (s.heap.objs.size+1) (.ins C s.heap.objs.size []))
  { s with heap:=(s.heap.push PySem.W.emptyDict).push (PySem.W.instObj C s.heap.objs.size) }:=by
 have e1:(s.heap.push PySem.W.emptyDict).get? s.heap.objs.size=some PySem.W.emptyDict:=kX s.heap rfl
 have e2:((s.heap.push PySem.W.emptyDict).push (PySem.W.instObj C s.heap.objs.size)).get? (s.heap.objs.size+1)=some (PySem.W.instObj C s.heap.objs.size):=by
  have:=kX (s.heap.push PySem.W.emptyDict) (o:=PySem.W.instObj C s.heap.objs.size) rfl
  rwa [jYf]at this
 have e3:(s.heap.push PySem.W.emptyDict).Ns s.heap.objs.size (fun _=>none):=⟨PySem.W.emptyDict,#[],_,e1,rfl,(fun e he=>absurd he (by simp)),fun _=>rfl⟩
 have I1:=I.laid (a:=s.heap.objs.size) (o:=.own (s.heap.objs.size+1)) (h':=s.heap.push PySem.W.emptyDict) (t':=s.toks) (fun b u q=>jZ _ q) (jW _) ⟨_,e1⟩
 refine I1.laid (a:=s.heap.objs.size+1) (o:=.ins C s.heap.objs.size []) (t':=s.toks) (fun b u q=>jZ _ q) (yXc (jYf _ _)) ?_
 have ne:s.heap.objs.size≠s.heap.objs.size+1:=yZ (kQb _)
 refine⟨by rw[Qk ne,Qb],wY _,ne,e2,fun _=>none,(Heap.Ns1.of_empty e3).at fun o q=>jZ _ q,fun _=>True.intro,fun y hy=>absurd rfl hy⟩
theorem Qsr{prog:Program}{w:World}{env:Env}{e:Expr}{f:Str}{pos:Pos}{s:Shared}{Q:Value->Shared->Prop}(hb:attributeBase e f env (eval e env)=eval e env)
  (h:wpAny (model prog w) A (eval e env) (fun o s₁=>wpAny (model prog w) A (getAttr o f true) Q E s₁) E s):wpAny (model prog w) A (eval (.Attribute e f pos) env) Q E s :=
 Attribute_any_ h (by rw[arm_eval_Attribute,hb])
end
def tFld(K:Fg)(ta:TE)(f:Str):TE:=fun σ H Q=>ta σ H fun x H1=>∃a C dx fs v,x=.ref a/\H1 a=some (.ins C dx fs)/\Cls K C/\NoAttr K C f/\fs.lookup f=some v/\Q v H1
def sFld(K:Fg)(ta tv:TE)(f:Str):TS:=fun D σ H=>tv σ H fun y H1=>ta σ H1 fun x H2=>∃a C dx fs,x=.ref a/\H2 a=some (.ins C dx fs)/\Cls K C/\NoAttr K C f/\fs.length<1000 /\
 D.nx σ (upd H2 a (.ins C dx (putF f y fs)))
def InOp(X:Cx)(op:Operator)(rd:V->V->Hp->VK->Prop):Prop :=
 ∀(pins:List (Addr×Obj)) (s:Shared) (σ:St) (H:Hp) (x y:V) (u v:Value) (Q:VK),Inv X pins σ H s->RelV x u->RelV y v->rd x y H Q->wpAny (model X.prog X.w) X.A (inplaceOp op u v) (EP X pins σ Q) X.xe s
def Qss(K:Fg)(ta tv:TE)(rd:V->V->Hp->VK->Prop)(f:Str):TS:=fun D σ H=>ta σ H fun x H1=>∃a C dx fs v,x=.ref a/\H1 a=some (.ins C dx fs)/\Cls K C/\NoAttr K C f/\fs.lookup f=some v /\
 tv σ H1 fun y H2=>rd v y H2 fun z H3=>∃dx' fs',H3 a=some (.ins C dx' fs')/\fs'.length<1000/\D.nx σ (upd H3 a (.ins C dx' (putF f z fs')))
section
variable{X:Cx}{o e value:Expr}{f:Str}{pos pos' tpos:Pos}{ta tv:TE}
theorem Zv(he:PE X e ta)(hb:attributeBase e f X.env (eval e X.env)=eval e X.env):PE X (.Attribute e f pos) (tFld X.K ta f):=by
 intro pins s σ H Q I h
 refine Qsr hb (thn (he pins s σ H _ I h) fun u s1 hqP=>?_)
 obtain⟨x,H1,I1,rx,a,C,dx,fs,v,ex,ea,c,n,l,q⟩:=hqP
 subst ex
 obtain rfl:u=Value.ref a:=rx
 exact Qam I1 ea c n l fun u' s2 I2 ru=>⟨v,H1,I2,ru,q⟩
theorem Qcl(ha:PE X o ta)(hv:PE X value tv)(hs:swapsWith value (some (.Attribute o f pos')) pos.line X.env=pure false):PS X (.Assign [.Attribute o f pos'] value pos) (sFld X.K ta tv f):=by
 intro pins s σ H D I h
 refine plainObj_wpAny_Assign_Attribute (thn (hv pins s σ H _ I h) fun u s1 ⟨y,H1,I1,ry,q⟩=>thn (ha pins s1 σ H1 _ I1 q) fun ov s2 hqP=>?_) hs
 obtain⟨x,H2,I2,rx,a,C,dx,fs,ex,ea,c,n,l,q2⟩:=hqP
 subst ex
 obtain rfl:ov=Value.ref a:=rx
 exact Qao I2 ea c n l ry fun s3 I3=>⟨σ,_,I3,q2⟩
theorem Qkf{op:Operator}{rd:V->V->Hp->VK->Prop}(ha:PE X o ta)(hv:PE X value tv)(hop:InOp X op rd):PS X (.AugAssign (.Attribute o f tpos) op value pos) (Qss X.K ta tv rd f):=by
 intro pins s σ H D I h
 refine wpAny_AugAssign_AttributeAny (thn (ha pins s σ H _ I h) fun ov s1 hqP=>?_)
 obtain⟨x,H1,I1,rx,a,C,dx,fs,v,ex,ea,c,n,l,q⟩:=hqP
 subst ex
 obtain rfl:ov=Value.ref a:=rx
 refine Qam I1 ea c n l fun u s2 I2 ru=>thn (hv pins s2 σ H1 _ I2 q) fun w3 s3 ⟨y,H2,I3,ry,q3⟩=>thn (hop pins s3 σ H2 v y u w3 _ I3 ru ry q3) fun w4 s4 hqP=>?_
 obtain⟨z,H3,I4,rz,dx',fs',ea',l',q4⟩:=hqP
 exact Qao I4 ea' c n l' rz fun s5 I5=>⟨σ,_,I5,q4⟩
def rSub:V->V->Hp->VK->Prop:=fun x y H Q=>∃i j,x=.int i/\y=.int j/\Q (.int (i-j)) H
theorem in_sub:InOp X .Sub rSub:=by
 rintro pins s σ H x y u v Q I rx ry ⟨i,j,rfl,rfl,q⟩
 obtain⟨t,rfl⟩:=(show ∃t,u=Value.int i t from rx)
 obtain⟨t',rfl⟩:=(show ∃t',v=Value.int j t' from ry)
 exact PyProof.Rows.isub_int ⟨.int (i-j),H,I.tok _,⟨_,rfl⟩,q⟩
end
structure Room(k:Nat)(A:Around):Prop where
 hd:A.handled=none
 dp:A.depth+3*k+5<recursionLimit
 un:A.units+16*k+200<cLine
theorem Room.mono{j k:Nat}{A:Around}(r:Room k A)(h:j<=k):Room j A:=⟨r.hd,by have:=r.dp;lia,by have:=r.un;lia⟩
theorem Room.deeper{k:Nat}{A:Around}(r:Room (k+1) A)(env:Env):Room k (A.deeper env) :=
 ⟨r.hd,by have:=r.dp;show A.depth+1+3*k+5<_;lia,by have:=r.un;show A.units+3+16*k+200<_;lia⟩
theorem Qil{A:Around}{C:Addr}{us:List Value}{kw:List (Str×Value)}:(A.under (.builtin "type.__call__" ⟨.ref C::us,kw⟩)).depth=A.depth+1:=by
 first | rfl | simp[Around.under,Code.weight,Code.isCreation,Code.isGuard,Code.isCaller,Code.frames,Code.isFrame,guardIds]
theorem Qim{A:Around}{C:Addr}{us:List Value}{kw:List (Str×Value)}:(A.under (.builtin "type.__call__" ⟨.ref C::us,kw⟩)).units=A.units+1:=by
 first | rfl | simp[Around.under,Code.cUnits,Code.frames,Code.isFrame]
theorem Room.make{k:Nat}{A:Around}(r:Room (k+1) A)(C:Addr)(us:List Value)(kw:List (Str×Value)):Room k (A.under (.builtin "type.__call__" ⟨.ref C::us,kw⟩)) :=
 ⟨r.hd,by have:=r.dp;rw[Qil];lia,by have:=r.un;rw[Qim];lia⟩
theorem Room.depth{k:Nat}{A:Around}(r:Room k A):A.depth<recursionLimit:=by have:=r.dp;lia
def tNil:TA:=fun _ H Q=>Q [] H
def tCons(ta:TE)(tr:TA):TA:=fun σ H Q=>ta σ H fun x H1=>tr σ H1 fun xs H2=>Q (x::xs) H2
section
variable{X:Cx}{e:Expr}{es:List Expr}{te:TE}{t:TA}{pos:Pos}
theorem Qf:PA X [] tNil:=fun _ _ _ _ H Q I h=>Calls.spliced_nil ⟨[],H,I,.nil,h⟩
theorem Qa(ha:PE X e te)(hr:PA X es t)(hs:autoParam (starEach (e::es) X.env=(false,eval e X.env)::starEach es X.env) L2.aRfl._auto_1):PA X (e::es) (tCons te t):=by
 intro pos pins s σ H Q I h
 rw[hs]
 show wpAny _ _ (spliced ((false,eval e X.env)::backTo pos (starEach es X.env))) _ _ s
 refine Calls.spliced_cons (thn (ha pins s σ H _ I h) fun u s1 hqP=>?_)
 obtain⟨x,H1,I1,r1,q1⟩:=hqP
 exact thn (hr pos pins s1 σ H1 _ I1 q1) fun us s2 ⟨xs,H2,I2,r2,q2⟩=>⟨x::xs,H2,I2,.cons r1 r2,q2⟩
def tTup(t:TA):TE:=fun σ H Q=>t σ H fun xs H1=>xs.length<=sizeLine/\∀p,H1 p=none->Q (.ref p) (upd H1 p (.tup xs))
def tLst(t:TA):TE:=fun σ H Q=>t σ H fun xs H1=>xs.length<=sizeLine/\∀p,H1 p=none->Q (.ref p) (upd H1 p (.lst xs))
theorem Yd{x1}(h:PA X es t):PE X (.Tuple es x1 pos) (tTup t):=by
 intro pins s σ H Q I hq
 refine wpAny_Tuple_spliced (thn (h pos pins s σ H _ I hq) fun us s1 ⟨xs,H1,I1,r,z,q⟩=>⟨by rw[<-r.length];exact z,?_⟩)
 have hf:H1 s1.heap.objs.size=none:=I1.hok.fresh (jW _)
 refine⟨.ref s1.heap.objs.size,upd H1 s1.heap.objs.size (.tup xs),I1.laid (t':=s1.toks) (fun b u e=>jZ _ e) (jW _) ?_,rfl,q _ hf⟩
 exact⟨z,us,r,⟨_,kX _ rfl,rfl,_,rfl⟩⟩
theorem Yj(h:PA X es t):PE X (.List es pos) (tLst t):=by
 intro pins s σ H Q I hq
 refine wpAny_List_spliced (thn (h pos pins s σ H _ I hq) fun us s1 ⟨xs,H1,I1,r,z,q⟩=>⟨by rw[<-r.length];exact z,?_⟩)
 have hf:H1 s1.heap.objs.size=none:=I1.hok.fresh (jW _)
 refine⟨.ref s1.heap.objs.size,upd H1 s1.heap.objs.size (.lst xs),I1.laid (t':=s1.toks) (fun b u e=>jZ _ e) (jW _) ?_,rfl,q _ hf⟩
 exact⟨z,us,0,r,kX _ rfl⟩
end
abbrev Sp:=List V->Hp->VK->XK->Prop
abbrev CXT:=List Env->Hp->Shared->XK->Value->Shared->Prop
structure Env0(P:Program)(w:World)(K:Fg)(mg:Str->Option Value)(base:Heap)(A:Around)(outer:List Env)(s:Shared)(H:Hp):Prop where
 frames:A.frames=some outer
 mod:Mod K mg base
 bs:∀b o,base.get? b=some o->s.heap.get? b=some o/\H b=none
 bsz:base.objs.size<=s.heap.objs.size
 funs:s.heap.FunFrames base outer
 frf:∀b∈frs outer,H b=none
 hok:HOk P w H s.heap
 bare:AllBare s.gens
def CE(outer:List Env)(P:Program)(w:World)(H:Hp)(s:Shared)(Q:VK)(u:Value)(s':Shared):Prop :=
 ∃v H',s'.os=s.os/\AllBare s'.gens/\Un (frs outer) [] H H' s.heap s'.heap/\HOk P w H' s'.heap/\RelV v u/\Q v H'
def CR(CX:CXT)(outer:List Env)(P:Program)(w:World)(H:Hp)(s:Shared)(Q:VK)(E:XK)(r:Result)(s':Shared):Prop :=
 match r with
 |.ok (.ret u)=>CE outer P w H s Q u s'
 |.ok _=>False
 |.error e=>CX outer H s E e s'
structure FnOk(P:Program)(w:World)(K:Fg)(mg:Str->Option Value)(base:Heap)(CX:CXT)(k:Nat)(f:Addr)(fd:FuncData)(ps:List Str)(sp:Sp):Prop where
 len:∀vs H Q E,sp vs H Q E->vs.length=ps.length
 run:∀(A:Around) (outer:List Env) (s:Shared) (H:Hp) (args:Args) (us:List Value) (vs:List V) (Q:VK) (E:XK),Room k A->Env0 P w K mg base A outer s H->BindsTo s fd args (ps.zip us)->Vals vs us->sp vs H Q E ->
  codeAny (model P w) A (.call (.ref f) args) (CR CX outer P w H s Q E) s
theorem Env0.make{P:Program}{w:World}{K:Fg}{mg:Str->Option Value}{base:Heap}{A:Around}{outer:List Env}{s:Shared}{H:Hp}(e:Env0 P w K mg base A outer s H)(C:Addr)(us:List Value)(kw:List (Str×Value)) :
  Env0 P w K mg base (A.under (.builtin "type.__call__" ⟨.ref C::us,kw⟩)) outer s H:=⟨by first | exact e.frames | (simpa[Around.under,Code.envs,Code.isFrame,pushEnvs]using e.frames),e.mod,e.bs,e.bsz,e.funs,e.frf,e.hok,e.bare⟩
section
variable{X:Cx}{pins:List (Addr×Obj)}{σ:St}{H:Hp}{s s':Shared}
theorem Inv.env0(I:Inv X pins σ H s):Env0 X.prog X.w X.K X.mg X.base X.A X.stack s H :=
 ⟨I.ok.frames,I.ok.mod,I.bs,jQd I.ok.bsz I.sz,I.stack,I.stkFree,I.hok,I.bare⟩
theorem Inv.after{Q:VK}{u:Value}(I:Inv X pins σ H s)(h:CE X.stack X.prog X.w H s Q u s'):EP X pins σ Q u s':=by
 obtain⟨v,H',os,bare,un,hok,r,q⟩:=h
 obtain⟨hh,g,d,t,os'⟩:=s'
 obtain rfl:os'=s.os:=os
 exact⟨v,H',I.call (h':=hh) (g':=g) (d':=d) (t':=t) (ch:=[]) un hok bare (fun b z=>absurd z (by simp)),r,q⟩
end
def tCall(sp:Sp)(dvs:List V)(E:XK)(t:TA):TE:=fun σ H Q=>t σ H fun vs H1=>sp (vs++dvs) H1 Q E
def tMeth(C:Addr)(m:Str)(sp:Sp)(dvs:List V)(E:XK)(ta:TE)(t:TA):TE:=fun σ H Q=>ta σ H fun x H1=>∃a dx fs,x=.ref a/\H1 a=some (.ins C dx fs)/\fs.lookup m=none /\
 t σ H1 fun vs H2=>sp (x::(vs++dvs)) H2 Q E
def tMake(C:Addr)(sp:Sp)(dvs:List V)(E:XK)(t:TA):TE:=fun σ H Q=>t σ H fun vs H1=>∀x dx,H1 x=none->H1 dx=none->dx≠x ->
 sp (.ref x::(vs++dvs)) (upd (upd H1 dx (.own x)) x (.ins C dx [])) (fun v H2=>v=.non/\Q (.ref x) H2) E
def Binds(K:Fg)(fd:FuncData)(ps:List Str)(ds:List Value):Prop :=
 ∀(s:Shared) (us:List Value),K.In s.heap->(us++ds).length=ps.length->BindsTo s fd ⟨us,[]⟩ (ps.zip (us++ds))
theorem Binds.all{K:Fg}{fd:FuncData}{ps:List Str}(h:∀us:List Value,us.length=ps.length->bindArgs fd ⟨us,[]⟩=pure (ps.zip us)):Binds K fd ps []:=fun s us _ hl=>by
 rw[jZa]at hl⊢
 exact .of_eq (h us hl)
def Vx(CX:CXT)(X:Cx)(E:XK):Prop:=∀(pins:List (Addr×Obj)) (σ:St) (H:Hp) (s:Shared) (e:Value) (s':Shared),Inv X pins σ H s->CX X.stack H s E e s'->X.xe e s'
section
variable{X:Cx}{CX:CXT}{k:Nat}{f C:Addr}{fd:FuncData}{ps:List Str}{sp:Sp}{dvs:List V}{ds:List Value}{E:XK}{x m:Str}{p pos apos:Pos}{e o:Expr}{es:List Expr}{ta:TE}{t:TA}
theorem Qkg{pins:List (Addr×Obj)}{σ:St}{H:Hp}{s:Shared}{Q:VK}{us:List Value}{vs:List V}(F:FnOk X.prog X.w X.K X.mg X.base CX k f fd ps sp)(hr:Room k X.A)(hb:Binds X.K fd ps ds)(hd:Vals dvs ds)(hx:Vx CX X E)
  (I:Inv X pins σ H s) (r:Vals vs us) (h:sp (vs++dvs) H Q E):wpAny (model X.prog X.w) X.A (call (.ref f) us) (EP X pins σ Q) X.xe s:=by
 have r2:Vals (vs++dvs) (us++ds):=r.append hd
 have hl:(us++ds).length=ps.length:=by rw[<-r2.length];exact F.len _ _ _ _ h
 refine wpAny_call (codeAny_mono (F.run X.A X.stack s H ⟨us,[]⟩ (us++ds) (vs++dvs) Q E hr I.env0 (hb s us I.kIn hl) r2 h) fun r s' hq=>?_)
 cases r with
 |error e=>exact hx pins σ H s e s' I hq
 |ok fl=>
  cases fl with
  |ret u=>exact I.after hq
  |next=>exact False.elim hq
  |brk=>exact False.elim hq
  |cont=>exact False.elim hq
theorem Qst(F:FnOk X.prog X.w X.K X.mg X.base CX k f fd ps sp)(hr:Room k X.A)(hg:Gl X x)(hm:X.mg x=some (.ref f))(hk:PySem.W.keepIn X.K (.ref f)=true)(hb:Binds X.K fd ps ds)(hd:Vals dvs ds)(hx:Vx CX X E)
  (ha:PA X (e::es) t) (hdb:autoParam ((x == ("__debug__":Str))=false) L2.aDec._auto_1) (he:autoParam (starEach (e::es) X.env=(false,eval e X.env)::starEach es X.env) L2.aRfl._auto_1) (hpl:autoParam ((backTo pos (starEach es X.env)).any (·.1)=false) L2.aRfl._auto_1) :
  PE X (.Call (.Name x p) (e::es) [] pos) (tCall sp dvs E t):=by
 intro pins s σ H Q I h
 refine wpAny_Call_Name_kw (Qju I hg hm ?_ hdb)
 refine PySem.W.callWith_K (h₀:=X.base) I.ok.mod.kin hk (thn (ha pos pins s σ H _ I h) fun us s1 ⟨vs,H1,I1,r,q⟩=>⟨I1.kIn,?_⟩) he hpl
 exact Qkg F hr hb hd hx I1 r q
theorem Zl{pl:Sem Bool}(he:PE X o ta)(c:Cls X.K C)(hm:Meth X.K C m f)(F:FnOk X.prog X.w X.K X.mg X.base CX k f fd ps sp)(hr:Room k X.A)(hb:Binds X.K fd ps ds)(hd:Vals dvs ds)(hx:Vx CX X E)(ha:PA X (e::es) t)
  (hst:autoParam (starEach (e::es) X.env=(false,eval e X.env)::starEach es X.env) L2.aRfl._auto_1) (hpl:autoParam ((backTo pos (starEach es X.env)).any (·.1)=false) L2.aRfl._auto_1)
  (ht:eval (.Call (.Attribute o m apos) (e::es) [] pos) X.env=(do
   let ov ← eval o X.env
   standAt apos.atName
   let (f,first) ← holding [ov] (getMethod ov m pl)
   callWith pos f first (backTo pos (starEach (e::es) X.env)) (backToKw pos (keywordEach [] X.env))):=by rfl) :
  PE X (.Call (.Attribute o m apos) (e::es) [] pos) (tMeth C m sp dvs E ta t):=by
 intro pins s σ H Q I h
 refine PySem.W.methodCall_KW (pl:=pl) (thn (he pins s σ H _ I h) fun u s1 hqP=>?_) ht
 obtain⟨x,H1,I1,rx,a,dx,fs,ex,ea,l,q⟩:=hqP
 subst ex
 obtain rfl:u=Value.ref a:=rx
 refine Qan I1 ea c hm l ?_
 refine PySem.W.callWith_K (first:=[.ref a]) (h₀:=X.base) I.ok.mod.kin hm.kp (thn (ha pos pins s1 σ H1 _ I1 q) fun us s2 ⟨vs,H2,I2,r,q2⟩=>⟨I2.kIn,?_⟩) hst hpl
 exact Qkg (us:=.ref a::us) (vs:=.ref a::vs) F hr hb hd hx I2 (.cons rfl r) q2
theorem Qos{pl:Sem Bool}(he:PE X o ta)(c:Cls X.K C)(hm:Meth X.K C m f)(F:FnOk X.prog X.w X.K X.mg X.base CX k f fd ps sp)(hr:Room k X.A)(hb:Binds X.K fd ps ds)(hd:Vals dvs ds)(hx:Vx CX X E)
  (ht:eval (.Call (.Attribute o m apos) [] [] pos) X.env=(do
   let ov ← eval o X.env
   standAt apos.atName
   let (f,first) ← holding [ov] (getMethod ov m pl)
   callWith pos f first (backTo pos (starEach [] X.env)) (backToKw pos (keywordEach [] X.env))):=by rfl) :
  PE X (.Call (.Attribute o m apos) [] [] pos) (tMeth C m sp dvs E ta tNil):=by
 intro pins s σ H Q I h
 refine PySem.W.methodCall_KW (pl:=pl) (thn (he pins s σ H _ I h) fun u s1 hqP=>?_) ht
 obtain⟨x,H1,I1,rx,a,dx,fs,ex,ea,l,q⟩:=hqP
 subst ex
 obtain rfl:u=Value.ref a:=rx
 refine Qan I1 ea c hm l ?_
 exact PySem.W.callWith_K0 (first:=[.ref a]) I1.kIn hm.kp (Qkg (us:=[.ref a]) (vs:=[.ref a]) F hr hb hd hx I1 (.cons rfl .nil) q)
structure Mk(K:Fg)(C f:Addr):Prop where
 makes:PySem.W.makesIn K C=true
 init:PySem.W.findIn K (.ref C) "__init__"=some (some (.ref f))
 fn:PySem.W.isFn K (.ref f)=true
 kp:PySem.W.keepIn K (.ref C)=true
theorem Qot{pins:List (Addr×Obj)}{σ:St}{H:Hp}{s:Shared}{Q:VK}{us:List Value}{vs:List V}(M:Mk X.K C f)(F:FnOk X.prog X.w X.K X.mg X.base CX k f fd ps sp)(hr:Room (k+1) X.A)(hb:Binds X.K fd ps ds)(hd:Vals dvs ds)
  (hx:Vx CX X E) (I:Inv X pins σ H s) (r:Vals vs us)
  (h:∀x dx,H x=none->H dx=none->dx≠x->sp (.ref x::(vs++dvs)) (upd (upd H dx (.own x)) x (.ins C dx [])) (fun v H2=>v=.non/\Q (.ref x) H2) E) :
  wpAny (model X.prog X.w) X.A (call (.ref C) us) (EP X pins σ Q) X.xe s:=by
 have hq:=h (s.heap.objs.size+1) s.heap.objs.size (I.hok.fresh (kQe _)) (I.hok.fresh (jW _)) (yZ (kQb _))
 have I2:=Inv.made (C:=C) I
 have r2:Vals (V.ref (s.heap.objs.size+1)::(vs++dvs)) (Value.ref (s.heap.objs.size+1)::(us++ds)):=.cons rfl (r.append hd)
 have hl:(Value.ref (s.heap.objs.size+1)::us++ds).length=ps.length:=by
  have e:=r2.length
  rw[F.len _ _ _ _ hq]at e
  exact e.symm
 refine wpAny_call (Qor (f:=f) I.kIn M.makes M.init (beq_iff_eq.mp M.fn) (codeAny_mono (F.run _ X.stack _ _ ⟨Value.ref (s.heap.objs.size+1)::us,[]⟩ (Value.ref (s.heap.objs.size+1)::(us++ds)) _ _ E (hr.make C us [])
  (I2.env0.make C us []) (hb _ (Value.ref (s.heap.objs.size+1)::us) I2.kIn hl) r2 hq) fun r s' hq'=>?_))
 cases r with
 |error e=>exact hx pins σ _ _ e s' I2 hq'
 |ok fl=>
  cases fl with
  |ret u=>
   obtain⟨v,H',I3,rv,ev,q3⟩:=I2.after hq'
   subst ev
   exact⟨rv,⟨V.ref (s.heap.objs.size+1),H',I3,rfl,q3⟩⟩
  |next=>exact False.elim hq'
  |brk=>exact False.elim hq'
  |cont=>exact False.elim hq'
theorem Qsu(M:Mk X.K C f)(F:FnOk X.prog X.w X.K X.mg X.base CX k f fd ps sp)(hr:Room (k+1) X.A)(hg:Gl X x)(hm:X.mg x=some (.ref C))(hb:Binds X.K fd ps ds)(hd:Vals dvs ds)(hx:Vx CX X E)
  (ha:PA X (e::es) t) (hdb:autoParam ((x == ("__debug__":Str))=false) L2.aDec._auto_1) (he:autoParam (starEach (e::es) X.env=(false,eval e X.env)::starEach es X.env) L2.aRfl._auto_1) (hpl:autoParam ((backTo pos (starEach es X.env)).any (·.1)=false) L2.aRfl._auto_1) :
  PE X (.Call (.Name x p) (e::es) [] pos) (tMake C sp dvs E t):=by
 intro pins s σ H Q I h
 refine wpAny_Call_Name_kw (Qju I hg hm ?_ hdb)
 refine PySem.W.callWith_K (h₀:=X.base) I.ok.mod.kin M.kp (thn (ha pos pins s σ H _ I h) fun us s1 ⟨vs,H1,I1,r,q⟩=>⟨I1.kIn,?_⟩) he hpl
 exact Qot M F hr hb hd hx I1 r q
end
structure FnScope(N P:List Str)(sc:Scope):Prop where
 kind:sc.kind=.function
 co:sc.isCoroutine=false
 gen:sc.isGenerator=false
 nd:N.Nodup
 pre:N.take P.length=P
 par:∀x∈P,sc.names.lookup x=some .local\/sc.names.lookup x=some .cell
 nofree:∀y∈sc.names,y.2≠.free
theorem Qcm{kindOf:Str->Option NameKind}{x:Str}:∀{binds:List (Str×Value)} {m:Str->Option Value},(∀v,(x,v)∉binds)->bindL kindOf binds m x=m x
 |[],_,_=>rfl
 |(n,v)::r,m,h=>by
  unfold bindL
  rw[Qcm fun w hw=>h w (zY _ hw)]
  split
  .have:x≠n:=by rintro rfl;exact h v zJ
   simp[this]
  .rfl
theorem Qcn{kindOf:Str->Option NameKind}{x:Str}:∀{binds:List (Str×Value)} {m:Str->Option Value},(∀v,(x,v)∉binds)->bindC kindOf binds m x=m x
 |[],_,_=>rfl
 |(n,v)::r,m,h=>by
  unfold bindC
  rw[Qcn fun w hw=>h w (zY _ hw)]
  split
  .rfl
  .have:x≠n:=by rintro rfl;exact h v zJ
   simp[this]
theorem Qco{kindOf:Str->Option NameKind}{x:Str}{v:Value}:∀{P:List Str} {vs:List Value} {i:Nat} {m:Str->Option Value},P.Nodup->P[i]?=some x->vs[i]?=some v->kindOf x=some .local ->
  bindL kindOf (P.zip vs) m x=some v
 |[],_,_,_,_,h,_,_=>by simp at h
 |_::_,[],_,_,_,_,h,_=>by simp at h
 |p::P,w::vs,0,m,nd,h1,h2,hk=>by
  simp at h1 h2;subst h1;subst h2
  show bindL kindOf ((p,w)::P.zip vs) m p=_
  unfold bindL
  rw[Qcm fun v hv=>(jZe.mp nd).1 (zQc hv).1,if_pos hk]
  simp
 |p::P,w::vs,i+1,m,nd,h1,h2,hk=>by
  show bindL kindOf ((p,w)::P.zip vs) m x=_
  unfold bindL
  exact Qco (i:=i) (jZe.mp nd).2 (by simpa using h1) (by simpa using h2) hk
theorem Qcp{kindOf:Str->Option NameKind}{x:Str}{v:Value}:∀{P:List Str} {vs:List Value} {i:Nat} {m:Str->Option Value},P.Nodup->P[i]?=some x->vs[i]?=some v->kindOf x≠some .local ->
  bindC kindOf (P.zip vs) m x=some v
 |[],_,_,_,_,h,_,_=>by simp at h
 |_::_,[],_,_,_,_,h,_=>by simp at h
 |p::P,w::vs,0,m,nd,h1,h2,hk=>by
  simp at h1 h2;subst h1;subst h2
  show bindC kindOf ((p,w)::P.zip vs) m p=_
  unfold bindC
  rw[Qcn fun v hv=>(jZe.mp nd).1 (zQc hv).1,if_neg hk]
  simp
 |p::P,w::vs,i+1,m,nd,h1,h2,hk=>by
  show bindC kindOf ((p,w)::P.zip vs) m x=_
  unfold bindC
  exact Qcp (i:=i) (jZe.mp nd).2 (by simpa using h1) (by simpa using h2) hk
def start(N:List Str)(vs:List V):St:=vs.map some++List.replicate (N.length-vs.length) none
def cxOf(CX:CXT)(P:Program)(w:World)(K:Fg)(mg:Str->Option Value)(base:Heap)(N:List Str)(qual:Str)(scope:Scope)(f:Addr)(cd:Value)(A:Around)(outer:List Env)(s:Shared)(H:Hp)(E:XK):Cx where
 prog:=P
 w:=w
 K:=K
 mg:=mg
 base:=base
 A:=A.deeper (envOfC qual scope s.heap.objs.size f cd)
 N:=N
 s₀:=s
 H₀:=H
 env:=envOfC qual scope s.heap.objs.size f cd
 outer:=outer
 stack:=envOfC qual scope s.heap.objs.size f cd::outer
 ex:=[]
 calm:=true
 fn:=fun _=>true
 pn:=[]
 xe:=fun e s'=>wpAny (model P w) (A.deeper (envOfC qual scope s.heap.objs.size f cd)) (leaving (envOfC qual scope s.heap.objs.size f cd) e) (fun _ s''=>CX outer H s E e s'') (fun e' s''=>CX outer H s E e' s'') s'
theorem Qgo{sc:Scope}{n:Nat}{x:Str}(h:sc.names.lookup x=some .cell):∃c,(cellsFrom n sc.names []).lookup x=some c:=by
 have q:=PySem.W.cellsFrom_some sc.names n [] (.inl h)
 exact yQd.mp q
theorem Qkh{CX:CXT}{P:Program}{w:World}{K:Fg}{mg:Str->Option Value}{base:Heap}{N ps:List Str}{qual:Str}{scope:Scope}{f:Addr}{cd:Value}{A:Around}{outer:List Env}{s s1:Shared}{H:Hp}{E:XK}{us:List Value}{vs:List V}
  (S:FnScope N ps scope) (hd:A.handled=none) (e0:Env0 P w K mg base A outer s H) (hl:vs.length=ps.length) (r:Vals vs us)
  (x:InCallC s s.heap.objs.size (bindL (envOfC qual scope s.heap.objs.size f cd).kindOf (ps.zip us) fun _=>none) (cellsFrom (s.heap.objs.size+1) scope.names []) (bindC (envOfC qual scope s.heap.objs.size f cd).kindOf (ps.zip us) fun _=>none) s1) :
  Inv (cxOf CX P w K mg base N qual scope f cd A outer s H E) [] (start N vs) H s1:=by
 have hpl:ps.length<=N.length:=by have:=congrArg List.length S.pre;rw[wZ]at this;lia
 obtain⟨h1,tk,rfl,hk⟩:=x.done
 have noA:∀b:Addr,b∉(cxOf CX P w K mg base N qual scope f cd A outer s H E).ex:=fun b z=>absurd (show b∈([]:List Addr)from z) (by simp)
 refine⟨⟨e0.mod,S.kind,rfl,rfl,jW _,fun y z c h1 h2=>?_,fun y hy=>?_,fun y c _ h=>?_,fun _=>hd,Around.frames_deeper e0.frames,.inr ⟨rfl,rfl⟩,fun b z=>absurd z (noA b),e0.bs,e0.bsz,fun b _ _=>noA b,fun b z=>absurd z (noA b),e0.funs,e0.frf⟩,
  rfl,e0.bare,Un.kept hk,⟨_,x.toInCall.ns,fun i y v h1 h2 h3=>?_⟩,fun y c h=>⟨_,x.cell y c h⟩,e0.hok.fresh (jW _),fun y c h=>?_,fun p hp=>absurd (show p∈([]:List (Addr×Obj))from hp) (by simp),e0.hok.kept hk,?_⟩
 .exact name_of_addr x.apart (PySem.mem_of_lookup h1) (PySem.mem_of_lookup h2)
 .have hy:scope.names.lookup y=some .cell\/scope.names.lookup y=some .free:=hy
  rcases hy with hy | hy
  .exact Qgo hy
  .exact absurd rfl (S.nofree _ (PySem.mem_of_lookup hy))
 .exact yZe (x.above y c (PySem.mem_of_lookup h))
 .have hi:i<vs.length:=by
   unfold start at h2
   by_cases hi:i<vs.length
   .exact hi
   .rw[jQa (by simpa using hi)]at h2
    rw[List.getElem?_replicate]at h2
    split at h2<;>cases h2
  have ha:vs[i]?=some v:=by
   unfold start at h2
   rw[yQb (by simpa using hi),jV]at h2
   cases e:vs[i]? with
   |none=>rw[e]at h2;cases h2
   |some a=>rw[e]at h2;cases h2;rfl
  obtain⟨u,hu,rv⟩:=r.get ha
  have hp:ps[i]?=some y:=by
   rw[<-S.pre,List.getElem?_take_of_lt Om];exact h1
  have ndP:ps.Nodup:=by rw[<-S.pre];exact S.nd.sublist (List.take_sublist _ _)
  refine⟨u,rv,?_⟩
  rcases S.par y (kY hp)with k | k
  .exact .inl ⟨k,Qco ndP hp hu k⟩
  .obtain⟨c,e⟩:=Qgo (n:=s.heap.objs.size+1) k
   refine .inr ⟨.inl k,c,e,?_⟩
   have q:=x.cell y c e
   rw[Qcp ndP hp hu (by show scope.names.lookup y≠_;rw[k];decide)]at q
   exact q
 .exact e0.hok.fresh (yZe (x.above y c (PySem.mem_of_lookup h)))
 .unfold start
  show _=N.length
  rw[yV,jX,yYa]
  lia
theorem fn_of{CX:CXT}{P:Program}{w:World}{K:Fg}{mg:Str->Option Value}{base:Heap}{k:Nat}{f:Addr}{name qual:Str}{params:Arguments}{body:List Stmt}{scope:Scope}{dV kV doc pm cdv ct oc:Value}{an od:Option Addr}
  {osl:Array (Option Value)} {N ps:List Str} {sp:Sp} (lk:K.lookup f=some ⟨oc,od,.func (PySem.W.fnOf name qual params body scope dV kV doc pm an cdv ct),osl⟩) (hcd:PySem.W.codeIn K cdv qual=true) (S:FnScope N ps scope)
  (len:∀vs H Q E,sp vs H Q E->vs.length=ps.length)
  (hbody:∀(A:Around) (outer:List Env) (s:Shared) (H:Hp) (vs:List V) (Q:VK) (E:XK),Room k (A.deeper (envOfC qual scope s.heap.objs.size f cdv))->sp vs H Q E ->
   ∃t,PSs (cxOf CX P w K mg base N qual scope f cdv A outer s H E) body t/\t { nx:=fun _ H'=>Q .non H',rt:=Q } (start N vs) H) :
  FnOk P w K mg base CX (k+1) f (PySem.W.fnOf name qual params body scope dV kV doc pm an cdv ct) ps sp:=by
 refine⟨len,fun A outer s H args us vs Q E hr e0 hb r hsp=>?_⟩
 have hl:=len _ _ _ _ hsp
 have KX:K.In s.heap:=e0.mod.kin.keeps fun b o e=>(e0.bs b o e).1
 have lim:s.heap.NoLimit:=e0.mod.nolimit.keeps fun b o e=>(e0.bs b o e).1
 have hkind:∀y∈ps.zip us,scope.names.lookup y.1=some .local\/(scope.names.lookup y.1=some .cell/\((cellsFrom (s.heap.objs.size+1) scope.names []).lookup y.1).isSome=true):=fun⟨n,v⟩ hy=>by
  rcases S.par n (zQc hy).1 with q | q
  .exact .inl q
  .exact .inr ⟨q,PySem.W.cellsFrom_some _ _ _ (.inl q)⟩
 refine codeAny_call_function hr.depth (KX _ _ lk) rfl S.co S.gen rfl (PySem.W.codeRec_of KX hcd) (hb _ _ _ _ ?_)
 refine wpAny_newFunctionEnv_cells S.kind hkind fun env he s1 x=>?_
 subst he
 refine⟨lim.keeps x.toInCall.keep,codeAny_func ?_⟩
 obtain⟨t,ht,hq⟩:=hbody A outer s H vs Q E (hr.deeper _) hsp
 have I:Inv (cxOf CX P w K mg base N qual scope f cdv A outer s H E) [] (start N vs) H s1:=Qkh S hr.hd e0 hl r x
 refine wpAny_mono (ht [] s1 (start N vs) H _ I hq) (fun fl s' hs=>?_) fun e s' hs=>hs
 have fin:∀{σ':St} {H':Hp} {v:V} {u:Value},Inv (cxOf CX P w K mg base N qual scope f cdv A outer s H E) [] σ' H' s'->RelV v u->Q v H'->CE outer P w H s Q u s' :=
  fun{σ' H' v u} J rv q=>⟨v,H',J.os,J.bare,J.base,J.hok,rv,q⟩
 cases fl with
 |ret u=>
  obtain⟨v,σ',H',J,rv,q⟩:=hs
  exact fin J rv q
 |next=>
  obtain⟨σ',H',J,q⟩:=hs
  exact fin (v:=V.non) (u:=Value.none) J rfl q
 |brk=>
  obtain⟨_,_,_,q⟩:=hs
  exact False.elim q
 |cont=>
  obtain⟨_,_,_,q⟩:=hs
  exact False.elim q
section
variable{X:Cx}{x:Str}{p pos:Pos}{e:Expr}{es:List Expr}{t:TA}{id T:String}{r:List V->Hp->VK->Prop}
def tCB(r:List V->Hp->VK->Prop)(t:TA):TE:=fun σ H Q=>t σ H fun vs H1=>r vs H1 Q
theorem Qn(hc:Yc X (.builtin id) r)(hg:Gl X x)(hm:X.mg x=none)(hv:bootBuiltins x=some (.builtin id))(ha:PA X (e::es) t)(hn:autoParam (x≠"__name__") L2.aDec._auto_1)(hdb:autoParam ((x == ("__debug__":Str))=false) L2.aDec._auto_1)
  (he:autoParam (starEach (e::es) X.env=(false,eval e X.env)::starEach es X.env) L2.aRfl._auto_1) (hpl:autoParam ((backTo pos (starEach es X.env)).any (·.1)=false) L2.aRfl._auto_1):PE X (.Call (.Name x p) (e::es) [] pos) (tCB r t):=by
 intro pins s σ H Q I h
 refine wpAny_Call_Name_kw (Jt I hg hm hv ?_ hn hdb)
 exact PyProof.Rows.callWith_builtin1 (thn (ha pos pins s σ H _ I h) fun us s1 ⟨vs,H1,I1,r1,q1⟩=>hc pins s1 σ H1 vs us Q I1 r1 q1) he hpl
theorem Qt(hc:Yc X (.type T) r)(hg:Gl X x)(hm:X.mg x=none)(hv:bootBuiltins x=some (.type T))(ha:PA X (e::es) t)(hn:autoParam (x≠"__name__") L2.aDec._auto_1)(hdb:autoParam ((x == ("__debug__":Str))=false) L2.aDec._auto_1)
  (he:autoParam (starEach (e::es) X.env=(false,eval e X.env)::starEach es X.env) L2.aRfl._auto_1) (hpl:autoParam ((backTo pos (starEach es X.env)).any (·.1)=false) L2.aRfl._auto_1):PE X (.Call (.Name x p) (e::es) [] pos) (tCB r t):=by
 intro pins s σ H Q I h
 refine wpAny_Call_Name_kw (Jt I hg hm hv ?_ hn hdb)
 exact PyProof.Rows.callWith_type1 (thn (ha pos pins s σ H _ I h) fun us s1 ⟨vs,H1,I1,r1,q1⟩=>hc pins s1 σ H1 vs us Q I1 r1 q1) he hpl
end
end L2
namespace HT
open PySem PyProof.Rows
section
def sIx(n d:Nat):Option Int->Nat
 |none=>d
 |some v=>if v<0 then(v+(n:Int)).toNat else min v.toNat n
theorem min_cast(v:Int)(n:Nat)(h:¬v<0):min v (n:Int)=((min v.toNat n:Nat):Int):=by
 obtain⟨k,rfl⟩:=Int.eq_ofNat_of_zero_le (Int.not_lt.mp h)
 rw[jQe]
 rcases Nat.le_total k n with h | h
 .rw[Nat.min_eq_left h,Int.min_eq_left (Int.ofNat_le.mpr h)]
 .rw[Nat.min_eq_right h,Int.min_eq_right (Int.ofNat_le.mpr h)]
theorem clip_eq(v:Int)(n d:Nat):(if v<0 then max (v+(n:Int)) 0 else min v (n:Int))=((sIx n d (some v):Nat):Int):=by
 show(if v<0 then max (v+(n:Int)) 0 else min v (n:Int))=(((if v<0 then(v+(n:Int)).toNat else min v.toNat n):Nat):Int)
 by_cases hv:v<0
 .rw[if_pos hv,if_pos hv];exact(Int.ofNat_toNat _).symm
 .rw[if_neg hv,if_neg hv];exact min_cast v n hv
end
end HT
namespace L2
open PySem PySem.Spec PyProof.Rows
abbrev TO:=St->Hp->(Option Int->Hp->Prop)->Prop
def PO(X:Cx)(e:Option Expr)(t:TO):Prop :=
 ∀(pins:List (Addr×Obj)) (s:Shared) (σ:St) (H:Hp) (Q:Option Int->Hp->Prop),Inv X pins σ H s->t σ H Q ->
  wpAny (model X.prog X.w) X.A (evalPart e X.env) (fun u s'=>∃o H',Inv X pins σ H' s'/\IsPart u o/\Q o H') X.xe s
def Qsv:TO:=fun _ H Q=>Q none H
def tPart(t:TE):TO:=fun σ H Q=>t σ H fun x H1=>∃i,x=.int i/\Q (some i) H1
theorem intsAre_of{ns:List Int}:∀{us:List Value},Vals (ns.map V.int) us->IntsAre us ns:=by
 induction ns with
 |nil=>intro us r;rw[yZf]at r;cases r;exact .nil
 |cons n ns ih=>
  intro us r
  rw[zW]at r
  cases r with
  |cons r1 r2=>
   obtain⟨t,e⟩:=r1
   subst e
   exact .cons n t (ih r2)
section
variable{X:Cx}{e:Expr}{te:TE}{lo hi:Option Expr}{tl th:TO}{pos p2:Pos}
theorem Qki:PO X none Qsv:=by
 intro pins s σ H Q I h
 rw[evalPart_none]
 exact jJ ⟨none,H,I,.none,h⟩
theorem Qkj(h:PE X e te):PO X (some e) (tPart te):=by
 intro pins s σ H Q I hw
 rw[evalPart_some]
 refine thn (h pins s σ H _ I hw) fun u s1 hqP=>?_
 obtain⟨x,H1,I1,r1,q1⟩:=hqP
 obtain⟨i,rfl,q⟩:=q1
 obtain⟨t,rfl⟩:=r1
 exact⟨some i,H1,I1,.int i t,q⟩
def SlR(X:Cx)(r:V->Option Int->Option Int->Hp->VK->Prop):Prop :=
 ∀(pins:List (Addr×Obj)) (s:Shared) (σ:St) (H:Hp) (x:V) (v vl vu:Value) (lo hi:Option Int) (sl:Addr) (Q:VK),Inv X pins σ H s->RelV x v->s.heap.IsSliceOf sl vl vu .none->IsPart vl lo->IsPart vu hi->r x lo hi H Q ->
  ∃T id,typeLookup (.type T) "__getitem__"=pure (some (.builtin id))/\s.TypeIs v T/\wpAny (model X.prog X.w) X.A (getItem v (.ref sl)) (EP X pins σ Q) X.xe s
def tSl(r:V->Option Int->Option Int->Hp->VK->Prop)(te:TE)(tl th:TO):TE:=fun σ H Q=>te σ H fun x H1=>tl σ H1 fun l H2=>th σ H2 fun u H3=>r x l u H3 Q
theorem Qgp{r:V->Option Int->Option Int->Hp->VK->Prop}(hr:SlR X r)(he:PE X e te)(hl:PO X lo tl)(hu:PO X hi th):PE X (.Subscript e (.Slice lo hi none p2) pos) (tSl r te tl th):=by
 intro pins s σ H Q I h
 refine Subscript_ (thn (he pins s σ H _ I h) fun v s1 hqP=>?_)
 obtain⟨x,H1,I1,r1,q1⟩:=hqP
 refine wpAny_Slice (thn (hl pins s1 σ H1 _ I1 q1) fun vl s2 ⟨l,H2,I2,pl,q2⟩=>thn (hu pins s2 σ H2 _ I2 q2) fun vu s3 hqP=>?_)
 obtain⟨u,H3,I3,pu,q3⟩:=hqP
 rw[evalPart_none]
 refine jJ ?_
 have I4:Inv X pins σ H3 { s3 with heap:=s3.heap.push { cls:=.type "slice",data:=.fields #[vl,vu,.none] } }:=I3.kept (t':=s3.toks) fun b ob q=>jZ _ q
 obtain⟨T,id,hT,ht,hg⟩:=hr pins { s3 with heap:=s3.heap.push { cls:=.type "slice",data:=.fields #[vl,vu,.none] } } σ H3 x v vl vu l u s3.heap.objs.size Q I4 r1 (Heap.IsSliceOf.new ..) pl pu q3
 show wpAny (model X.prog X.w) X.A (subscriptTail e (.Slice lo hi none p2) v (.ref s3.heap.objs.size)) (EP X pins σ Q) X.xe { s3 with heap:=s3.heap.push { cls:=.type "slice",data:=.fields #[vl,vu,.none] } }
 exact tail_any (ops:=[.ref s3.heap.objs.size,v]) ht hT hg (by with_unfolding_all rfl)
def cutV(xs:List V)(lo hi:Option Int):List V:=(xs.drop (HT.sIx xs.length 0 lo)).take (HT.sIx xs.length xs.length hi-HT.sIx xs.length 0 lo)
theorem Qex(xs:List V)(lo hi:Option Int):(cutV xs lo hi).length<=xs.length:=by
 unfold cutV
 rw[wZ,kZe]
 lia
end
def ixN(n:Nat)(i:Int):Option Nat:=if 0<=i then(if i<n then some i.toNat else none)else if -(n:Int)<=i then some (i+n).toNat else none
def atI{α:Type}(xs:List α)(i:Int):Option α:=(ixN xs.length i).bind fun j=>xs[j]?
theorem Qkk{n:Nat}{i:Int}{j:Nat}(h:ixN n i=some j):seqIndex? i n=some j/\j<n/\-(n:Int)<=i/\i<n:=by
 unfold ixN at h
 by_cases h0:0<=i
 .rw[if_pos h0]at h
  by_cases h1:i<n
  .rw[if_pos h1]at h
   have e:i.toNat=j:=Option.some.inj h
   exact⟨by rw[seqIndex_of h0 h1,e],Om,Om,h1⟩
  .rw[if_neg h1]at h;cases h
 .rw[if_neg h0]at h
  by_cases h1:-(n:Int)<=i
  .rw[if_pos h1]at h
   have e:(i+n).toNat=j:=Option.some.inj h
   exact⟨by rw[seqIndex_neg Om h1,e],Om,h1,Om⟩
  .rw[if_neg h1]at h;cases h
theorem Qkl{α:Type}{xs:List α}{i:Int}{v:α}(h:atI xs i=some v):∃j,seqIndex? i xs.length=some j/\xs[j]?=some v/\j<xs.length/\-(xs.length:Int)<=i/\i<xs.length:=by
 unfold atI at h
 cases e:ixN xs.length i with
 |none=>rw[e]at h;cases h
 |some j=>
  rw[e]at h
  obtain⟨h1,h2,h3,h4⟩:=Qkk e
  exact⟨j,h1,h,h2,h3,h4⟩
theorem Ky{α:Type}{xs:List α}{j:Nat}{v:α}(h:xs[j]?=some v):atI xs (j:Int)=some v:=by
 have hj:j<xs.length:=(jK.mp h).1
 have e:ixN xs.length (j:Int)=some j:=by
  unfold ixN
  rw[if_pos Om,if_pos Om];simp
 unfold atI;rw[e];exact h
def Qsw(b:Expr):Prop:=∀o i,subscripted b false o i=operate [o,i] (getItem o i)
def IxR(X:Cx)(r:R2):Prop :=
 ∀(value slice:Expr) (pins:List (Addr×Obj)) (s:Shared) (σ:St) (H:Hp) (x y:V) (v u:Value) (Q:VK),Inv X pins σ H s->RelV x v->RelV y u->r x y H Q ->
  subscripted slice false v u=operate [v,u] (getItem v u)->wpAny (model X.prog X.w) X.A (subscriptTail value slice v u) (EP X pins σ Q) X.xe s
def MtR(X:Cx)(id:String)(r:V->List V->Hp->VK->Prop):Prop :=
 ∀(pins:List (Addr×Obj)) (s:Shared) (σ:St) (H:Hp) (x:V) (xs:List V) (v:Value) (us:List Value) (Q:VK),Inv X pins σ H s->RelV x v->Vals xs us->r x xs H Q ->
  wpAny (model X.prog X.w) X.A (call (.builtin id) (v::us)) (EP X pins σ Q) X.xe s
section
variable{X:Cx}{a b:Expr}{ta tb:TE}{pos:Pos}
theorem IxR.or{r r':R2}(h:IxR X r)(h':IxR X r'):IxR X (fun x y H Q=>r x y H Q\/r' x y H Q):=by
 intro value slice pins s σ H x y v u Q I rx ry q hs
 rcases q with q | q
 .exact h value slice pins s σ H x y v u Q I rx ry q hs
 .exact h' value slice pins s σ H x y v u Q I rx ry q hs
theorem Qu{r:R2}(hr:IxR X r)(ha:PE X a ta)(hb:PE X b tb)(hs:Qsw b):PE X (.Subscript a b pos) (tOp r ta tb):=by
 intro pins s σ H Q I h
 exact Subscript_ (binT ha hb I h fun v u s2 x y H2 I2 rx ry q=>hr a b pins s2 σ H2 x y v u Q I2 rx ry q (hs _ _))
def rIxL(K:Fg):R2:=fun x y H Q=>∃p xs i v,x=.ref p/\y=.int i/\SqL K H p xs/\atI xs i=some v/\Q v H
def rIxT(K:Fg):R2:=fun x y H Q=>∃p xs i v,x=.ref p/\y=.int i/\SqT K H p xs/\atI xs i=some v/\Q v H
theorem Xn:IxR X (rIxL X.K):=by
 intro value slice pins s σ H x y v u Q I rx ry h hs
 obtain⟨p,xs,i,z,rfl,rfl,hq,he,q⟩:=h
 cases rx
 obtain⟨t,rfl⟩:=ry
 obtain⟨its,r,pl,hz⟩:=I.list hq
 obtain⟨j,h1,h2,h3,h4,h5⟩:=Qkl he
 obtain⟨w,ew,rw'⟩:=r.get h2
 have hl:=r.length
 have hn:=Qcj
 have fin:EP X pins σ Q w s:=⟨z,H,I,rw',q⟩
 by_cases h0:0<=i
 .have hj:i.toNat=j:=by
   rw[seqIndex_of h0 h5]at h1
   exact Option.some.inj h1
  exact item_listR pl.isList h0 Om (by rw[hj];simpa using ew) fin hs
 .have hj:(i+(its.toArray.size:Int)).toNat=j:=by
   rw[seqIndex_neg Om h4]at h1
   rw[kJ,<-hl]
   exact Option.some.inj h1
  exact subscriptTail_builtinR (x:=w) pl.isList.typeIs slot_list_getitem.lookup
   (wpAny_getItem_list_neg (Q:=fun r s'=>r=w/\EP X pins σ Q r s') pl.isList Om (by rw[kJ]<;>lia) Om (by rw[hj];simpa using ew) ⟨rfl,fin⟩) hs
theorem Qy:IxR X (rIxT X.K):=by
 intro value slice pins s σ H x y v u Q I rx ry h hs
 obtain⟨p,xs,i,z,rfl,rfl,hq,he,q⟩:=h
 cases rx
 obtain⟨t,rfl⟩:=ry
 obtain⟨its,r,pl,hz⟩:=I.tuple hq
 obtain⟨j,h1,h2,h3,h4,h5⟩:=Qkl he
 obtain⟨w,ew,rw'⟩:=r.get h2
 have hl:=r.length
 have hn:=Qcj
 have fin:EP X pins σ Q w s:=⟨z,H,I,rw',q⟩
 exact subscriptTail_builtinR (x:=w) pl.typeIs slot_tuple_getitem.lookup
  (getItem_tuple (j:=j) (Q:=fun r s'=>r=w/\EP X pins σ Q r s') pl Om Om (by rw[kJ,<-hl];exact h1) (by simpa using ew) ⟨rfl,fin⟩) hs
theorem Qin(its:List Value)(n j:Nat)(u:Value):Obj.mapSeq (·.setIfInBounds j u) { cls:=.type "list",data:=.seq its.toArray n }={ cls:=.type "list",data:=.seq (its.set j u).toArray n }:=by
 simp[Obj.mapSeq]
theorem Inv.lst{pins:List (Addr×Obj)}{σ:St}{H:Hp}{s:Shared}{p:Addr}{xs:List V}(I:Inv X pins σ H s)(h:H p=some (.lst xs)) :
  ∃(its:List Value) (n:Nat),Vals xs its/\s.heap.get? p=some { cls:=.type "list",data:=.seq its.toArray n }/\xs.length<=sizeLine:=by
 obtain⟨z,its,n,r,e⟩:=I.hok p _ h
 exact⟨its,n,r,e,z⟩
theorem Inv.lstUpd{pins:List (Addr×Obj)}{σ:St}{H:Hp}{s:Shared}{p:Addr}{xs ys:List V}{its its':List Value}{n n':Nat}{f:Obj->Obj}(I:Inv X pins σ H s)(h:H p=some (.lst xs))
  (ho:s.heap.get? p=some { cls:=.type "list",data:=.seq its.toArray n }) (hf:f { cls:=.type "list",data:=.seq its.toArray n }={ cls:=.type "list",data:=.seq its'.toArray n' }) (r:Vals ys its') (hz:ys.length<=sizeLine) (t:Nat) :
  Inv X pins σ (upd H p (.lst ys)) { s with heap:=s.heap.update p f,toks:=t }:=by
 have e:(s.heap.update p f).get? p=some { cls:=.type "list",data:=.seq its'.toArray n' }:=by
  rw[jJc f ho (by rw[hf]<;>rfl),hf]
 refine I.write (x:=p) (e:=p) (by rw[h];trivial) (.inl rfl) (fun b u hb q=>(jYe _ _ (Ne.symm hb)).trans q) ⟨_,e⟩ ?_
 exact⟨hz,its',n',r,e⟩
def rSetL:V->V->V->Hp->(Hp->Prop)->Prop:=fun o i v H Q=>∃p xs k j,o=.ref p/\i=.int k/\H p=some (.lst xs)/\ixN xs.length k=some j/\Q (upd H p (.lst (xs.set j v)))
theorem set_list:PSet X rSetL:=by
 intro pins s σ H o i v ov iv u Q I ro ri rv h
 obtain⟨p,xs,k,j,rfl,rfl,hp,hj,q⟩:=h
 cases ro
 obtain⟨t,rfl⟩:=ri
 obtain⟨its,n,r,ho,hz⟩:=I.lst hp
 obtain⟨h1,h2,h3,h4⟩:=Qkk hj
 have hl:=r.length
 have hn:=Qcj
 have I':Inv X pins σ (upd H p (.lst (xs.set j v))) { s with heap:=s.heap.update p (Obj.mapSeq (·.setIfInBounds j u)) } :=
  I.lstUpd hp ho (Qin its n j u) (r.set rv j) (by rw[kJf];exact hz) s.toks
 by_cases h0:0<=k
 .have hk:k.toNat=j:=by
   rw[seqIndex_of h0 h4]at h1
   exact Option.some.inj h1
  exact PySem.W.ki_setAt ho h0 Om (by rw[kJ,<-hl];exact h4) (by rw[hk];exact⟨_,I',q⟩)
 .have hk:(k+(its.toArray.size:Int)).toNat=j:=by
   rw[seqIndex_neg Om h3]at h1
   rw[kJ,<-hl]
   exact Option.some.inj h1
  exact PySem.W.ki_setBack ho Om (by rw[kJ,<-hl];exact h3) Om (by rw[hk];exact⟨_,I',q⟩)
theorem Vy(i:Int)(n d:Nat):max 0 (min (if i<0 then i+(n:Int)else i) (n:Int))=((HT.sIx n d (some i):Nat):Int):=by
 rw[<-HT.clip_eq]
 by_cases h:i<0
 .rw[if_pos h,if_pos h,Int.min_eq_left (by have:=Int.add_le_add_right (Int.le_of_lt h) (n:Int);rwa [Int.zero_add]at this),Int.max_comm]
 .rw[if_neg h,if_neg h,HT.min_cast i n h,Int.max_eq_right (Int.natCast_nonneg _)]
theorem Qcq(lo hi:Option Int)(n:Nat):(sliceBounds lo hi none n).1=((HT.sIx n 0 lo:Nat):Int)/\(sliceBounds lo hi none n).2.1=((HT.sIx n n hi:Nat):Int)/\(sliceBounds lo hi none n).2.2=1:=by
 refine⟨?_,?_,rfl⟩
 .cases lo with
  |none=>rfl
  |some i=>exact Vy i n 0
 .cases hi with
  |none=>rfl
  |some i=>exact Vy i n n
theorem Qbc(its:List Value)(lo hi:Option Int):slicePick its.toArray lo hi none=((its.drop (HT.sIx its.length 0 lo)).take (HT.sIx its.length its.length hi-HT.sIx its.length 0 lo)).toArray:=by
 obtain⟨h1,h2,h3⟩:=Qcq lo hi its.toArray.size
 unfold slicePick
 rw[h1,h2,h3]
 simp only[sliceRange_one,pick_run,kJ]<;>rfl
def rSlL(K:Fg):V->Option Int->Option Int->Hp->VK->Prop:=fun x lo hi H Q=>∃a xs,x=.ref a/\SqL K H a xs/\∀p,H p=none->Q (.ref p) (upd H p (.lst (cutV xs lo hi)))
theorem Qkm:SlR X (rSlL X.K):=by
 intro pins s σ H x v vl vu lo hi sl Q I rx hs pl pu h
 obtain⟨a,xs,rfl,hx,q⟩:=h
 cases rx
 obtain⟨its,r,ht,hz⟩:=I.list hx
 have hlen:=r.length
 refine⟨"list",_,slot_list_getitem.lookup,ht.isList.typeIs,?_⟩
 refine wpAny_getItem_list_slice ht.isList hs pl pu .none (by simp) ?_ (by rw[kJ]<;>lia)
 rw[Qbc,<-hlen]
 refine⟨.ref s.heap.objs.size,_,I.laid (t':=s.toks) (o:=.lst (cutV xs lo hi)) (fun b ob q=>jZ _ q) (jW _) ?_,rfl,q _ (I.hok.fresh (jW _))⟩
 exact⟨jQd (Qex xs lo hi) hz,_,0,(r.drop (HT.sIx xs.length 0 lo)).take (HT.sIx xs.length xs.length hi-HT.sIx xs.length 0 lo),kX _ rfl⟩
theorem Xa:Yc X (.builtin "len") (fun xs H Q=>∃p ys,xs=[.ref p]/\(SqL X.K H p ys\/SqT X.K H p ys)/\Q (.int ys.length) H):=by
 intro pins s σ H xs us Q I r h
 obtain⟨p,ys,rfl,hq,q⟩:=h
 obtain⟨u,rfl,rx⟩:=vals1 r
 cases rx
 have hn:=Qcj
 rcases hq with hq | hq
 .obtain⟨its,r',pl,hz⟩:=I.list hq
  have hlen:=r'.length
  exact Calls.call_len_list pl.isList (by simp only[kJ]<;>lia) ⟨.int ys.length,H,I.tok _,⟨s.toks+1,by rw[kJ,hlen]⟩,q⟩
 .obtain⟨its,r',pl,hz⟩:=I.tuple hq
  have hlen:=r'.length
  exact len_tuple pl (by simp only[kJ]<;>lia) ⟨.int ys.length,H,I.tok _,⟨s.toks+1,by rw[kJ,hlen]⟩,q⟩
theorem Yo:Yc X (.type "list") (fun xs H Q=>∃p ys,xs=[.ref p]/\(SqL X.K H p ys\/SqT X.K H p ys)/\∀l,H l=none->Q (.ref l) (upd H l (.lst ys))):=by
 intro pins s σ H xs us Q I r h
 obtain⟨p,ys,rfl,hq,q⟩:=h
 obtain⟨u,rfl,rx⟩:=vals1 r
 cases rx
 have fin:∀(its:List Value),Vals ys its->ys.length<=sizeLine->∀(h':Heap) (c':Nat),(∀b o',s.heap.get? b=some o'->h'.get? b=some o') ->
   h'.get? s.heap.objs.size=some { cls:=.type "list",dict:=none,data:=.seq its.toArray c',slots:=#[] }->EP X pins σ Q (.ref s.heap.objs.size) { s with heap:=h' }:=fun its r' hz h' c' kp e=>
  ⟨.ref s.heap.objs.size,_,I.laid (t':=s.toks) kp (jW _) (show ObjOk X.prog X.w _ h' _ (.lst ys)from⟨hz,its,c',r',e⟩),rfl,q _ (I.hok.fresh (jW _))⟩
 rcases hq with hq | hq
 .obtain⟨its,r',pl,hz⟩:=I.list hq
  have hlen:=r'.length
  obtain⟨o,ho,hc,n,hd⟩:=pl.isList
  exact call_list_seq p (.inl rfl) ho hc hd (fun h' c' kp e=>fin its r' hz h' c' kp e) (by simp only[kJ]<;>lia)
 .obtain⟨its,r',pl,hz⟩:=I.tuple hq
  have hlen:=r'.length
  obtain⟨o,ho,hc,n,hd⟩:=pl
  exact call_list_seq p (.inr rfl) ho hc hd (fun h' c' kp e=>fin its r' hz h' c' kp e) (by simp only[kJ]<;>lia)
theorem Xd:Yc X (.type "tuple") (fun xs H Q=>∃p ys,xs=[.ref p]/\((SqL X.K H p ys/\∀l,H l=none->Q (.ref l) (upd H l (.tup ys)))\/(SqT X.K H p ys/\Q (.ref p) H))):=by
 intro pins s σ H xs us Q I r h
 obtain⟨p,ys,rfl,h⟩:=h
 obtain⟨u,rfl,rx⟩:=vals1 r
 cases rx
 rcases h with⟨hq,q⟩ | ⟨hq,q⟩
 .obtain⟨its,r',pl,hz⟩:=I.list hq
  have hlen:=r'.length
  refine call_tuple_list pl.isList (fun h' kp=>?_) (by simp only[kJ]<;>lia)
  have I1:Inv X pins σ H { s with heap:=h' }:=I.kept (t':=s.toks) kp
  have I2:Inv X pins σ (upd H h'.objs.size (.tup ys)) { s with heap:=h'.push { cls:=.type "tuple",data:=.seq its.toArray } } :=
   I1.laid (t':=s.toks) (fun b o e=>jZ _ e) (jW _) (show ObjOk X.prog X.w _ _ _ (.tup ys)from⟨hz,its,r',IsTup.new _ _⟩)
  exact⟨.ref h'.objs.size,_,I2,rfl,q _ (I1.hok.fresh (jW _))⟩
 .obtain⟨its,r',pl,hz⟩:=I.tuple hq
  exact call_tuple_same pl ⟨.ref p,H,I,rfl,q⟩
def tyV(K:Fg)(T:String)(x:V)(H:Hp):Prop:=match x with
 |.str _=>T="str"
 |.int _=>T="int"
 |.ref p=>(T="list"/\∃xs,SqL K H p xs)\/(T="tuple"/\∃o,K.lookup p=some o/\o.cls=.type "tuple"/\o.dict=none) \/
   (T="dict"/\((∃kvs,H p=some (.dK kvs))\/∃kvs,H p=some (.dT kvs)))\/(T="set"/\∃S n,H p=some (.set S n))
 |_=>False
theorem tyV_is{pins:List (Addr×Obj)}{σ:St}{H:Hp}{s:Shared}{T:String}{x:V}{v:Value}(I:Inv X pins σ H s)(r:RelV x v)(ty:tyV X.K T x H) :
  s.TypeIs v T/\∀a,v=.ref a->∃ob,s.heap.get? a=some ob/\ob.dict=none:=by
 cases x with
 |str z=>
  obtain⟨t,rfl⟩:=r
  cases(show T="str" from ty)
  exact⟨typeIs_str s z t,fun _ e=>nomatch e⟩
 |int i=>
  obtain⟨t,rfl⟩:=r
  cases(show T="int" from ty)
  exact⟨typeIs_int s i t,fun _ e=>nomatch e⟩
 |ref p=>
  cases r
  rcases ty with⟨rfl,xs,hq⟩ | ⟨rfl,o,hk,hc,hd⟩ | ⟨rfl,hk⟩ | ⟨rfl,S,n,hk⟩
  .obtain⟨its,_,pl,_⟩:=I.list hq
   refine⟨pl.isList.typeIs,fun a e=>?_⟩
   cases e
   obtain⟨o,n,e,c,hd,_⟩:=pl
   exact⟨o,e,hd⟩
  .refine⟨⟨o,I.kIn p o hk,hc⟩,fun a e=>?_⟩
   cases e
   exact⟨o,I.kIn _ o hk,hd⟩
  .have z:∃o,s.heap.get? p=some o/\o.ExactDict:=by
    rcases hk with⟨kvs,hk⟩ | ⟨kvs,hk⟩
    .obtain⟨_,_,_,_,o,_,_,e,ex,_⟩:=I.hok p _ hk
     exact⟨o,e,ex⟩
    .obtain⟨_,_,_,_,o,_,_,e,ex,_⟩:=I.hok p _ hk
     exact⟨o,e,ex⟩
   obtain⟨o,e,ex⟩:=z
   refine⟨⟨o,e,ex.1⟩,fun a e2=>?_⟩
   cases e2
   exact⟨o,e,ex.2.1⟩
  .obtain⟨o,_,_,_,e,ex,_⟩:=I.hok p _ hk
   refine⟨⟨o,e,ex.1⟩,fun a e2=>?_⟩
   cases e2
   exact⟨o,e,ex.2.1⟩
 |_=>exact False.elim ty
def tBM(K:Fg)(T:String)(r:V->List V->Hp->VK->Prop)(to:TE)(t:TA):TE:=fun σ H Q=>to σ H fun x H1=>tyV K T x H1/\t σ H1 fun xs H2=>r x xs H2 Q
variable{o e:Expr}{es:List Expr}{to:TE}{t:TA}{name:Str}{apos cpos:Pos}{T id:String}{r:V->List V->Hp->VK->Prop}
theorem Vm(pa:PlainAttrs T)(slot:Slot T name id)(hty:typeOf (.builtin id)=pure (.type "method_descriptor"))(hm:MtR X id r)(ho:PE X o to)(ha:PA X (e::es) t)
  (hbase:autoParam (attributeBase o name X.env (eval o X.env)=eval o X.env) L2.aRfl._auto_1)
  (hfew:((backTo cpos (starEach (e::es) X.env)).all (fun x=>!x.1)&&(backToKw cpos (keywordEach [] X.env)).all (fun x=>x.1.isSome)
   && decide ((e::es).length+([]:List Keyword).length+(if ([]:List Keyword).isEmpty then 0 else 1)<30))=true:=by rfl)
  (hline:autoParam ((apos.endLine == cpos.line)=true) L2.aRfl._auto_1) (hs:autoParam (starEach (e::es) X.env=(false,eval e X.env)::starEach es X.env) L2.aRfl._auto_1) (hplain:autoParam ((backTo cpos (starEach es X.env)).any (·.1)=false) L2.aRfl._auto_1) :
  PE X (.Call (.Attribute o name apos) (e::es) [] cpos) (tBM X.K T r to t):=by
 intro pins s σ H Q I h
 refine wpAny_Call_method_late hbase hfew hline rfl (thn (ho pins s σ H _ I h) fun v s1 hqP=>?_)
 obtain⟨x,H1,I1,r1,ty,q1⟩:=hqP
 obtain⟨h1,h2⟩:=tyV_is I1 r1 ty
 refine⟨T,id,pa,slot,hty,h1,h2,?_⟩
 have hA:=ha cpos pins s1 σ H1 _ I1 q1
 rw[hs]at hA⊢
 refine Calls.callWith_builtin (by show(false||(backTo cpos (starEach es X.env)).any (·.1))=false;rw[hplain]<;>rfl) (Calls.evalArgs_plain ?_)
 exact thn hA fun us s2 ⟨vs,H2,I2,r2,q2⟩=>hm pins s2 σ H2 x vs v us Q I2 r1 r2 q2
end
def MtM(X:Cx)(id:String)(r:V->List V->Hp->VK->Prop):Prop :=
 ∀(pins:List (Addr×Obj)) (s:Shared) (σ:St) (H:Hp) (x:V) (xs:List V) (v:Value) (us:List Value) (Q:VK),Inv X pins σ H s->RelV x v->Vals xs us->r x xs H Q ->
  wpAny (model X.prog X.w) X.A (call (.builtin id) (v::us)) (EP X pins σ Q) X.xe s
theorem Vals.one{x:V}{us:List Value}(h:Vals [x] us):∃u,us=[u]/\RelV x u:=by
 cases h with
 |cons r t=>cases t;exact⟨_,rfl,r⟩
theorem Vals.two{x y:V}{us:List Value}(h:Vals [x,y] us):∃u v,us=[u,v]/\RelV x u/\RelV y v:=by
 cases h with
 |cons r t=>
  cases t with
  |cons q t=>cases t;exact⟨_,_,rfl,r,q⟩
theorem Vals.rep{xs:List V}{us:List Value}(h:Vals xs us):∀k:Nat,Vals (List.replicate k xs).flatten (List.replicate k us).flatten
 |0=>.nil
 |k+1=>by
  rw[kQf,kQf,jKb,jKb]
  exact Vals.append h (Vals.rep h k)
theorem foldl_rep(its:List Value):∀(k:Nat) (acc:List Value),
  List.foldl (fun x1 x2=>x1++x2) acc.toArray (List.replicate k its.toArray)=(acc++(List.replicate k its).flatten).toArray
 |0,acc=>by simp
 |k+1,acc=>by
  have e:acc.toArray++its.toArray=(acc++its).toArray:=by simp
  have e2:(acc++its)++(List.replicate k its).flatten=acc++(List.replicate (k+1) its).flatten:=by
   rw[kQf,jKb,kZ]
  rw[<-e2,<-foldl_rep its k (acc++its),<-e,kQf,kKa]
section
variable{X:Cx}{pins:List (Addr×Obj)}{σ:St}{H:Hp}{s:Shared}{l:Addr}{xs ys:List V}
theorem Inv.lset{its its':List Value}{n:Nat}{f:Array Value->Array Value}{t':Nat}(I:Inv X pins σ H s)(hH:H l=some (.lst xs))
  (e:s.heap.get? l=some { cls:=.type "list",data:=.seq its.toArray n }) (hf:f its.toArray=its'.toArray) (hv:Vals ys its') (hz:ys.length<=sizeLine) :
  Inv X pins σ (upd H l (.lst ys)) { s with heap:=s.heap.update l (Obj.mapSeq f),toks:=t' }:=by
 have q:=PySem.IsL.update e f
 rw[hf]at q
 refine I.write (x:=l) (e:=l) (by rw[hH];exact trivial) (.inl rfl) (fun b' u hb hu=>(jYe s.heap (Obj.mapSeq f) (Ne.symm hb)).trans hu) ⟨_,q⟩ ?_
 exact⟨hz,its',_,hv,q⟩
theorem Inv.lnew{its:List Value}{t':Nat}(I:Inv X pins σ H s)(hv:Vals ys its)(hz:ys.length<=sizeLine) :
  Inv X pins σ (upd H s.heap.objs.size (.lst ys)) { s with heap:=s.heap.push { cls:=.type "list",data:=.seq its.toArray },toks:=t' } :=
 I.laid (fun _ _ q=>jZ _ q) (jW _) ⟨hz,its,0,hv,kX _ rfl⟩
theorem Inv.fresh(I:Inv X pins σ H s):H s.heap.objs.size=none:=I.hok.fresh (jW _)
theorem Inv.lstM(I:Inv X pins σ H s)(hH:H l=some (.lst xs)):xs.length<=sizeLine/\∃(its:List Value) (n:Nat),Vals xs its/\xs.length=its.length/\s.heap.get? l=some { cls:=.type "list",data:=.seq its.toArray n }:=by
 obtain⟨z,its,n,r,e⟩:=I.hok l _ hH
 exact⟨z,its,n,r,r.length,e⟩
theorem Qou{n:Nat}(h:n<=sizeLine):Builtin.List.listTooLong n=false:=by
 unfold Builtin.List.listTooLong
 exact wQ Om
end
section
variable{X:Cx}
def Qsx:V->List V->Hp->VK->Prop:=fun x vs H Q=>∃l xs y,x=.ref l/\vs=[y]/\H l=some (.lst xs)/\xs.length<sizeLine/\Q .non (upd H l (.lst (xs++[y])))
theorem Xo:MtM X "list.append" Qsx:=by
 intro pins s σ H x vs v us Q I rx rv h
 obtain⟨l,xs,y,rfl,rfl,hH,hz,q⟩:=h
 cases rx
 obtain⟨u,rfl,ru⟩:=rv.one
 obtain⟨z,its,n,r,hl,e⟩:=I.lstM hH
 refine call_meets F.slot_list_append ⟨_,e,rfl⟩ F.entry_list_append (F.args_list_append_2 _ _) (PySem.list_append l its.toArray n u (by rw[kJ];lia)) ⟨e,?_⟩
 refine⟨.non,_,I.lset (its':=its++[u]) hH e (by simp) (r.append (.cons ru .nil)) ?_,rfl,q⟩
 rw[yV,yYb]
 lia
def rCat:R2:=fun x y H Q=>∃l b xs zs,x=.ref l/\y=.ref b/\H l=some (.lst xs)/\H b=some (.lst zs)/\xs.length+zs.length<=sizeLine/\∀p,H p=none->Q (.ref p) (upd H p (.lst (xs++zs)))
theorem Qkn:OpR X (binaryOp .Add) rCat:=by
 intro pins s σ H x y v u Q I rx ry h
 obtain⟨l,b,xs,zs,rfl,rfl,hH,hB,hz,q⟩:=h
 cases rx
 cases ry
 obtain⟨z,its,n,r,hl,e⟩:=I.lstM hH
 obtain⟨z2,its2,n2,r2,hl2,e2⟩:=I.lstM hB
 refine PySem.P.add_list e e2 ?_ (by rw[kJ,kJ];lia)
 have ea:its.toArray++its2.toArray=(its++its2).toArray:=by simp
 rw[ea]
 exact⟨.ref _,_,I.lnew (t':=s.toks) (r.append r2) (by rw[yV];lia),rfl,q _ I.fresh⟩
def rRep:R2:=fun x y H Q=>∃l k xs,x=.ref l/\y=.int k/\H l=some (.lst xs)/\-(2 ^ 63)<=k/\k<2 ^ 63/\xs.length*k.toNat<=sizeLine /\
 ∀p,H p=none->Q (.ref p) (upd H p (.lst (List.replicate k.toNat xs).flatten))
theorem len_rep{α:Type}(xs:List α)(k:Nat):(List.replicate k xs).flatten.length=k*xs.length:=by
 induction k with
 |zero=>simp
 |succ k ih=>rw[kQf,jKb,yV,ih,Nat.succ_mul,yXd]
theorem Qrp:OpR X (binaryOp .Mult) rRep:=by
 intro pins s σ H x y v u Q I rx ry h
 obtain⟨l,k,xs,rfl,rfl,hH,h1,h2,hz,q⟩:=h
 cases rx
 obtain⟨t,rfl⟩:=ry
 obtain⟨z,its,n,r,hl,e⟩:=I.lstM hH
 have hlen:its.toArray.size*k.toNat<=sizeLine:=by rw[kJ,<-hl];exact hz
 have hcap:¬its.toArray.size*k.toNat > (2 ^ 63-1) / 8:=by
  have:(sizeLine:Nat)<=(2 ^ 63-1) / 8:=Dc
  lia
 have hfit:¬(!Builtin.List.listFitsIndex k)=true:=by
  rw[fitsIndex_both h1 h2]
  exact xQ
 have hlong:¬Builtin.List.listTooLong (its.toArray.size*k.toNat)=true:=by
  rw[Qou hlen]
  exact xQ
 have hnew:List.foldl (fun x1 x2=>x1++x2) #[] (List.replicate (if its.toArray.isEmpty=true then 0 else k.toNat) its.toArray)=(List.replicate k.toNat its).flatten.toArray:=by
  have f0:∀m:Nat,List.foldl (fun x1 x2=>x1++x2) #[] (List.replicate m its.toArray)=(List.replicate m its).flatten.toArray:=fun m=>by
   have:=foldl_rep its m []
   rw[List.nil_append]at this
   exact this
  rw[f0]
  cases its with
  |nil=>simp
  |cons a r'=>rw[if_neg (by simp)]
 refine wpAny_binaryOp_repeat_ref (T:="list") (U:="int") Dc ⟨_,e,rfl⟩ (fun s'=>typeIs_int s' k t) noFill_list_mul F.fills_int_mul F.slot_int_rmul repeat_list F.slot_int_index.lookup
  (call_meets F.slot_int_rmul (typeIs_int s k t) F.entry_int_rmul (F.args_int_rmul_2 _ _) (int___rmul___int_list k t l its.toArray n)
   ⟨e,rfl,⟨_,e,rfl⟩,call_meets F.slot_list_mul ⟨_,e,rfl⟩ F.entry_list_mul (F.args_list_mul_2 _ _) (AutoListH.list___mul___list_int_3 l its.toArray n k t hfit hcap hlong) ⟨e,?_⟩⟩)
 rw[hnew]
 exact⟨.ref _,_,I.lnew (t':=s.toks) (r.rep k.toNat) (by rw[len_rep,yJa];exact hz),rfl,q _ I.fresh⟩
end
end L2
namespace Att
open PySem PySem.W PySem.Calls PyProof.Rows
theorem Vz{P:Params}{h:Heap}:∀(ns:List Int) (vs:List Value),WellAll P h vs (ns.map WData.int)->IntsAre vs ns:=by
 intro ns
 induction ns with
 |nil=>
  intro vs w
  rw[yZf]at w
  cases w
  exact .nil
 |cons n ns ih=>
  intro vs w
  rw[zW]at w
  cases w with
  |cons a b=>
   cases a
   exact .cons _ _ (ih _ b)
theorem Qko{l:OpenLaw}{n:Nat}(hn:l.most=some n){P:Params}{h:Heap}{args:List WData}{vals:List Value}
  (hpre:l.row.toRowW.claim.pre args=true) (hwl:WellAll P h vals args) :
  ∃a vs ns,vals=[Value.ref a]/\args=[WData.list (ns.map WData.int)]/\h.get? a=some { cls:=.type "list",data:=.seq vs.toArray }/\IntsAre vs ns/\ns.length<=n:=by
 have hsh:WShape.hasAll [] args [.list .int]=true:=(pre_splitW hpre).1
 have hc:l.pre.holds [] { args:=args }=true:=(pre_splitW hpre).2
 obtain⟨d,r,rfl,h1,h2⟩:=hasAllW_cons hsh
 obtain rfl:=hasAllW_nil h2
 obtain⟨xs,rfl,h3⟩:=hasW_list h1
 obtain⟨ns,rfl⟩:=items_int h3
 have hlen:ns.length<=n:=by
  unfold OpenLaw.pre at hc
  have h4:(WTm.not (.lt (.lit (.int (n:Int))) (.len (.arg 0)))).holds [] { args:=[.list (ns.map .int)] }=true:=by
   have h4:=(holds_andW hc).1
   rw[hn]at h4
   exact h4
  have h5:=condW_of h4 (w_not (w_lt w_lit (w_len_list (w_arg rfl))))
  rw[jX]at h5
  refine kXb fun q=>?_
  have q':(n:Int)<((ns.length:Nat):Int):=Om
  first
   |(rw[xW q']at h5;exact absurd h5 Dc)
   |(simp at h5;lia)
 cases hwl with
 |cons w1 w2=>
  cases w2
  cases w1 with
  |list ho hall=>exact⟨_,_,ns,rfl,rfl,ho,Vz ns _ hall,hlen⟩
theorem Qkp(l:OpenLaw)(args:List WData):l.row.toRowW.claim.post args (.bool true) args=true :=
 postW_of (r:=l.row.toRowW) (X:=(true == true))
  (show WShape.has [] (.bool true) .bool=true by first | rfl | decide | simp[WShape.has,WShape.arms,WShape.armsAll])
  (show(WTm.eq .res (.lit (.bool true))).value [] { args:=args,res:=some (.bool true),after:=args }=some (.bool (true == true))from w_eq_bool (w_res rfl) w_lit) rfl
end Att
namespace L2
open PySem PySem.Spec PyProof.Rows
theorem Qcr:∀{vs:List Value} {ns:List Int},IntsAre vs ns->Vals (ns.map V.int) vs
 |_,_,.nil=>.nil
 |_,_,.cons n t h=>.cons ⟨t,rfl⟩ (Qcr h)
abbrev KOf{K:Fg}{h:Heap}(_:K.In h):Fg:=K
end L2
namespace L2
open PySem PySem.Spec PyProof.Rows
def inClass(s:Stmt)(j:Nat):Stmt:=match s with
 |.ClassDef _ _ _ body _ _ _ _ _ _ _=>body.getD j (.Pass ⟨0,0,0,0⟩)
 |_=>.Pass ⟨0,0,0,0⟩
def Qv(s:Stmt):Arguments:=match s with
 |.FunctionDef _ a _ _ _ _ _ _ _ _=>a
 |_=>{ posonlyargs:=[],args:=[],vararg:=none,kwonlyargs:=[],kw_defaults:=[],kwarg:=none,defaults:=[] }
def Qq(s:Stmt):List Stmt:=match s with
 |.FunctionDef _ _ b _ _ _ _ _ _ _=>b
 |_=>[]
def Qh(s:Stmt):Scope:=match s with
 |.FunctionDef _ _ _ _ _ _ sc _ _ _=>sc
 |_=>{ kind:=.function,names:=[],isGenerator:=false,isCoroutine:=false }
abbrev CX0:CXT:=fun _ _ _ _ _ _=>False
abbrev E0:XK:=fun _ _ _=>False
theorem Kz{X:Cx}:Vx CX0 X E0:=fun _ _ _ _ _ _ _ h=>h.elim
structure Fun(K:Fg)(x qual:Str)(st:Stmt)(f:Addr)(fd:FuncData):Prop where
 ex:∃(oc:Value) (od:Option Addr) (kV doc pm:Value) (an:Option Addr) (cdv ct:Value) (osl:Array (Option Value)),
  fd=PySem.W.fnOf x qual (Qv st) (Qq st) (Qh st) .none kV doc pm an cdv ct/\K.lookup f=some ⟨oc,od,.func fd,osl⟩/\PySem.W.codeIn K cdv qual=true
 kp:PySem.W.keepIn K (.ref f)=true
section
variable{P:Program}{w:World}{K:Fg}{mg:Str->Option Value}{base:Heap}
theorem Fun.ok{x qual:Str}{st:Stmt}{f:Addr}{fd:FuncData}{N ps:List Str}{k:Nat}{sp:Sp}(F:Fun K x qual st f fd)(S:FnScope N ps (Qh st))(len:∀vs H Q E,sp vs H Q E->vs.length=ps.length)
  (hbody:∀(cdv:Value) (A:Around) (outer:List Env) (s:Shared) (H:Hp) (vs:List V) (Q:VK) (E:XK),Room k (A.deeper (envOfC qual (Qh st) s.heap.objs.size f cdv))->sp vs H Q E ->
   ∃t,PSs (cxOf CX0 P w K mg base N qual (Qh st) f cdv A outer s H E).nox (Qq st) t/\t { nx:=fun _ H'=>Q .non H',rt:=Q } (start N vs) H):FnOk P w K mg base CX0 (k+1) f fd ps sp:=by
 obtain⟨oc,od,kV,doc,pm,an,cdv,ct,osl,rfl,lk,hcd⟩:=F.ex
 refine fn_of lk hcd S len fun A outer s H vs Q E hr hsp=>?_
 obtain⟨t,h,q⟩:=hbody cdv A outer s H vs Q E hr hsp
 exact⟨t,h.nox,q⟩
theorem Fun.binds{x qual:Str}{st:Stmt}{f:Addr}{fd:FuncData}{ps:List Str}(F:Fun K x qual st f fd)
  (h:∀(kV doc pm:Value) (an:Option Addr) (cdv ct:Value) (us:List Value),us.length=ps.length->bindArgs (PySem.W.fnOf x qual (Qv st) (Qq st) (Qh st) .none kV doc pm an cdv ct) ⟨us,[]⟩=pure (ps.zip us)):Binds K fd ps []:=by
 obtain⟨oc,od,kV,doc,pm,an,cdv,ct,osl,rfl,lk,hcd⟩:=F.ex
 exact .all (h kV doc pm an cdv ct)
theorem Wa{x qual:Str}{st:Stmt}{f:Addr}{oc:Value}{od an:Option Addr}{osl:Array (Option Value)}{kV doc pm cdv ct:Value}(l:K.lookup f=some ⟨oc,od,.func (PySem.W.fnOf x qual (Qv st) (Qq st) (Qh st) .none kV doc pm an cdv ct),osl⟩)
  (c:PySem.W.codeIn K cdv qual=true) (k:PySem.W.keepIn K (.ref f)=true):Fun K x qual st f (PySem.W.fnOf x qual (Qv st) (Qq st) (Qh st) .none kV doc pm an cdv ct):=⟨⟨oc,od,kV,doc,pm,an,cdv,ct,osl,rfl,l,c⟩,k⟩
end
section
variable{X:Cx}
theorem pv(i:Nat){x:Str}{pos:Pos}(hN:autoParam (X.N[i]?=some x) L2.aRfl._auto_1)(hv:Vis X.env.scope x:=by first | exact Or.inl rfl | exact Or.inr (Or.inl rfl) | exact Or.inr (Or.inr rfl))(hd:autoParam ((x == ("__debug__":Str))=false) L2.aDec._auto_1)
  (hcd:autoParam ((x == ("__classdict__":Str))=false) L2.aDec._auto_1):PE X (.Name x pos) (tVar i):=pe_var hN hv hd hcd
end
theorem iteF{A B:Prop}(h:B):if false=true then A else B:=by
 rw[if_neg xQ]
 exact h
theorem iteT{A B:Prop}(h:A):if true=true then A else B:=by
 rw[if_pos rfl]
 exact h
theorem ite2{c A B:Prop}[Decidable c](h1:c->A)(h2:¬c->B):if c then A else B:=by
 by_cases h:c
 .rw[if_pos h]
  exact h1 h
 .rw[if_neg h]
  exact h2 h
def Same(H H':Hp):Prop:=∀b o,H b=some o->H' b=some o
theorem Same.trans{H H1 H2:Hp}(a:Same H H1)(b:Same H1 H2):Same H H2:=fun c o h=>b c o (a c o h)
theorem Same.seq{K:Fg}{H H':Hp}{a:Addr}{xs:List V}(e:Same H H')(h:SqL K H a xs):SqL K H' a xs:=by
 rcases h with(h | ⟨o,h⟩) | h
 .exact .inl (.inl (e _ _ h))
 .exact .inl (.inr ⟨o,e _ _ h⟩)
 .exact .inr h
theorem Qcs{prog:Program}{w:World}{A:Around}{R:Result->Shared->Prop}{s:Shared}{elt target iter:Expr}{ifs:List Expr}{scope:Scope}{pos:Pos}{it acc:Value}{env:Env}(I:Nat->Shared->Prop)
  (turn:∀n s,I n s->wpAny (model prog w) A (pyNext it) (fun r s1=>match r with
   |none=>R (.ok .next) s1
   |some v=>wpAny (model prog w) A (letOwnedTupleGo target it v) (fun _ s1'=>wpAny (model prog w) A (assign target env v) (fun _ s2=>
     wpAny (model prog w) A (forIn ifs true fun c r=>if r=true then do let ok ← isTrue c env (eval c env);pure (ForInStep.yield ok)else pure (ForInStep.yield r)) (fun ok s3=>
      if ok=true then wpAny (model prog w) A (eval elt env) (fun x s4=>
       wpAny (model prog w) A (call (.builtin "list.append") [acc,x]) (fun _ s5=>∃m,m<n/\I m s5) (fun _ _=>False) s4) (fun _ _=>False) s3
      else ∃m,m<n/\I m s3) (fun _ _=>False) s2) (fun _ _=>False) s1') (fun _ _=>False) s1) (fun _ _=>False) s)
  (n:Nat) (h:I n s) :
  codeAny (model prog w) A (.compLoop (.ListComp elt [⟨target,iter,ifs,0⟩] scope pos) 0 it acc env) R s:=by
 refine codeAny_loop rfl I (fun n s hI=>?_) n h
 show wpAny _ A ((compTurn (.ListComp elt [⟨target,iter,ifs,0⟩] scope pos) 0 it acc env).onRaise (fun x=>do noteFrame x env;theTreesLotGoes x)) _ _ s
 refine wpAny_noted ?_
 rw[compTurn_list]
 refine jQ (wpAny_standAt (jQ (wpAny_mono (turn n s hI) (fun r s1 h1=>?_) fun _ _ h'=>h'.elim)))
 cases r with
 |none=>exact jJ h1
 |some v=>
  refine jQ (wpAny_mono h1 (fun _ s1' h1'=>?_) fun _ _ h'=>h'.elim)
  refine jQ (wpAny_mono h1' (fun _ s2 h2=>jQ (wpAny_mono h2 (fun ok s3 h3=>?_) fun _ _ h'=>h'.elim)) fun _ _ h'=>h'.elim)
  cases ok with
  |false=>exact jJ ⟨rfl,h3⟩
  |true=>
   exact jQ (jQ (wpAny_mono h3 (fun x s4 h4=>jQ (wpAny_mono h4 (fun _ s5 h5=>jJ (jJ ⟨rfl,h5⟩)) fun _ _ h'=>h'.elim)) fun _ _ h'=>h'.elim))
def freeOk(sc:Scope):List (Str×NameKind)->Bool
 |[]=>true
 |(n,k)::r=>(k != .free||sc.names.lookup n == some .cell||sc.names.lookup n == some .free)&&freeOk sc r
def Yl(env:Env):List (Str×NameKind)->List (Str×Addr)->List (Str×Addr)
 |[],cs=>cs
 |(n,k)::r,cs=>Yl env r (if k=.free then(n,(env.cells.lookup n).getD 0)::cs else cs)
theorem Jw{env:Env}:∀(l:List (Str×NameKind)) (cs:List (Str×Addr)),(∀n,(n,NameKind.free)∈l->∃c,env.cells.lookup n=some c)->(∀x c,cs.lookup x=some c->env.cells.lookup x=some c) ->
  ∀x c,(Yl env l cs).lookup x=some c->env.cells.lookup x=some c
 |[],cs,_,h=>h
 |(n,k)::r,cs,hl,h=>by
  refine Jw r _ (fun m hm=>hl m (zY _ hm)) fun x c e=>?_
  by_cases hk:k=.free
  .rw[if_pos hk]at e
   subst hk
   obtain⟨c',hc⟩:=hl n zJ
   rw[kXc]at e
   cases hx:x == n with
   |true=>
    rw[hx]at e
    have:x=n:=by simpa using hx
    subst this
    rw[hc]at e
    simp at e
    rw[hc,e]
   |false=>rw[hx]at e;exact h x c e
  .rw[if_neg hk]at e
   exact h x c e
theorem Jx{env:Env}:∀(l:List (Str×NameKind)) (cs:List (Str×Addr)) (x:Str),((cs.lookup x).isSome=true\/(x,NameKind.free)∈l)->((Yl env l cs).lookup x).isSome=true
 |[],cs,x,h=>by
  rcases h with h | h
  .exact h
  .exact nomatch h
 |(n,k)::r,cs,x,h=>by
  refine Jx r _ x ?_
  rcases h with h | h
  .left
   split
   .rw[kXc]
    split
    .rfl
    .exact h
   .exact h
  .rcases yY.mp h with e | e
   .cases e
    left
    rw[if_pos rfl,kXc]
    simp
   .exact .inr e
theorem Zw{scope:Scope}{env:Env}(h:∀n,(n,NameKind.free)∈scope.names->∃c,env.cells.lookup n=some c):closureFor scope env=pure (Yl env scope.names []):=by
 unfold closureFor
 suffices ∀(l:List (Str×NameKind)) (cs:List (Str×Addr)),(∀n,(n,NameKind.free)∈l->∃c,env.cells.lookup n=some c)->(forIn l cs fun x r=>
   if (x.2 == NameKind.free)=true then do let a ← cellOf env x.1;pure (ForInStep.yield ((x.1,a)::r))else pure (ForInStep.yield r):Sem _)=pure (Yl env l cs)by
  have:=this scope.names [] h
  simp only at this⊢
  rw[this]
  rfl
 intro l
 induction l with
 |nil=>intro cs _;rfl
 |cons p r ih=>
  intro cs hl
  obtain⟨n,k⟩:=p
  rw[List.forIn_cons]
  by_cases hk:k=.free
  .subst hk
   obtain⟨c,hc⟩:=hl n zJ
   have e:cellOf env n=pure c:=by unfold cellOf;rw[hc]
   have hb:(NameKind.free == NameKind.free)=true:=rfl
   simp only[hb,if_true,e,Yl,hc,yKc]
   exact ih _ fun m hm=>hl m (zY _ hm)
  .have hb:(k == NameKind.free)=false:=by simpa using hk
   simp only[hb,yJ,if_false,Yl,if_neg hk]
   exact ih _ fun m hm=>hl m (zY _ hm)
theorem Yy{sc:Scope}:∀{l:List (Str×NameKind)},freeOk sc l=true->∀n,(n,NameKind.free)∈l->sc.names.lookup n=some .cell\/sc.names.lookup n=some .free
 |[],_,n,h=>nomatch h
 |(m,k)::r,h,n,hm=>by
  simp only[freeOk,jKa]at h
  rcases yY.mp hm with e | e
  .cases e
   have h1:=h.1
   have hb:(NameKind.free != NameKind.free)=false:=rfl
   rw[hb]at h1
   simp only[Bool.false_or,zQd,beq_iff_eq]at h1
   exact h1
  .exact Yy h.2 n e
theorem Xt{env:Env}:∀{names:List (Str×NameKind)} {x:Str} {k:NameKind},(names.map fun(n,k)=>if (k == NameKind.free&&env.scope.kind == .function&&env.kindOf n == some .cell)then(n,NameKind.cell)else(n,k)).lookup x=some k ->
  ∃k0,names.lookup x=some k0/\(k=k0\/(k=.cell/\k0=.free))
 |[],_,_,h=>by simp at h
 |(n,k0)::r,x,k,h=>by
  rw[zW]at h
  by_cases hc:(k0 == NameKind.free&&env.scope.kind == .function&&env.kindOf n == some .cell)=true
  .simp only[hc,if_true,kXc]at h
   rw[kXc]
   cases hx:x == n with
   |true=>
    rw[hx]at h
    refine⟨k0,rfl,.inr ⟨(Option.some.inj h).symm,?_⟩⟩
    simp only[jKa,beq_iff_eq]at hc
    exact hc.1.1
   |false=>rw[hx]at h;exact Xt h
  .simp only[hc,yJ,if_false,kXc]at h
   rw[kXc]
   cases hx:x == n with
   |true=>rw[hx]at h;exact⟨k0,rfl,.inl (Option.some.inj h).symm⟩
   |false=>rw[hx]at h;exact Xt h
theorem lookup_mem{α:Type}:∀{l:List (Str×α)} {x:Str} {k:α},l.lookup x=some k->(x,k)∈l
 |[],_,_,h=>by simp at h
 |(n,k0)::r,x,k,h=>by
  rw[kXc]at h
  cases hx:x == n with
  |true=>
   rw[hx]at h
   have e1:x=n:=by simpa using hx
   have e2:k0=k:=Option.some.inj h
   subst e1 e2
   exact zJ
  |false=>rw[hx]at h;exact zY _ (lookup_mem h)
def Wb(cp:List (Option Nat))(σ:St):St:=cp.map fun(o:Option Nat)=>match o with
 |none=>none
 |some j=>match σ[(j:Nat)]? with
  |some v=>v
  |none=>none
def Kf(X:Cx)(scope:Scope):List Str->List (Option Nat)->Bool
 |[],[]=>true
 |x::N,o::cp=>(match o with | none=>true | some j=>X.N[j]? == some x&&scope.names.lookup x == some .free)&&Kf X scope N cp
 |_,_=>false
theorem Qct{X:Cx}{scope:Scope}:∀{N:List Str} {cp:List (Option Nat)},Kf X scope N cp=true->cp.length=N.length
 |[],[],_=>rfl
 |_::N,_::cp,h=>by
  simp only[Kf,jKa]at h
  simp[Qct h.2]
 |[],_::_,h=>by simp[Kf]at h
 |_::_,[],h=>by simp[Kf]at h
theorem Qcu{X:Cx}{scope:Scope}:∀{N:List Str} {cp:List (Option Nat)} {i:Nat} {x:Str} {v:V} {σ:St},Kf X scope N cp=true->N[i]?=some x->(Wb cp σ)[i]?=some (some v) ->
  ∃j:Nat,X.N[j]?=some x/\σ[j]?=some (some v)/\scope.names.lookup x=some .free
 |[],[],i,x,v,σ,_,h,_=>by simp at h
 |y::N,o::cp,0,x,v,σ,h,e,e2=>by
  simp only[Kf,jKa]at h
  have e':y=x:=by simpa using e
  subst e'
  cases o with
  |none=>simp[Wb]at e2
  |some j=>
   have h1:=h.1
   simp only[jKa,beq_iff_eq]at h1
   refine⟨j,h1.1,?_,h1.2⟩
   simp only[Wb,zW,List.getElem?_cons_zero,Option.some.injEq]at e2
   cases q:σ[j]? with
   |none=>rw[q]at e2;cases e2
   |some z=>rw[q]at e2;exact congrArg some e2
 |y::N,o::cp,i+1,x,v,σ,h,e,e2=>by
  simp only[Kf,jKa]at h
  exact Qcu (i:=i) h.2 (by simpa using e) (by simpa[Wb]using e2)
 |[],_::_,_,_,_,_,h,_,_=>by simp[Kf]at h
 |_::_,[],_,_,_,_,h,_,_=>by simp[Kf]at h
def Xh(X:Cx)(N:List Str)(scope:Scope)(fp:List Addr)(H:Hp)(s:Shared):Cx :=
 { X with N:=N,s₀:=s,H₀:=H,env:=compEnvC scope (Yl X.env scope.names []) s.heap.objs.size X.env,outer:=X.stack,stack:=X.stack,ex:=fp,fn:=fun _=>false,pn:=[],xe:=fun _ _=>False }
section
variable{X:Cx}
theorem Qap{l:List (Str×NameKind)}(h:(l.all fun p=>p.2 != .cell)=true):∀y∈l,y.2≠.cell:=fun y hy=>by
 have:=kZf.mp h y hy
 simpa using this
theorem Qio{pins:List (Addr×Obj)}{σ:St}{H:Hp}{s:Shared}{N:List Str}{scope:Scope}{fp:List Addr}(I:Inv X pins σ H s)(hf:∀b∈fp,FpOk X pins H b)(hlt:∀b∈fp,b<s.heap.objs.size)(hk:scope.kind=.function)
  (hcell:(scope.names.all fun p=>p.2 != .cell)=true) (hfree:freeOk X.env.scope scope.names=true):(Xh X N scope fp H s).Ok:=by
 have has:∀n,(n,NameKind.free)∈scope.names->∃c,X.env.cells.lookup n=some c:=fun n hn=>I.ok.has n (Yy hfree n hn)
 have sub:∀x c,(Yl X.env scope.names []).lookup x=some c->X.env.cells.lookup x=some c:=Jw _ _ has fun x c e=>by simp at e
 have fs:∀b∈fp,b∉frs X.stack:=fun b hb z=>by
  obtain⟨_,f1,f2,_⟩:=hf b hb
  rcases yY.mp (I.stkSub b z)with e | e
  .exact f1 e
  .exact f2 e
 refine⟨I.ok.mod,hk,I.ok.glob,I.ok.blt,jW _,fun x y c h1 h2=>I.ok.inj x y c (sub x c h1) (sub y c h2),fun x hx=>?_,(fun x c h=>nomatch h),I.ok.hd,I.ok.frames,.inl rfl,fun b hb=>⟨yZ (hlt b hb),fun x c e=>(hf b hb).2.2.2.2.1 x c (sub x c e)⟩,
  I.bs,jQd I.ok.bsz I.sz,fun b o e hb=>?_,fs,I.stack,I.stkFree⟩
 ·have hx':(scope.names.map fun (n,k)=>if (k == NameKind.free && X.env.scope.kind == .function && X.env.kindOf n == some .cell) then (n,NameKind.cell) else (n,k)).lookup x=some .cell \/
    (scope.names.map fun(n,k)=>if (k == NameKind.free&&X.env.scope.kind == .function&&X.env.kindOf n == some .cell)then(n,NameKind.cell)else(n,k)).lookup x=some .free:=hx
  have fr:(x,NameKind.free)∈scope.names:=by
   rcases hx' with e | e
   .obtain⟨k0,e0,z | z⟩:=Xt e
    .subst z
     exact absurd rfl (Qap hcell _ (lookup_mem e0))
    .obtain⟨_,z⟩:=z
     subst z
     exact lookup_mem e0
   .obtain⟨k0,e0,z | z⟩:=Xt e
    .subst z
     exact lookup_mem e0
    .exact nomatch z.1
  exact yQd.mp (Jx _ _ x (.inr fr))
 .obtain⟨_,_,_,f3,_⟩:=hf b hb
  rcases f3 with z | z
  .exact I.ok.noex b o e z
  .exact absurd (xK (kK (I.ok.bs b o e).1) z) (jJe _)
theorem Qkq{pins:List (Addr×Obj)}{σ:St}{H:Hp}{s:Shared}{N:List Str}{scope:Scope}{fp:List Addr}{cp:List (Option Nat)}{h':Heap}{m:Str->Option Value}{t':Nat}(I:Inv X pins σ H s)(hf:∀b∈fp,FpOk X pins H b)(hlt:∀b∈fp,b<s.heap.objs.size)(hk:scope.kind=.function)
  (hcell:(scope.names.all fun p=>p.2 != .cell)=true) (hfree:freeOk X.env.scope scope.names=true) (hcap:Kf X scope N cp=true)
  (hns:h'.Ns s.heap.objs.size m) (hx:∀b o,s.heap.get? b=some o->h'.get? b=some o):Inv (Xh X N scope fp H s) [] (Wb cp σ) H { s with heap:=h',toks:=t' }:=by
 have has:∀n,(n,NameKind.free)∈scope.names->∃c,X.env.cells.lookup n=some c:=fun n hn=>I.ok.has n (Yy hfree n hn)
 have sub:∀x c,(Yl X.env scope.names []).lookup x=some c->X.env.cells.lookup x=some c:=Jw _ _ has fun x c e=>by simp at e
 refine⟨Qio I hf hlt hk hcell hfree,rfl,I.bare,⟨fun b o e n _ _=>hx b o e,fun b o e n _ _=>⟨o.slots,hx b o e⟩,fun b o e n _=>n,fun b o e _=>⟨o,hx b o e⟩,fun b xs e=>e,fun b o xs e=>e,fun b ps e=>⟨#[],by rw[yJc];exact e⟩⟩,⟨m,hns,fun i x v e1 e2 e3=>?_⟩,fun x c e=>?_,I.hok.fresh (jW _),fun x c e=>I.freeC x c (sub x c e),(fun p hp=>nomatch hp),I.hok.kept hx,?_⟩
 .obtain⟨j,h1,h2,h3⟩:=Qcu hcap e1 e2
  obtain⟨m',_,hl⟩:=I.loc
  have hkx:=Yy hfree x (lookup_mem h3)
  obtain⟨u,r,l⟩:=hl j x v h1 h2 (.inr hkx)
  rcases l with⟨l,_⟩ | ⟨_,c,hc,hcell'⟩
  .rcases hkx with z | z
   .exact nomatch (Option.some.inj (l.symm.trans z))
   .exact nomatch (Option.some.inj (l.symm.trans z))
  .obtain⟨c',hc'⟩:=yQd.mp (Jx (env:=X.env) scope.names [] x (.inr (lookup_mem h3)))
   have ec:=sub x c' hc'
   rw[hc]at ec
   cases ec
   refine⟨u,r,.inr ⟨?_,c,hc',?_⟩⟩
   .rcases e3 with z | z | z
    .obtain⟨k0,e0,y | y⟩:=Xt (show(scope.names.map fun(n,k)=>if (k == NameKind.free&&X.env.scope.kind == .function&&X.env.kindOf n == some .cell)then(n,NameKind.cell)else(n,k)).lookup x=some .local from z)
     .rw[h3]at e0;cases e0;cases y
     .exact nomatch y.1
    .exact .inl z
    .exact .inr z
   .obtain⟨o,ho,hd⟩:=hcell'
    exact⟨o,hx c o ho,hd⟩
 .obtain⟨v,o,ho,hd⟩:=I.cell x c (sub x c e)
  exact⟨v,o,hx c o ho,hd⟩
 .show(Wb cp σ).length=N.length
  unfold Wb
  rw[jX]
  exact Qct hcap
theorem Qey{pins:List (Addr×Obj)}{σ σ':St}{H H':Hp}{s s':Shared}{N:List Str}{scope:Scope}{fp:List Addr}{pins':List (Addr×Obj)}(I:Inv X pins σ H s)(hf:∀b∈fp,FpOk X pins H b)
  (J:Inv (Xh X N scope fp H s) pins' σ' H' s'):Inv X pins σ H' s' :=
 I.call' (ch:=fp) J.os J.base J.hok J.bare fun b hb=>⟨(hf b hb).2.2.2.1,(hf b hb).2.1,(hf b hb).2.2.2.2.1,(hf b hb).2.2.2.2.2⟩
def PF(X:Cx)(ifs:List Expr)(t:TT):Prop :=
 ∀(pins:List (Addr×Obj)) (s:Shared) (σ:St) (H:Hp) (Q:Bool->Hp->Prop),Inv X pins σ H s->t σ H Q ->
  wpAny (model X.prog X.w) X.A (forIn ifs true fun c r=>if r=true then do let ok ← isTrue c X.env (eval c X.env);pure (ForInStep.yield ok)else pure (ForInStep.yield r)) (TP X pins σ Q) X.xe s
def tYes:TT:=fun _ H Q=>Q true H
theorem Ye:PF X [] tYes:=fun _ _ _ H _ I h=>wpAny_tests_nil ⟨H,I,h⟩
theorem Qkr{c:Expr}{t:TT}(hc:PT X c t):PF X [c] t:=fun pins s σ H Q I h=>wpAny_tests_one (hc pins s σ H Q I h)
def LcW(J:It)(D:Addr)(τ0:St)(H:Hp)(g:TG)(tt:TT)(te:TE)(Q:Addr->Hp->Prop):Prop:=∃W:Nat->Nat->St->List V->Hp->Prop,(∃m,W 0 m τ0 [] (upd H D (.lst [])))/\∀i m τ ys H,W i m τ ys H ->
 H D=some (.lst ys)/\((J.stop i H/\Q D H)\/(J.go i H/\ys.length<sizeLine/\∃(N1:St->V->Hp->Prop) (N2:St->Hp->Prop),(∀τ v H,N1 τ v H->∃m',m'<m/\W (i+1) m' τ (ys++[v]) (upd H D (.lst (ys++[v]))))/\(∀τ H,N2 τ H->∃m',m'<m/\W (i+1) m' τ ys H) /\
  ∀x H',J.yld i H x H'->g x τ H' fun σ2 H2=>tt σ2 H2 fun ok H3=>if ok=true then te σ2 H3 fun v H4=>H4 D=some (.lst ys)/\N1 σ2 v H4 else N2 σ2 H3))
def tLC(cp:List (Option Nat))(wi:TI)(g:TG)(tt:TT)(te:TE)(σ:St)(H:Hp)(Q:Addr->Hp->Prop):Prop:=wi σ H fun J H1=>∀D,H1 D=none->LcW J D (Wb cp σ) H1 g tt te Q
theorem Qgq{elt iter target:Expr}{ifs:List Expr}{scope:Scope}{pos:Pos}{N:List Str}{cp:List (Option Nat)}{g:TG}{tt:TT}{te:TE}{pins:List (Addr×Obj)}{σ:St}{H:Hp}{s:Shared}{E:Value->Shared->Prop}{Q:Addr->Hp->Prop}
  {it:Addr} {fp:List Addr} {tn:Nat->Heap->Prop} {J:It} {RR:Value->Addr->Result->Shared->Prop} (hc:X.calm=true) (hk:scope.kind=.function) (hcell:(scope.names.all fun p=>p.2 != .cell)=true) (hfree:freeOk X.env.scope scope.names=true) (hcap:Kf X scope N cp=true)
  (hg:∀fp H s,PG (Xh X N scope fp H s) target g) (ht:∀fp H s,PF (Xh X N scope fp H s) ifs tt) (he:∀fp H s,PE (Xh X N scope fp H s) elt te)
  (I:Inv X pins σ H s) (T:Turn X.prog X.w X.K target J fp it tn) (st:tn 0 s.heap) (hf:∀b∈fp,FpOk X pins H b)
  (h:∀D,H D=none->LcW J D (Wb cp σ) H g tt te Q)
  (hRR:∀D C s' H' m,Inv X pins σ H' s'->FpOk X pins H' C->s'.heap.Ns C m->Q D H'->RR (.ref D) C (.ok .next) s') :
  wpAny (model X.prog X.w) X.A (newList []) (fun acc s3=>wpAny (model X.prog X.w) X.A (newFunctionEnv scope X.env.globals (Yl X.env scope.names []) [] X.env.qual none .none (some X.env)) (fun cenv s4=>
   codeAny (model X.prog X.w) X.A (.compStart (.ListComp elt [⟨target,iter,ifs,0⟩] scope pos) 0 (.ref it) acc { cenv with scope:=relabel scope X.env }) (RR acc cenv.locals) s4) E s3) E s:=by
 have hlt:∀b∈fp,b<s.heap.objs.size:=fun b hb=>by
  obtain⟨o,e,_⟩:=T.obj _ _ st b hb
  exact kK e
 refine wpAny_newObj_type (wpAny_newFunctionEnv (Qap hcell) (by intro y hy;simp at hy) (fun h1 hns1 hsb1=>?_) hk)
 dsimp only at hns1 hsb1⊢
 have hD:H s.heap.objs.size=none:=I.hok.fresh (jW _)
 have I3:Inv X pins σ (upd H s.heap.objs.size (.lst [])) { s with heap:=s.heap.push { cls:=.type "list",dict:=none,data:=.seq ([]:List Value).toArray } } :=
  I.laid (t':=s.toks) (fun b u e=>jZ _ e) (jW _) ⟨wY _,[],0,.nil,kX _ rfl⟩
 have hf3:∀b∈fp,FpOk X pins (upd H s.heap.objs.size (.lst [])) b:=fun b hb=>⟨by rw[Qk (yZ (hlt b hb))];exact(hf b hb).1,(hf b hb).2⟩
 have hlt3:∀b∈fp,b<(s.heap.push { cls:=.type "list",dict:=none,data:=.seq ([]:List Value).toArray }).objs.size:=fun b hb=>by rw[jYf];exact jJa (hlt b hb)
 generalize hH2:s.heap.push { cls:=.type "list",dict:=none,data:=.seq ([]:List Value).toArray }=H2 at hns1 hsb1 I3 hlt3⊢
 generalize hs3:({ s with heap:=H2 }:Shared)=s3 at I3
 have hs3h:s3.heap=H2:=by rw[<-hs3]
 have ext1:∀b o,s3.heap.get? b=some o->h1.get? b=some o:=fun b o e=>by
  rw[hs3h]at e
  exact hsb1.extBut b o (yZ (kK e)) (jZ _ e)
 have J0:Inv (Xh X N scope fp (upd H s.heap.objs.size (.lst [])) s3) [] (Wb cp σ) (upd H s.heap.objs.size (.lst [])) { s3 with heap:=h1,toks:=s.toks+([]:List (Str×Value)).length } :=
  Qkq I3 hf3 (by rw[hs3h];exact hlt3) hk hcell hfree hcap (by rw[hs3h];exact hns1) ext1
 have st1:tn 0 h1:=T.keep _ _ _ st fun b hb o e=>ext1 b o (by rw[hs3h,<-hH2];exact jZ _ e)
 obtain⟨W,⟨m0,w0⟩,turn⟩:=h s.heap.objs.size hD
 have stat:∀{H':Hp},(∀b∈fp,H' b=none)->∀b∈fp,FpOk (Xh X N scope fp (upd H s.heap.objs.size (.lst [])) s3) [] H' b:=fun{H'} hn b hb=>
  ⟨hn b hb,(J0.ok.exf b hb).1,J0.ok.exfs b hb,.inl hb,(J0.ok.exf b hb).2,fun p hp=>nomatch hp⟩
 have loop:codeAny (model X.prog X.w) X.A (.compLoop (.ListComp elt [⟨target,iter,ifs,0⟩] scope pos) 0 (.ref it) (.ref s.heap.objs.size) (compEnvC scope (Yl X.env scope.names []) H2.objs.size X.env))
   (RR (.ref s.heap.objs.size) H2.objs.size) { s3 with heap:=h1,toks:=s.toks+([]:List (Str×Value)).length }:=by
  have eEnv:compEnvC scope (Yl X.env scope.names []) H2.objs.size X.env=(Xh X N scope fp (upd H s.heap.objs.size (.lst [])) s3).env:=by
   rw[<-hs3h];rfl
  rw[eEnv]
  refine Qcs (fun n s'=>∃i τ ys H',Inv (Xh X N scope fp (upd H s.heap.objs.size (.lst [])) s3) [] τ H' s'/\tn i s'.heap/\(∀b∈fp,H' b=none)/\W i n τ ys H') ?_ m0 ⟨0,Wb cp σ,[],_,J0,st1,fun b hb=>(hf3 b hb).1,w0⟩
  rintro n s4 ⟨i,τ,ys,H4,I4,st4,fr4,w4⟩
  obtain⟨hD4,hh⟩:=turn i n τ ys H4 w4
  rcases hh with⟨stop,qn⟩ | ⟨go,hlen,N1,N2,hN1,hN2,step⟩
  .refine thn (T.done (Xh X N scope fp (upd H s.heap.objs.size (.lst [])) s3) rfl rfl rfl hc i [] s4 τ H4 _ I4 (stat fr4) st4 stop) fun r s5 hqP=>?_
   obtain⟨hr,I5⟩:=hqP
   subst hr
   obtain⟨m,hm,_⟩:=I5.loc
   have e5:H2.objs.size=(Xh X N scope fp (upd H s.heap.objs.size (.lst [])) s3).env.locals:=by rw[<-eEnv];rfl
   refine hRR _ _ s5 H4 m (Qey I3 hf3 I5) ?_ (by rw[e5];exact hm) qn
   exact I3.fpOk (by rw[hs3h];exact jW _) (by rw[e5];exact I5.free)
  .refine thn (T.item (Xh X N scope fp (upd H s.heap.objs.size (.lst [])) s3) rfl rfl rfl hc i [] s4 τ H4 _ I4 (stat fr4) st4 go) fun r s5 hqP=>?_
   obtain⟨u,hr,h5⟩:=hqP
   subst hr
   refine thn h5 fun _ s6 hqP=>?_
   obtain⟨x,H6,I6,r6,y6,st6,fr6⟩:=hqP
   have I6':=I6.pinned (stat fr6) (T.obj _ _ st6)
   refine thn (hg fp _ _ _ s6 τ H6 x u _ I6' r6 (step x H6 y6)) fun _ s7 hqP=>?_
   obtain⟨σ7,H7,I7,q7⟩:=hqP
   refine thn (ht fp _ _ _ s7 σ7 H7 _ I7 q7) fun ok s8 hqP=>?_
   obtain⟨H8,I8,q8⟩:=hqP
   have back:∀{σ':St} {H':Hp} {s':Shared},Inv (Xh X N scope fp (upd H s.heap.objs.size (.lst [])) s3) ([]++Qci fp s6.heap) σ' H' s'->Inv (Xh X N scope fp (upd H s.heap.objs.size (.lst [])) s3) [] σ' H' s'/\tn (i+1) s'.heap/\∀b∈fp,H' b=none:=fun{σ' H' s'} I'=>by
    refine⟨I'.unpinned,T.keep _ _ _ st6 fun b hb o e=>(I'.pin (b,o) (wJ _ (wJ _ (Jj hb e)))).1,fun b hb=>?_⟩
    obtain⟨o,e,d⟩:=T.obj _ _ st6 b hb
    exact(I'.pin (b,o) (wJ _ (wJ _ (Jj hb e)))).2.1
   cases ok with
   |false=>
    rw[if_neg xQ]at q8⊢
    obtain⟨m',hm,w8⟩:=hN2 _ _ q8
    obtain⟨b1,b2,b3⟩:=back I8
    exact⟨m',hm,i+1,σ7,ys,H8,b1,b2,b3,w8⟩
   |true=>
    rw[if_pos rfl]at q8⊢
    refine thn (he fp _ _ _ s8 σ7 H8 _ I8 q8) fun y s9 hqP=>?_
    obtain⟨v,H9,I9,r9,hD9,n9⟩:=hqP
    obtain⟨m',hm,w9⟩:=hN1 _ _ _ n9
    refine thn (Xo _ s9 σ7 H9 (.ref s.heap.objs.size) [v] (.ref s.heap.objs.size) [y] (fun _ H'=>H'=upd H9 s.heap.objs.size (.lst (ys++[v]))) I9 rfl (.cons r9 .nil) ⟨_,ys,v,rfl,rfl,hD9,hlen,rfl⟩) fun _ s10 hqP=>?_
    obtain⟨_,H10,I10,_,e10⟩:=hqP
    subst e10
    obtain⟨b1,b2,b3⟩:=back I10
    exact⟨m',hm,i+1,σ7,_,_,b1,b2,b3,w9⟩
 have e3:({ s with heap:=h1,toks:=s.toks+([]:List (Str×Value)).length }:Shared)={ s3 with heap:=h1,toks:=s.toks+([]:List (Str×Value)).length }:=by rw[<-hs3]
 rw[e3]
 exact codeAny_compStart_list loop (T.self _ 0 _ _ _ st1 loop)
theorem Zy{elt iter target:Expr}{ifs:List Expr}{scope:Scope}{pos:Pos}(N:List Str)(cp:List (Option Nat)){wi:TI}{g:TG}{tt:TT}{te:TE}(hc:X.calm=true)(hi:PI X target iter wi)
  (hg:∀fp H s,PG (Xh X N scope fp H s) target g) (ht:∀fp H s,PF (Xh X N scope fp H s) ifs tt) (he:∀fp H s,PE (Xh X N scope fp H s) elt te)
  (hk:autoParam (scope.kind=.function) L2.aRfl._auto_1) (hcell:autoParam ((scope.names.all fun p=>p.2 != .cell)=true) L2.aRfl._auto_1) (hfree:autoParam (freeOk X.env.scope scope.names=true) L2.aRfl._auto_1) (hcap:autoParam (Kf X scope N cp=true) L2.aRfl._auto_1)
  (hnames:autoParam ((scope.names.all fun p=>p.2 != .local||scope.names.lookup p.1 == some .local)=true) L2.aRfl._auto_1) (hs:autoParam (∀x,foldedSetIterable iter X.env x=pure x) L2.aIrf._auto_1) :
  PE X (.ListComp elt [⟨target,iter,ifs,0⟩] scope pos) (fun σ H Q=>tLC cp wi g tt te σ H fun D H'=>Q (.ref D) H'):=by
 intro pins s σ H Q I h
 rw[eval_ListComp]
 have has:∀n,(n,NameKind.free)∈scope.names->∃c,X.env.cells.lookup n=some c:=fun n hn=>I.ok.has n (Yy hfree n hn)
 refine wpAny_comprehension_free (use:=none) rfl hs (Zw has) hk (fun x hx hl=>?_) (thn (hi pins s σ H _ I h) fun xv s1 h1=>thn h1 fun itv s2 h2=>?_)
 .have:=kZf.mp hnames x hx
  simp only[zQd,bne_iff_ne,beq_iff_eq]at this
  exact this.resolve_left fun z=>z hl
 .obtain⟨it,fp,tn,J,H2,e,I2,T,st2,f2,hW⟩:=h2
  subst e
  refine Qgq (N:=N) (cp:=cp) hc hk hcell hfree hcap hg ht he I2 T st2 f2 hW fun D C s' H' m I' fC hm q=>⟨m,hm,fun h' hsb=>?_⟩
  exact⟨.ref D,H',I'.turned (t':=s'.toks) (fun b o hb e=>hsb.extBut b o hb e) fC.1 fC.2.1 fC.2.2.2.1 fC.2.2.2.2.1 fC.2.2.2.2.2,rfl,q⟩
theorem Qbd{i:Nat}{x:Str}{px:Pos}{elt iter target:Expr}{ifs:List Expr}{scope:Scope}{pos spos:Pos}(N:List Str)(cp:List (Option Nat)){wi:TI}{g:TG}{tt:TT}{te:TE}(hc:X.calm=true)(hN:X.N.Nodup)(hi':X.N[i]?=some x)(hx:Loc X.env.scope x)(hi:PI X target iter wi)
  (hg:∀fp H s,PG (Xh X N scope fp H s) target g) (ht:∀fp H s,PF (Xh X N scope fp H s) ifs tt) (he:∀fp H s,PE (Xh X N scope fp H s) elt te)
  (hsw:autoParam (swapsWith (.ListComp elt [⟨target,iter,ifs,0⟩] scope pos) (some (.Name x px)) spos.line X.env=pure true) L2.aRfl._auto_1)
  (hk:autoParam (scope.kind=.function) L2.aRfl._auto_1) (hcell:autoParam ((scope.names.all fun p=>p.2 != .cell)=true) L2.aRfl._auto_1) (hfree:autoParam (freeOk X.env.scope scope.names=true) L2.aRfl._auto_1) (hcap:autoParam (Kf X scope N cp=true) L2.aRfl._auto_1)
  (hnames:autoParam ((scope.names.all fun p=>p.2 != .local||scope.names.lookup p.1 == some .local)=true) L2.aRfl._auto_1) (hs:autoParam (∀x,foldedSetIterable iter X.env x=pure x) L2.aIrf._auto_1)
  (hf:autoParam (X.fn x=true\/X.env.scope.names.lookup x=some .local) L2.aFst._auto_1) :
  PS X (.Assign [.Name x px] (.ListComp elt [⟨target,iter,ifs,0⟩] scope pos) spos) (fun D σ H=>tLC cp wi g tt te σ H fun a H'=>D.nx (σ.set i (some (.ref a))) H'):=by
 intro pins s σ H D I h
 have has:∀n,(n,NameKind.free)∈scope.names->∃c,X.env.cells.lookup n=some c:=fun n hn=>I.ok.has n (Yy hfree n hn)
 rw[exec_Assign_Name_used _ _ _ _ hsw]
 refine jQ (wpAny_standAt (jQ ?_))
 show wpAny _ _ (do let _ ← comprehension (.ListComp elt [⟨target,iter,ifs,0⟩] scope pos) scope X.env _ (newList []) false (eval iter X.env) (some (assign (.Name x px) X.env))) _ _ s
 refine jQ (wpAny_mono (wpAny_comprehension_free (use:=some (assign (.Name x px) X.env)) (Q:=fun _ s'=>SP X pins D .next s') rfl hs (Zw has) hk (fun x hx hl=>?_)
  (thn (hi pins s σ H _ I h) fun xv s1 h1=>thn h1 fun itv s2 h2=>?_)) (fun _ s' hq=>jJ (jJ hq)) fun _ _ e=>e)
 .have:=kZf.mp hnames x hx
  simp only[zQd,bne_iff_ne,beq_iff_eq]at this
  exact this.resolve_left fun z=>z hl
 .obtain⟨it,fp,tn,J,H2,e,I2,T,st2,f2,hW⟩:=h2
  subst e
  refine Qgq (N:=N) (cp:=cp) hc hk hcell hfree hcap hg ht he I2 T st2 f2 hW fun D' C s' H' m I' fC hm q=>?_
  show wpAny _ _ (assign (.Name x px) X.env (.ref D')) _ _ _
  refine wpAny_assign_Name (Qcf I' hN hi' hx (v:=.ref D') rfl (fun s'' I'' hsb=>?_) hf)
  obtain⟨a,hsb,ha⟩:=hsb
  have hCa:C≠a:=by
   rcases ha with e | e
   .rw[e];exact fC.2.1
   .exact fun z=>fC.2.2.2.2.1 x a e z.symm
  refine⟨m,hm.sameBut hsb hCa,fun h' hsb'=>?_⟩
  exact⟨_,H',I''.turned (t':=s''.toks) (fun b o hb e=>hsb'.extBut b o hb e) fC.1 fC.2.1 fC.2.2.2.1 fC.2.2.2.2.1 fC.2.2.2.2.2,q⟩
end
structure Drw(P:Program)(w:World)(it l:Addr)(st:Nat->Heap->Prop)(src:List Value->Heap->Prop):Prop where
 obj:∀i h,st i h->∃o,h.get? it=some o/\∀v,o.data≠.cell v
 keep:∀i h h',st i h->(∀o,h.get? it=some o->h'.get? it=some o)->st i h'
 srck:∀xs h h',src xs h->(∀o,h.get? l=some o->h'.get? l=some o)->src xs h'
 item:∀(A:Around) (E:Value->Shared->Prop) (s:Shared) (i:Nat) (xs:List Value) (x:Value) (Q:Value->Shared->Prop),st i s.heap->src xs s.heap->xs[i]?=some x ->
  (∀h',st (i+1) h'->Heap.SameBut it s.heap h'->Q x { s with heap:=h' })->wpAny (model P w) A (Builtin.SmallTypes.nextOf (.ref it)) Q E s
 done:∀(A:Around) (E:Value->Shared->Prop) (s:Shared) (i:Nat) (xs:List Value) (Q:Value->Shared->Prop),A.handled=none->st i s.heap->src xs s.heap->xs[i]?=none ->
  (∀h' e,Heap.ExtBut it s.heap h'->(∃o,h'.get? e=some o/\o.cls=.type "StopIteration")->E (.ref e) { s with heap:=h' })->wpAny (model P w) A (Builtin.SmallTypes.nextOf (.ref it)) Q E s
theorem Qov{P:Program}{w:World}(it l:Addr):Drw P w it l (fun i h=>h.IsListIter it l i) (fun xs h=>h.IsList l xs.toArray) where
 obj:=fun i h st=>by
  obtain⟨o,e,c,d⟩:=st
  exact⟨o,e,fun v z=>by rw[d]at z;cases z⟩
 keep:=fun i h h' st k=>st.at k
 srck:=fun xs h h' sr k=>sr.at k
 item:=fun A E s i xs x Q st sr hx hQ=>wpAny_nextOf_list_item st sr (by simpa using hx) hQ
 done:=fun A E s i xs Q hh st sr hx hE=>wpAny_nextOf_list_end hh st sr (by simpa using hx) hE
section
variable{P:Program}{w:World}{A:Around}{E:Value->Shared->Prop}{s:Shared}
theorem Wc{it t:Addr}{i:Nat}{xs:Array Value}{x:Value}{Q:Value->Shared->Prop}(hI:s.heap.IsTupleIter it t i)(hT:s.heap.IsTuple t xs)(hx:xs[i]?=some x)
  (hQ:∀h',h'.IsTupleIter it t (i+1)->Heap.SameBut it s.heap h'->Q x { s with heap:=h' }):wpAny (model P w) A (Builtin.SmallTypes.nextOf (.ref it)) Q E s:=by
 obtain⟨oI,gI,cI,dI⟩:=id hI
 obtain⟨oT,gT,_,nT,dT⟩:=hT
 unfold Builtin.SmallTypes.nextOf
 refine jQ (wpAny_callSpecial?_slot (name:=Str.ofString "__next__") hI.typeIs F.slot_tuple_iterator_next (wpAny_call_entry F.slot_tuple_iterator_next hI.typeIs F.entry_tuple_iterator_next ?_ (F.args_tuple_iterator_next_1 _)))
 show wpAny _ _ (field (.ref it) 0 >>= _) _ _ s
 refine jQ (wpAny_field gI dI (x:=.ref t) rfl ?_)
 show wpAny _ _ (if (Value.ref t == Value.none)=true then _ else _) _ _ s
 rw[if_neg (show ¬((Value.ref t == Value.none)=true)from xQ)]
 show wpAny _ _ (field (.ref it) 1 >>= _) _ _ s
 refine jQ (wpAny_field gI dI (x:=.int i 0) rfl ?_)
 show wpAny _ _ (seqItems? (.ref t) >>= _) _ _ s
 refine jQ (wpAny_seqItems gT dT ?_)
 simp only[jQe,hx]
 refine jQ (wpAny_setField gI dI (by simp) (jJ ⟨x,rfl,jJ (hQ _ ?_ (Heap.SameBut.update ..))⟩))
 refine⟨_,jJc _ gI (Obj.isFreed_of_fields (Obj.data_mapFields dI _)),(Obj.cls_mapFields ..).trans cI,?_⟩
 rw[Obj.data_mapFields dI];simp[rawInt]
theorem Qah{it t:Addr}{i:Nat}{xs:Array Value}{Q:Value->Shared->Prop}(hh:A.handled=none)(hI:s.heap.IsTupleIter it t i)(hT:s.heap.IsTuple t xs)(hx:xs[i]?=none)
  (hE:∀h' e,Heap.ExtBut it s.heap h'->(∃o,h'.get? e=some o/\o.cls=.type "StopIteration")->E (.ref e) { s with heap:=h' }):wpAny (model P w) A (Builtin.SmallTypes.nextOf (.ref it)) Q E s:=by
 obtain⟨oI,gI,cI,dI⟩:=id hI
 obtain⟨oT,gT,_,nT,dT⟩:=hT
 unfold Builtin.SmallTypes.nextOf
 refine jQ (wpAny_callSpecial?_slot (name:=Str.ofString "__next__") hI.typeIs F.slot_tuple_iterator_next (wpAny_call_entry F.slot_tuple_iterator_next hI.typeIs F.entry_tuple_iterator_next ?_ (F.args_tuple_iterator_next_1 _)))
 show wpAny _ _ (field (.ref it) 0 >>= _) _ _ s
 refine jQ (wpAny_field gI dI (x:=.ref t) rfl ?_)
 show wpAny _ _ (if (Value.ref t == Value.none)=true then _ else _) _ _ s
 rw[if_neg (show ¬((Value.ref t == Value.none)=true)from xQ)]
 show wpAny _ _ (field (.ref it) 1 >>= _) _ _ s
 refine jQ (wpAny_field gI dI (x:=.int i 0) rfl ?_)
 show wpAny _ _ (seqItems? (.ref t) >>= _) _ _ s
 refine jQ (wpAny_seqItems gT dT ?_)
 simp only[jQe,hx]
 refine jQ (wpAny_rule (jQ (wpAny_setField gI dI (by simp) ?_)))
 show wpAny _ _ (newExc (.type "StopIteration") [] >>= _) _ _ _
 refine jQ ?_
 simp only[newExc,newTuple]
 refine jQ (wpAny_newObj_type ?_ (by size_fits))
 refine jQ (m:=firstArgMember _ _) (wpAny_of_eq (a:=Value.none) (by first | rfl | (simp only[firstArgMember];rfl)) ?_)
 refine wpAny_newObj_type ?_ (by size_fits)
 simp only[raiseNew]
 refine jQ (wpAny_handled ?_)
 first | rw[show A.in1.handled=none from hh] | rw[hh]
 exact jQ (jJ (wpAny_throw (hE _ _ (((Heap.SameBut.update ..).extBut.push _).push _) ⟨_,kX _ rfl,rfl⟩)))
end
theorem Qsy{P:Program}{w:World}(it l:Addr):Drw P w it l (fun i h=>h.IsTupleIter it l i) (fun xs h=>h.IsTuple l xs.toArray) where
 obj:=fun i h st=>by
  obtain⟨o,e,c,d⟩:=st
  exact⟨o,e,fun v z=>by rw[d]at z;cases z⟩
 keep:=fun i h h' st k=>st.at k
 srck:=fun xs h h' sr k=>sr.at k
 item:=fun A E s i xs x Q st sr hx hQ=>Wc st sr (by simpa using hx) hQ
 done:=fun A E s i xs Q hh st sr hx hE=>Qah hh st sr (by simpa using hx) hE
section
variable{P:Program}{w:World}{A:Around}{E:Value->Shared->Prop}{s:Shared}{z u o i1 i2 l1 l2:Addr}{st1 st2:Nat->Heap->Prop}{src1 src2:List Value->Heap->Prop}{k1 k2:Nat}{xs ys:List Value}{a b:Value}
theorem Qcv{x y:Value}{Q:Option Value->Shared->Prop}(d1:Drw P w i1 l1 st1 src1)(d2:Drw P w i2 l2 st2 src2)(D:ZipApart z u o i1 i2 l1 l2)(hZ:IsZip s.heap z u o .none)(hU:IsPair s.heap u (.ref i1) (.ref i2))(hO:IsPair s.heap o a b)
  (h1:st1 k1 s.heap) (h2:st2 k2 s.heap) (hl1:src1 xs s.heap) (hl2:src2 ys s.heap) (hx:xs[k1]?=some x) (hy:ys[k2]?=some y)
  (hQ:∀h',IsZip h' z u o (rawInt s.heap.objs.size)->IsPair h' o x y->st1 (k1+1) h'->st2 (k2+1) h'->IsPair h' s.heap.objs.size x y->h'.objs.size=s.heap.objs.size+1 ->
   (∀c q,c≠z->c≠o->c≠i1->c≠i2->s.heap.get? c=some q->h'.get? c=some q)->Q (some (.ref s.heap.objs.size)) { s with heap:=h' }):wpAny (model P w) A (pyNext (.ref z)) Q E s:=by
 have hTy:s.TypeIs (.ref z) "zip":=⟨_,hZ,rfl⟩
 unfold pyNext
 refine jQ (wpAny_attempt (wpAny_callSpecial?_slot (name:=Str.ofString "__next__") hTy F.slot_zip_next (wpAny_call_entry F.slot_zip_next hTy F.entry_zip_next ?_ (F.args_zip_next_1 _))))
 show wpAny _ _ (field (.ref z) 2 >>= _) _ _ _
 refine jQ (wpAny_field hZ rfl (x:=.bool false) rfl ?_)
 show wpAny _ _ (field (.ref z) 3 >>= _) _ _ _
 refine jQ (wpAny_field hZ rfl (x:=.ref u) rfl (jQ (wpAny_seqItems hU rfl ?_)))
 show wpAny _ _ (Builtin.SmallTypes.ownedTupleIsFree (.ref z) >>= _) _ _ _
 refine jQ ?_
 unfold Builtin.SmallTypes.ownedTupleIsFree
 refine jQ (wpAny_field hZ rfl (x:=.none) rfl (jJ ?_))
 simp only[if_true]
 refine jQ (wpAny_rule (jQ (wpAny_field hZ rfl (x:=.ref o) rfl (jQ (wpAny_setField_rec hZ (by simp) fun g1 hZ1 e1=>?_)))))
 replace hZ1:IsZip g1 z u o .ellipsis:=hZ1
 refine jQ ?_
 simp only[List.zipIdx_cons,List.zipIdx_nil,List.forIn_cons,List.forIn_nil]
 refine jQ (jQ (wpAny_onRaise ?_))
 show wpAny _ _ (Builtin.SmallTypes.nextOf (.ref i1) >>= _) _ _ _
 refine jQ (d1.item _ _ { s with heap:=g1 } k1 xs x _ (d1.keep _ _ _ h1 fun q e=>e1.extBut _ _ D.i1z e) (d1.srck _ _ _ hl1 fun q e=>e1.extBut _ _ D.l1z e) hx fun g2 h1' e2=>jJ ?_)
 have hO2:IsPair g2 o a b:=e2.extBut _ _ D.TOi1 (e1.extBut _ _ D.TOz hO)
 refine jQ (wpAny_seqItems hO2 rfl (jQ (wpAny_updateSeq_pair hO2 fun g3 hO3 e3=>?_)))
 replace hO3:IsPair g3 o x b:=hO3
 refine jQ (wpAny_letGo (jJ ?_))
 refine jQ (jQ (wpAny_onRaise ?_))
 show wpAny _ _ (Builtin.SmallTypes.nextOf (.ref i2) >>= _) _ _ _
 refine jQ (d2.item _ _ { s with heap:=g3 } k2 ys y _ (d2.keep _ _ _ h2 fun q e=>e3.extBut _ _ D.TOi2.symm (e2.extBut _ _ D.i12.symm (e1.extBut _ _ D.i2z e)))
  (d2.srck _ _ _ hl2 fun q e=>e3.extBut _ _ D.l2TO (e2.extBut _ _ D.l2i1 (e1.extBut _ _ D.l2z e))) hy fun g4 h2' e4=>jJ ?_)
 have hO4:IsPair g4 o x b:=e4.extBut _ _ D.TOi2 hO3
 refine jQ (wpAny_seqItems hO4 rfl (jQ (wpAny_updateSeq_pair hO4 fun g5 hO5 e5=>?_)))
 replace hO5:IsPair g5 o x y:=hO5
 refine jQ (wpAny_letGo (jJ (jJ ?_)))
 refine jQ (wpAny_seqItems hO5 rfl (jQ (wpAny_newTuple ?_)))
 have hsz:g5.objs.size=s.heap.objs.size:=by rw[e5.1,e4.1,e3.1,e2.1,e1.1]
 have hZ5:IsZip g5 z u o .ellipsis:=e5.extBut _ _ D.TOz.symm (e4.extBut _ _ D.i2z.symm (e3.extBut _ _ D.TOz.symm (e2.extBut _ _ D.i1z.symm hZ1)))
 have hk5:∀c q,c≠z->c≠o->c≠i1->c≠i2->s.heap.get? c=some q->g5.get? c=some q:=fun c q c1 c2 c3 c4 e=>
  e5.extBut _ _ c2 (e4.extBut _ _ c4 (e3.extBut _ _ c2 (e2.extBut _ _ c3 (e1.extBut _ _ c1 e))))
 have s15:st1 (k1+1) g5:=d1.keep _ _ _ h1' fun q e=>e5.extBut _ _ D.TOi1.symm (e4.extBut _ _ D.i12 (e3.extBut _ _ D.TOi1.symm e))
 have s25:st2 (k2+1) g5:=d2.keep _ _ _ h2' fun q e=>e5.extBut _ _ D.TOi2.symm e
 have zlt:z<g5.objs.size:=kK hZ5
 show wpAny _ _ (Builtin.SmallTypes.ownedTupleHandOut (.ref z) (.ref g5.objs.size) >>= _) _ _ _
 refine jQ ?_
 unfold Builtin.SmallTypes.ownedTupleHandOut
 have hZ6:IsZip (g5.push { cls:=.type "tuple",data:=.seq #[x,y] }) z u o .ellipsis:=jZ _ hZ5
 refine jQ (wpAny_setField_rec hZ6 (by simp) fun g7 hZ7 e7=>?_)
 replace hZ7:IsZip g7 z u o (rawInt g5.objs.size):=hZ7
 refine wpAny_setField_rec hZ7 (by simp) fun g8 hZ8 e8=>?_
 replace hZ8:IsZip g8 z u o (rawInt g5.objs.size):=hZ8
 have up:∀c q,c≠z->g5.get? c=some q->g8.get? c=some q:=fun c q c1 e=>e8.extBut _ _ c1 (e7.extBut _ _ c1 (jZ _ e))
 have hT8:IsPair g8 g5.objs.size x y:=e8.extBut _ _ (kJa zlt) (e7.extBut _ _ (kJa zlt) (kX _ rfl))
 have hs8:g8.objs.size=g5.objs.size+1:=by rw[e8.1,e7.1,jYf]
 rw[hsz]at hZ8 hT8 hs8
 refine jJ ⟨_,rfl,jJ ?_⟩
 show Q (some (.ref g5.objs.size)) _
 rw[hsz]
 exact hQ g8 hZ8 (up _ _ D.TOz hO5) (d1.keep _ _ _ s15 fun q e=>up _ q D.i1z e) (d2.keep _ _ _ s25 fun q e=>up _ q D.i2z e) hT8 hs8 fun c q c1 c2 c3 c4 e=>up c q c1 (hk5 c q c1 c2 c3 c4 e)
theorem Qez{Q:Option Value->Shared->Prop}(hh:A.handled=none)(d1:Drw P w i1 l1 st1 src1)(d2:Drw P w i2 l2 st2 src2)(D:ZipApart z u o i1 i2 l1 l2)(hZ:IsZip s.heap z u o .none)(hU:IsPair s.heap u (.ref i1) (.ref i2))(hO:IsPair s.heap o a b)
  (h1:st1 k1 s.heap) (h2:st2 k2 s.heap) (hl1:src1 xs s.heap) (hl2:src2 ys s.heap) (hend:xs[k1]?=none\/ys[k2]?=none)
  (hQ:∀h',(∀c q,c≠z->c≠o->c≠i1->c≠i2->s.heap.get? c=some q->h'.get? c=some q)->Q none { s with heap:=h' }):wpAny (model P w) A (pyNext (.ref z)) Q E s:=by
 have hTy:s.TypeIs (.ref z) "zip":=⟨_,hZ,rfl⟩
 unfold pyNext
 have fin:∀(h':Heap) (e:Addr),(∀c q,c≠z->c≠o->c≠i1->c≠i2->s.heap.get? c=some q->h'.get? c=some q)->(∃o,h'.get? e=some o/\o.cls=.type "StopIteration") ->
   wpAny (model P w) A (isInstance (.ref e) (.type "StopIteration") >>= fun b=>if b=true then pure none else throw (Value.ref e)) Q E { s with heap:=h' }:=fun h' e hk he=>by
  obtain⟨q,hq,hc⟩:=he
  exact jQ (wpAny_isInstance (T:="StopIteration") (b:=true) ⟨q,hq,hc⟩ isSubtype_stop (jJ (hQ _ hk)))
 refine jQ (wpAny_attempt (wpAny_callSpecial?_slot (name:=Str.ofString "__next__") hTy F.slot_zip_next (wpAny_call_entry F.slot_zip_next hTy F.entry_zip_next ?_ (F.args_zip_next_1 _))))
 show wpAny _ _ (field (.ref z) 2 >>= _) _ _ _
 refine jQ (wpAny_field hZ rfl (x:=.bool false) rfl ?_)
 show wpAny _ _ (field (.ref z) 3 >>= _) _ _ _
 refine jQ (wpAny_field hZ rfl (x:=.ref u) rfl (jQ (wpAny_seqItems hU rfl ?_)))
 show wpAny _ _ (Builtin.SmallTypes.ownedTupleIsFree (.ref z) >>= _) _ _ _
 refine jQ ?_
 unfold Builtin.SmallTypes.ownedTupleIsFree
 refine jQ (wpAny_field hZ rfl (x:=.none) rfl (jJ ?_))
 simp only[if_true]
 refine jQ (wpAny_rule (jQ (wpAny_field hZ rfl (x:=.ref o) rfl (jQ (wpAny_setField_rec hZ (by simp) fun g1 hZ1 e1=>?_)))))
 replace hZ1:IsZip g1 z u o .ellipsis:=hZ1
 refine jQ ?_
 simp only[List.zipIdx_cons,List.zipIdx_nil,List.forIn_cons,List.forIn_nil]
 refine jQ (jQ (wpAny_onRaise ?_))
 show wpAny _ _ (Builtin.SmallTypes.nextOf (.ref i1) >>= _) _ _ _
 cases hx:xs[k1]? with
 |none=>
  refine jQ (d1.done _ _ { s with heap:=g1 } k1 xs _ hh (d1.keep _ _ _ h1 fun q e=>e1.extBut _ _ D.i1z e) (d1.srck _ _ _ hl1 fun q e=>e1.extBut _ _ D.l1z e) hx fun g2 e e2 he=>?_)
  obtain⟨qe,ge,ce⟩:=he
  have hZ2:IsZip g2 z u o .ellipsis:=e2 _ _ D.i1z.symm hZ1
  have hez:e≠z:=fun x=>by subst x;rw[hZ2]at ge;cases ge;simp at ce
  refine wpAny_setField_rec hZ2 (by simp) fun g3 _ e3=>?_
  exact fin g3 e (fun c q c1 _ c3 _ x=>e3.extBut _ _ c1 (e2 _ _ c3 (e1.extBut _ _ c1 x))) ⟨qe,e3.extBut _ _ hez ge,ce⟩
 |some x=>
  have hy:ys[k2]?=none:=hend.resolve_left fun h=>by rw[hx]at h;cases h
  refine jQ (d1.item _ _ { s with heap:=g1 } k1 xs x _ (d1.keep _ _ _ h1 fun q e=>e1.extBut _ _ D.i1z e) (d1.srck _ _ _ hl1 fun q e=>e1.extBut _ _ D.l1z e) hx fun g2 h1' e2=>jJ ?_)
  have hO2:IsPair g2 o a b:=e2.extBut _ _ D.TOi1 (e1.extBut _ _ D.TOz hO)
  refine jQ (wpAny_seqItems hO2 rfl (jQ (wpAny_updateSeq_pair hO2 fun g3 hO3 e3=>?_)))
  refine jQ (wpAny_letGo (jJ ?_))
  refine jQ (jQ (wpAny_onRaise ?_))
  show wpAny _ _ (Builtin.SmallTypes.nextOf (.ref i2) >>= _) _ _ _
  refine jQ (d2.done _ _ { s with heap:=g3 } k2 ys _ hh (d2.keep _ _ _ h2 fun q e=>e3.extBut _ _ D.TOi2.symm (e2.extBut _ _ D.i12.symm (e1.extBut _ _ D.i2z e)))
   (d2.srck _ _ _ hl2 fun q e=>e3.extBut _ _ D.l2TO (e2.extBut _ _ D.l2i1 (e1.extBut _ _ D.l2z e))) hy fun g4 e e4 he=>?_)
  obtain⟨qe,ge,ce⟩:=he
  have hZ4:IsZip g4 z u o .ellipsis:=e4 _ _ D.i2z.symm (e3.extBut _ _ D.TOz.symm (e2.extBut _ _ D.i1z.symm hZ1))
  have hez:e≠z:=fun x=>by subst x;rw[hZ4]at ge;cases ge;simp at ce
  refine wpAny_setField_rec hZ4 (by simp) fun g5 _ e5=>?_
  exact fin g5 e (fun c q c1 c2 c3 c4 x=>e5.extBut _ _ c1 (e4 _ _ c4 (e3.extBut _ _ c2 (e2.extBut _ _ c3 (e1.extBut _ _ c1 x))))) ⟨qe,e5.extBut _ _ hez ge,ce⟩
end
def Js(n:String)(l:Addr):Obj:={ cls:=.type n,data:=.fields #[.ref l,.int 0 0] }
structure Itr0(n:String)(l:Addr)(pr:Heap->Prop):Prop where
 go:∀(P:Program) (w:World) (A:Around) (E:Value->Shared->Prop) (s:Shared) (Q:Value->Shared->Prop),pr s.heap->Q (.ref s.heap.objs.size) { s with heap:=s.heap.push (Js n l) }->wpAny (model P w) A (pyIter (.ref l)) Q E s
 push:∀h o,pr h->pr (h.push o)
theorem Qks(l:Addr)(xs:Array Value):Itr0 "list_iterator" l (fun h=>h.IsList l xs):=⟨fun _ _ _ _ _ _ hl h=>wpAny_pyIter_list hl h,fun _ _ hl=>hl.push _⟩
theorem Qow(l:Addr)(xs:Array Value):Itr0 "tuple_iterator" l (fun h=>h.IsTuple l xs):=⟨fun _ _ _ _ _ _ hl h=>wpAny_pyIter_tuple hl h,fun _ _ hl=>hl.push _⟩
def zH1(h:Heap)(n1:String)(l1:Addr):Heap:=h.push (Js n1 l1)
def zH2(h:Heap)(n1 n2:String)(l1 l2:Addr):Heap:=(zH1 h n1 l1).push (Js n2 l2)
def zH3(h:Heap)(n1 n2:String)(l1 l2:Addr):Heap:=(zH2 h n1 n2 l1 l2).push { cls:=.type "tuple",data:=.seq #[.ref h.objs.size,.ref (zH1 h n1 l1).objs.size] }
def zH4(h:Heap)(n1 n2:String)(l1 l2:Addr):Heap:=(zH3 h n1 n2 l1 l2).push { cls:=.type "tuple",data:=.seq #[.none,.none] }
def zH5(h:Heap)(n1 n2:String)(l1 l2:Addr):Heap:=(zH4 h n1 n2 l1 l2).push { cls:=.type "zip",data:=.fields #[.none,.bool false,.bool false,.ref (zH2 h n1 n2 l1 l2).objs.size,.ref (zH3 h n1 n2 l1 l2).objs.size] }
theorem Qkt{n1 n2:String}{l1 l2:Addr}{p1 p2:Heap->Prop}(I1:Itr0 n1 l1 p1)(I2:Itr0 n2 l2 p2) :
  Meets (Builtin.«zip.__new__» ⟨[.type "zip",.ref l1,.ref l2],[]⟩) (fun _ R s=>p1 s.heap/\p2 s.heap/\R (.ok (.ret (.ref (zH4 s.heap n1 n2 l1 l2).objs.size))) { s with heap:=zH5 s.heap n1 n2 l1 l2 }) :=
 .of_wp fun prog w A R s h=>by
  obtain⟨hp,g,d,tk,os⟩:=s
  obtain⟨q1,q2,h⟩:=h
  have hsub:=sub_zip
  have f1:=fun(A:Around) (E:Value->Shared->Prop) (Q:Value->Shared->Prop)=>I1.go prog w A E ⟨hp,g,d,tk,os⟩ Q q1
  have f2:=fun(A:Around) (E:Value->Shared->Prop) (Q:Value->Shared->Prop)=>I2.go prog w A E ⟨hp.push (Js n1 l1),g,d,tk,os⟩ Q (I2.push _ _ q2)
  wp_walk using f1 _ _ _,f2 _ _ _
  exact⟨_,rfl,h⟩
def Sq(K:Fg)(m:Bool)(H:Hp)(a:Addr)(xs:List V):Prop:=if m=true then SqL K H a xs else SqT K H a xs
def itN(m:Bool):String:=if m=true then "list_iterator" else "tuple_iterator"
def itSt(m:Bool)(it l:Addr)(i:Nat)(h:Heap):Prop:=if m=true then h.IsListIter it l i else h.IsTupleIter it l i
def Qip(m:Bool)(l:Addr)(xs:List Value)(h:Heap):Prop:=if m=true then h.IsList l xs.toArray else h.IsTuple l xs.toArray
theorem Xu{P:Program}{w:World}(m:Bool)(it l:Addr):Drw P w it l (itSt m it l) (Qip m l):=by
 cases m
 .exact Qsy it l
 .exact Qov it l
theorem Qfa(m:Bool)(l:Addr)(xs:List Value):Itr0 (itN m) l (Qip m l xs):=by
 cases m
 .exact Qow l xs.toArray
 .exact Qks l xs.toArray
theorem Qbe(m:Bool){h:Heap}{it l:Addr}(e:h.get? it=some (Js (itN m) l)):itSt m it l 0 h:=by
 cases m
 .exact⟨_,e,rfl,rfl⟩
 .exact⟨_,e,rfl,rfl⟩
section
variable{X:Cx}{pins:List (Addr×Obj)}{σ:St}{H:Hp}{s:Shared}
theorem Inv.sq{m:Bool}{a:Addr}{xs:List V}(I:Inv X pins σ H s)(h:Sq X.K m H a xs):∃its:List Value,Vals xs its/\Qip m a its s.heap/\xs.length<=sizeLine:=by
 cases m
 .obtain⟨its,rv,p,hz⟩:=I.tuple h
  exact⟨its,rv,p,by first | exact hz | lia⟩
 .obtain⟨its,rv,p,hz⟩:=I.list h
  exact⟨its,rv,p.isList,by first | exact hz | lia⟩
theorem Inv.sq_inj{m:Bool}{a:Addr}{xs ys:List V}(I:Inv X pins σ H s)(h:Sq X.K m H a xs)(h':Sq X.K m H a ys):xs=ys:=by
 cases m
 .exact I.tuple_inj h h'
 .exact I.list_inj h h'
theorem Inv.tupNew{xs:List V}{its:List Value}{h':Heap}{ch:List Addr}{T:Addr}(I:Inv X pins σ H s)(hT:s.heap.objs.size<=T)(r:Vals xs its)(hz:xs.length<=sizeLine)(e:h'.get? T=some { cls:=.type "tuple",data:=.seq its.toArray })
  (hf:∀b∈ch,FpOk X pins H b) (k:∀b o,b∉ch->s.heap.get? b=some o->h'.get? b=some o) (th:∀b∈ch,∃o,h'.get? b=some o):Inv X pins σ (upd H T (.tup xs)) { s with heap:=h' }:=by
 have hn:H T=none:=I.hok.fresh hT
 have tr:∀b o,H b=some o->b∉ch:=fun b o e z=>by rw[(hf b z).1]at e;cases e
 refine I.step (g':=s.gens) (t':=s.toks) (d':=s.drawn) (ch:=ch) (fun b hb=>⟨(hf b hb).2.2.2.1,(hf b hb).2.1,(hf b hb).2.2.2.2.1,(hf b hb).2.2.2.2.2⟩) (fun b o _ _ hc q _=>k b o hc q) (fun b o _ _ hc q _=>⟨o.slots,k b o hc q⟩) (fun b o _ q n=>?_) (fun b o hc q=>⟨o,k b o hc q⟩)
  (fun b xs q=>?_) (fun b o u q=>?_) (fun b ps q=>⟨#[],?_⟩) (fun m hm=>?_) (fun b ob q=>?_) I.bare
 .rw[Qk (yZ (xK (kK q) hT))];exact n
 .rw[Qk (Ql q hn)];exact q
 .rw[Qk (Ql q hn)];exact q
 .rw[Qk (Ql q hn),yJc];exact q
 .obtain⟨o,es,ep,q,d,r⟩:=hm
  exact⟨o,es,ep,k _ o (fun z=>(hf _ z).2.1 rfl) q,d,r⟩
 .by_cases hb:b=T
  .subst hb
   rw[Qb]at q;cases q
   exact⟨hz,its,r,_,e,rfl,_,rfl⟩
  .rw[Qk hb]at q
   refine(I.hok b ob q).stay (fun c v hc r=>k c v ?_ r) (fun c r=>by rw[Qk (Ql r hn)];exact r) fun c xs r=>by rw[Qk (Ql r hn)];exact r
   rcases hc with rfl | hc
   .exact tr _ _ q
   .exact tr _ _ hc
end
def Itz(K:Fg)(m1 m2:Bool)(a b:Addr):It :=
  ⟨fun i H=>∃xs ys x y,Sq K m1 H a xs/\Sq K m2 H b ys/\xs[i]?=some x/\ys[i]?=some y,
   fun i H v H'=>∃T x y,v=.ref T/\H T=none/\H'=upd H T (.tup [x,y])/\(∀xs,Sq K m1 H a xs->xs[i]?=some x)/\∀ys,Sq K m2 H b ys->ys[i]?=some y,
   fun i H=>∃xs ys,Sq K m1 H a xs/\Sq K m2 H b ys/\(xs.length<=i\/ys.length<=i)⟩
def zTn(m1 m2:Bool)(z u o i1 i2 a b:Addr)(i:Nat)(h:Heap):Prop:=IsZip h z u o .none/\IsPair h u (.ref i1) (.ref i2)/\(∃p q,IsPair h o p q)/\itSt m1 i1 a i h/\itSt m2 i2 b i h
theorem Qox{P:Program}{w:World}{K:Fg}{es:List Expr}{kk:Nat}{tp:Pos}{m1 m2:Bool}{z u o i1 i2 a b:Addr}(D:ZipApart z u o i1 i2 a b) :
  Turn P w K (.Tuple es kk tp) (Itz K m1 m2 a b) [z,u,o,i1,i2] z (zTn m1 m2 z u o i1 i2 a b) where
 mem:=by simp
 obj:=fun i h st c hc=>by
  obtain⟨h1,h2,⟨p,q,h3⟩,h4,h5⟩:=st
  simp only[yY,jXe,or_false]at hc
  rcases hc with rfl | rfl | rfl | rfl | rfl
  .exact⟨_,h1,fun v z=>by cases z⟩
  .exact⟨_,h2,fun v z=>by cases z⟩
  .exact⟨_,h3,fun v z=>by cases z⟩
  .exact(Xu (P:=P) (w:=w) m1 c a).obj i h h4
  .exact(Xu (P:=P) (w:=w) m2 c b).obj i h h5
 keep:=fun i h h' st k=>by
  obtain⟨h1,h2,⟨p,q,h3⟩,h4,h5⟩:=st
  exact⟨k z (by simp) _ h1,k u (by simp) _ h2,⟨p,q,k o (by simp) _ h3⟩,(Xu (P:=P) (w:=w) m1 i1 a).keep i h h' h4 (k i1 (by simp)),(Xu (P:=P) (w:=w) m2 i2 b).keep i h h' h5 (k i2 (by simp))⟩
 item:=by
  intro X hP hw hK hc i pins s σ H E I hf st hg
  subst hP hw hK
  obtain⟨xs,ys,x,y,q1,q2,hx,hy⟩:=hg
  obtain⟨is1,r1,p1,z1⟩:=I.sq q1
  obtain⟨is2,r2,p2,z2⟩:=I.sq q2
  obtain⟨v1,e1,rv1⟩:=r1.get hx
  obtain⟨v2,e2,rv2⟩:=r2.get hy
  obtain⟨hZ,hU,⟨p,q,hO⟩,s1,s2⟩:=st
  refine Qcv (Xu m1 i1 a) (Xu m2 i2 b) D hZ hU hO s1 s2 p1 p2 e1 e2 fun h' a1 a2 a3 a4 a5 a6 a7=>⟨_,rfl,?_⟩
  have hf':∀c∈[z,o,i1,i2],FpOk X pins H c:=fun c hc=>hf c (by simp only[yY,jXe,or_false]at hc⊢;rcases hc with rfl | rfl | rfl | rfl<;>simp)
  have I1:Inv X pins σ (upd H s.heap.objs.size (.tup [x,y])) { s with heap:=h' }:=I.tupNew (ch:=[z,o,i1,i2]) (jW _) (.cons rv1 (.cons rv2 .nil)) (by show 2<=sizeLine;decide) a5 hf'
   (fun c q hc e=>by simp only[yY,jXe,or_false,not_or]at hc;exact a7 c q hc.1 hc.2.1 hc.2.2.1 hc.2.2.2 e)
   (fun c hc=>by
    simp only[yY,jXe,or_false]at hc
    rcases hc with rfl | rfl | rfl | rfl
    .exact⟨_,a1⟩
    .exact⟨_,a2⟩
    .obtain⟨q,e,_⟩:=(Xu (P:=X.prog) (w:=X.w) m1 c a).obj _ _ a3;exact⟨q,e⟩
    .obtain⟨q,e,_⟩:=(Xu (P:=X.prog) (w:=X.w) m2 c b).obj _ _ a4;exact⟨q,e⟩)
  refine wpAny_letOwnedTupleGo_zip (s:={ s with heap:=h' }) a1 fun h2 g1 g2=>?_
  obtain⟨f0,f1,f2,f3,f4,f5⟩:=hf z (by simp)
  have ltz:z<s.heap.objs.size:=kK hZ
  have I2:Inv X pins σ (upd H s.heap.objs.size (.tup [x,y])) { s with heap:=h2 }:=I1.turned (h':=h2) (t':=s.toks) (fun c q hc e=>g2.extBut c q hc e) (by rw[Qk (yZ ltz)];exact f0) f1 f3 f4 f5
  have hU':IsPair h' u (.ref i1) (.ref i2):=a7 u _ D.TIz D.TITO D.TIi1 D.TIi2 hU
  refine⟨.ref s.heap.objs.size,_,I2,rfl,⟨_,x,y,rfl,I.hok.fresh (jW _),rfl,fun xs' hq=>by rw[I.sq_inj hq q1];exact hx,fun ys' hq=>by rw[I.sq_inj hq q2];exact hy⟩,?_,fun c hc=>?_⟩
  .exact⟨g1,g2.extBut _ _ D.TIz hU',⟨_,_,g2.extBut _ _ D.TOz a2⟩,(Xu (P:=X.prog) (w:=X.w) m1 i1 a).keep _ _ _ a3 fun q e=>g2.extBut _ _ D.i1z e,(Xu (P:=X.prog) (w:=X.w) m2 i2 b).keep _ _ _ a4 fun q e=>g2.extBut _ _ D.i2z e⟩
  .have hlt:c≠s.heap.objs.size:=by
    have st':zTn m1 m2 z u o i1 i2 a b i s.heap:=⟨hZ,hU,⟨p,q,hO⟩,s1,s2⟩
    simp only[yY,jXe,or_false]at hc
    rcases hc with rfl | rfl | rfl | rfl | rfl
    .exact yZ ltz
    .exact yZ (kK hU)
    .exact yZ (kK hO)
    .obtain⟨q,e,_⟩:=(Xu (P:=X.prog) (w:=X.w) m1 c a).obj _ _ s1;exact yZ (kK e)
    .obtain⟨q,e,_⟩:=(Xu (P:=X.prog) (w:=X.w) m2 c b).obj _ _ s2;exact yZ (kK e)
   rw[Qk hlt]
   exact(hf c hc).1
 done:=by
  intro X hP hw hK hc i pins s σ H E I hf st hg
  subst hP hw hK
  obtain⟨xs,ys,q1,q2,hx⟩:=hg
  obtain⟨is1,r1,p1,z1⟩:=I.sq q1
  obtain⟨is2,r2,p2,z2⟩:=I.sq q2
  obtain⟨hZ,hU,⟨p,q,hO⟩,s1,s2⟩:=st
  have l1:=r1.length
  have l2:=r2.length
  refine Qez (I.ok.hd hc) (Xu m1 i1 a) (Xu m2 i2 b) D hZ hU hO s1 s2 p1 p2 (by
   rcases hx with h | h
   .exact .inl (kYc.mpr Om)
   .exact .inr (kYc.mpr Om)) fun h' k=>⟨rfl,?_⟩
  have hf':∀c∈[z,o,i1,i2],FpOk X pins H c:=fun c hc=>hf c (by simp only[yY,jXe,or_false]at hc⊢;rcases hc with rfl | rfl | rfl | rfl<;>simp)
  have tr:∀c q,H c=some q->c∉[z,o,i1,i2]:=fun c q e y=>by rw[(hf' c y).1]at e;cases e
  have kk:∀c q,c∉[z,o,i1,i2]->s.heap.get? c=some q->h'.get? c=some q:=fun c q hc e=>by
   simp only[yY,jXe,or_false,not_or]at hc
   exact k c q hc.1 hc.2.1 hc.2.2.1 hc.2.2.2 e
  refine I.step (g':=s.gens) (t':=s.toks) (d':=s.drawn) (ch:=[z,o,i1,i2]) (fun b hb=>⟨(hf' b hb).2.2.2.1,(hf' b hb).2.1,(hf' b hb).2.2.2.2.1,(hf' b hb).2.2.2.2.2⟩) (fun b o _ _ hc q _=>kk b o hc q) (fun b o _ _ hc q _=>⟨o.slots,kk b o hc q⟩) (fun b o _ q n=>n) (fun b o hc q=>⟨o,kk b o hc q⟩)
   (fun b xs q=>q) (fun b o u q=>q) (fun b ps q=>⟨#[],by rw[yJc];exact q⟩) (fun m hm=>?_) (fun b ob q=>?_) I.bare
  .obtain⟨o,es,ep,q,d,r⟩:=hm
   exact⟨o,es,ep,kk _ o (fun z=>(hf' _ z).2.1 rfl) q,d,r⟩
  .refine(I.hok b ob q).stay (fun c v hc r=>kk c v ?_ r) (fun c r=>r) fun c xs r=>r
   rcases hc with rfl | hc
   .exact tr _ _ q
   .exact tr _ _ hc
 self:=fun _ _ _ _ _ st h=>wpAny_pyIter_zip st.1 h
section
variable{X:Cx}
def iZip(K:Fg)(m1 m2:Bool)(ta:TA):TI:=fun σ H R=>ta σ H fun vs H1=>∃a b,vs=[.ref a,.ref b]/\(∃xs,Sq K m1 H1 a xs)/\(∃ys,Sq K m2 H1 b ys)/\R (Itz K m1 m2 a b) H1
theorem Qku{P:Program}{w:World}{A:Around}{E:Value->Shared->Prop}{s:Shared}{m1 m2:Bool}{a b:Addr}{xs ys:List Value}{Q:Value->Shared->Prop}(h1:Qip m1 a xs s.heap)(h2:Qip m2 b ys s.heap)
  (h:∀h',IsZip h' (s.heap.objs.size+4) (s.heap.objs.size+2) (s.heap.objs.size+3) .none->IsPair h' (s.heap.objs.size+2) (.ref s.heap.objs.size) (.ref (s.heap.objs.size+1))->IsPair h' (s.heap.objs.size+3) .none .none ->
   itSt m1 s.heap.objs.size a 0 h'->itSt m2 (s.heap.objs.size+1) b 0 h'->(∀c o,s.heap.get? c=some o->h'.get? c=some o)->Q (.ref (s.heap.objs.size+4)) { s with heap:=h' }) :
  wpAny (model P w) A (call (.type "zip") [.ref a,.ref b]) Q E s:=by
 refine callType_new F.called_zip Dc (F.typeCall_zip_2 _ _) (F.newCall_zip_2 _ _) (fun obj=>F.args_object_init_3 obj _ _) F.entry_zip_new (Qkt (Qfa m1 a xs) (Qfa m2 b ys)) ⟨h1,h2,?_⟩
 have z1:(zH1 s.heap (itN m1) a).objs.size=s.heap.objs.size+1:=jYf ..
 have z2:(zH2 s.heap (itN m1) (itN m2) a b).objs.size=s.heap.objs.size+2:=by unfold zH2;rw[jYf,z1]
 have z3:(zH3 s.heap (itN m1) (itN m2) a b).objs.size=s.heap.objs.size+3:=by unfold zH3;rw[jYf,z2]
 have z4:(zH4 s.heap (itN m1) (itN m2) a b).objs.size=s.heap.objs.size+4:=by unfold zH4;rw[jYf,z3]
 have g5:(zH5 s.heap (itN m1) (itN m2) a b).get? (zH4 s.heap (itN m1) (itN m2) a b).objs.size=some { cls:=.type "zip",data:=.fields #[.none,.bool false,.bool false,.ref (zH2 s.heap (itN m1) (itN m2) a b).objs.size,.ref (zH3 s.heap (itN m1) (itN m2) a b).objs.size] }:=kX _ rfl
 have up4:∀c o,(zH4 s.heap (itN m1) (itN m2) a b).get? c=some o->(zH5 s.heap (itN m1) (itN m2) a b).get? c=some o:=fun c o e=>jZ _ e
 have up3:∀c o,(zH3 s.heap (itN m1) (itN m2) a b).get? c=some o->(zH5 s.heap (itN m1) (itN m2) a b).get? c=some o:=fun c o e=>up4 c o (jZ _ e)
 have up2:∀c o,(zH2 s.heap (itN m1) (itN m2) a b).get? c=some o->(zH5 s.heap (itN m1) (itN m2) a b).get? c=some o:=fun c o e=>up3 c o (jZ _ e)
 have up1:∀c o,(zH1 s.heap (itN m1) a).get? c=some o->(zH5 s.heap (itN m1) (itN m2) a b).get? c=some o:=fun c o e=>up2 c o (jZ _ e)
 have g4:(zH5 s.heap (itN m1) (itN m2) a b).get? (zH3 s.heap (itN m1) (itN m2) a b).objs.size=some { cls:=.type "tuple",data:=.seq #[.none,.none] }:=up4 _ _ (kX _ rfl)
 have g3:(zH5 s.heap (itN m1) (itN m2) a b).get? (zH2 s.heap (itN m1) (itN m2) a b).objs.size=some { cls:=.type "tuple",data:=.seq #[.ref s.heap.objs.size,.ref (zH1 s.heap (itN m1) a).objs.size] }:=up3 _ _ (kX _ rfl)
 have g2:(zH5 s.heap (itN m1) (itN m2) a b).get? (zH1 s.heap (itN m1) a).objs.size=some (Js (itN m2) b):=up2 _ _ (kX _ rfl)
 have g1:(zH5 s.heap (itN m1) (itN m2) a b).get? s.heap.objs.size=some (Js (itN m1) a):=up1 _ _ (kX _ rfl)
 show _/\_
 rw[z2,z3,z4]at g5
 rw[z1,z2]at g3
 rw[z3]at g4
 rw[z1]at g2
 rw[z4]
 exact⟨⟨_,g5,rfl⟩,h _ g5 g3 g4 (Qbe m1 g1) (Qbe m2 g2) fun c o x=>up1 c o (jZ _ x)⟩
theorem Qkv{n l1 l2:Addr}(h1:l1<n)(h2:l2<n):ZipApart (n+4) (n+2) (n+3) n (n+1) l1 l2:=by
 have h1':@LT.lt Nat _ l1 n:=h1
 have h2':@LT.lt Nat _ l2 n:=h2
 constructor<;>(show @Ne Nat _ _)<;>lia
theorem Qbf{m:Bool}{a:Addr}{xs:List Value}{h:Heap}(e:Qip m a xs h):a<h.objs.size:=by
 cases m
 .obtain⟨o,e,_⟩:=e;exact kK e
 .obtain⟨o,e,_⟩:=e;exact kK e
theorem Qcw{a b:Expr}{ta:TA}{p pos tp:Pos}{es:List Expr}{kk:Nat}(m1 m2:Bool)(hg:Gl X "zip")(hm:X.mg "zip"=none)(ha:PA X [a,b] ta)(hs:autoParam (starEach [a,b] X.env=[(false,eval a X.env),(false,eval b X.env)]) L2.aRfl._auto_1)(hs2:autoParam (starEach [b] X.env=[(false,eval b X.env)]) L2.aRfl._auto_1) :
  PI X (.Tuple es kk tp) (.Call (.Name "zip" p) [a,b] [] pos) (iZip X.K m1 m2 ta):=by
 intro pins s σ H R I h
 refine Call_ (Jt I hg hm (u:=.type "zip") (by rfl) (PyProof.Rows.callWith_type1 (thn (ha pos pins s σ H _ I h) fun us s1 hqP=>?_) (by rw[hs,hs2]) (by rw[hs2];rfl)))
 obtain⟨vs,H1,I1,r1,q1⟩:=hqP
 obtain⟨l1,l2,e,⟨xs,q1⟩,⟨ys,q2⟩,q⟩:=q1
 subst e
 obtain⟨u1,u2,rfl,e1,e2⟩:=r1.two
 cases e1
 cases e2
 obtain⟨is1,r1,p1,z1⟩:=I1.sq q1
 obtain⟨is2,r2,p2,z2⟩:=I1.sq q2
 refine Qku p1 p2 fun h' a1 a2 a3 a4 a5 a6=>?_
 have I2:Inv X pins σ H1 { s1 with heap:=h' }:=I1.kept (t':=s1.toks) a6
 refine wpAny_pyIter_zip (s:={ s1 with heap:=h' }) a1 ⟨_,[s1.heap.objs.size+4,s1.heap.objs.size+2,s1.heap.objs.size+3,s1.heap.objs.size,s1.heap.objs.size+1],_,_,H1,rfl,I2,Qox (Qkv (Qbf p1) (Qbf p2)),⟨a1,a2,⟨_,_,a3⟩,a4,a5⟩,fun c hc=>?_,q⟩
 have hle:s1.heap.objs.size<=c:=by
  simp only[yY,jXe,or_false]at hc
  rcases hc with rfl | rfl | rfl | rfl | rfl
  .exact yYc _ _
  .exact yYc _ _
  .exact yYc _ _
  .exact jW _
  .exact yYc _ _
 exact I1.fpOk hle (I1.hok.fresh hle)
end
section
variable{X:Cx}
def isiV(K:Fg)(H:Hp):V->String->Bool->Prop
 |.int _,T,b=>(T="int"/\b=true)\/(T="bool"/\b=false)\/(T="tuple"/\b=false)
 |.bl _,T,b=>(T="int"/\b=true)\/(T="bool"/\b=true)\/(T="tuple"/\b=false)
 |.ref a,T,b=>(∃xs,SqT K H a xs)/\((T="tuple"/\b=true)\/(T="int"/\b=false)\/(T="bool"/\b=false))
 |_,_,_=>False
theorem Qgr:Yc X (.builtin "isinstance") (fun xs H Q=>∃x T b,xs=[x,.ty T]/\isiV X.K H x T b/\Q (.bl b) H):=by
 intro pins s σ H xs us Q I rv h
 obtain⟨x,T,b,rfl,hi,q⟩:=h
 obtain⟨u,v,rfl,ru,rT⟩:=rv.two
 cases rT
 have fin:∀(tk:Nat),EP X pins σ Q (.bool b) { s with toks:=tk }:=fun tk=>⟨.bl b,H,I.tok tk,rfl,q⟩
 cases x with
 |int n=>
  obtain⟨t,rfl⟩:=ru
  rcases hi with⟨rfl,rfl⟩ | ⟨rfl,rfl⟩ | ⟨rfl,rfl⟩
  .exact IsiPair.int_int (fin s.toks)
  .exact IsiPair.int_bool (fin _)
  .exact IsiPair.int_tuple (fin _)
 |bl n=>
  cases ru
  rcases hi with⟨rfl,rfl⟩ | ⟨rfl,rfl⟩ | ⟨rfl,rfl⟩
  .exact IsiPair.bool_int (fin s.toks)
  .exact IsiPair.bool_bool (fin s.toks)
  .exact IsiPair.bool_tuple (fin _)
 |ref a=>
  cases ru
  obtain⟨⟨xs,hq⟩,hi⟩:=hi
  obtain⟨its,r,⟨o,e,c,_⟩,_⟩:=I.tuple hq
  rcases hi with⟨rfl,rfl⟩ | ⟨rfl,rfl⟩ | ⟨rfl,rfl⟩
  .exact IsiPair.tuple_tuple e c (fin s.toks)
  .exact IsiPair.tuple_int e c (fin _)
  .exact IsiPair.tuple_bool e c (fin _)
 |non=>exact hi.elim
 |str _=>exact hi.elim
 |byt _=>exact hi.elim
 |flt _=>exact hi.elim
 |ty _=>exact hi.elim
theorem Qkw(hc:X.calm=true):Yc X (.builtin "sum") (fun xs H Q=>∃(a:Addr) (ns:List Int),xs=[.ref a]/\SqL X.K H a (ns.map V.int)/\Q (.int ns.sum) H):=by
 intro pins s σ H xs us Q I rv h
 obtain⟨a,ns,rfl,hq,q⟩:=h
 obtain⟨u,rfl,ru⟩:=rv.one
 cases ru
 obtain⟨its,r,p,hz⟩:=I.list hq
 have hi:IntsAre its.toArray.toList ns:=intsAre_of r
 have hall:AllInts its.toArray:=hi.allInts
 obtain⟨xs,hx⟩:=hall.items
 have hl':s.heap.IsList a (intItems xs):=hx▸p.isList
 refine sum_intListG (I.ok.hd hc) hl' fun h' tk t' hk=>?_
 have e1:ns=xs.toList.map (·.1):=by
  rw[<-nums_intItems,<-hx]
  exact(show numsOf its.toArray.toList=ns from hi.numsOf).symm
 have e2:preSum (numAt xs) xs.size=ns.sum:=by
  rw[preSum_eq,jKc (by simp),e1]
 rw[e2]
 exact⟨.int ns.sum,H,I.kept hk,⟨_,rfl⟩,q⟩
theorem Qkx{bs:List Bool}{its:List Value}(r:Vals (bs.map V.bl) its){i:Nat}{v:Value}(h:its[i]?=some v):∃b,bs[i]?=some b/\v=.bool b:=by
 have hl:=r.length
 obtain⟨hi,_⟩:=jK.mp h
 rw[jX]at hl
 have hb:bs[i]?=some bs[i]:=gE Om
 obtain⟨u,h1,h2⟩:=r.get (i:=i) (x:=.bl bs[i]) (by rw[jV,hb];rfl)
 rw[h]at h1;cases h1
 exact⟨_,hb,h2⟩
theorem Qoy(bs:List Bool):((List.range bs.length).all fun i=>(bs[i]?).getD true)=bs.all id:=by
 rw[jKf]
 simp only[kZf,yQ,id]
 constructor
 .intro h b hb
  obtain⟨i,hi,e⟩:=jXc hb
  have:=h i hi
  rw[gE hi]at this
  simpa[e]using this
 .intro h i hi
  rw[gE hi]
  exact h _ (jXf hi)
theorem Qoz(bs:List Bool):((List.range bs.length).any fun i=>(bs[i]?).getD false)=bs.any id:=by
 rw[jKf]
 simp only[yYd,yQ,id]
 constructor
 .rintro⟨i,hi,h⟩
  rw[gE hi]at h
  exact⟨_,jXf hi,h⟩
 .rintro⟨b,hb,h⟩
  obtain⟨i,hi,e⟩:=jXc hb
  exact⟨i,hi,by rw[gE hi];simpa[e]using h⟩
theorem Qky{h h':Heap}{o:Obj}(hk:∀b x,b∉[h.objs.size]->(h.push o).get? b=some x->h'.get? b=some x):∀b x,h.get? b=some x->h'.get? b=some x:=fun b x e=>
 hk b x (fun hm=>by rw[kW.mp hm]at e;exact jJe _ (kK e)) (jZ _ e)
theorem Qkz(hc:X.calm=true):Yc X (.builtin "all") (fun xs H Q=>∃(a:Addr) (bs:List Bool),xs=[.ref a]/\SqL X.K H a (bs.map V.bl)/\Q (.bl (bs.all id)) H):=by
 intro pins s σ H xs us Q I rv h
 obtain⟨a,bs,rfl,hq,q⟩:=h
 obtain⟨u,rfl,ru⟩:=rv.one
 cases ru
 obtain⟨its,r,p,hz⟩:=I.list hq
 have hlt:a<s.heap.objs.size:=by obtain⟨_,e,_⟩:=p.isList;exact kK e
 have hl:=r.length
 rw[jX]at hl
 refine call_all_walk (wpAny_pyIter_list p.isList ?_)
 refine⟨s.heap.objs.size,[s.heap.objs.size,a],[s.heap.objs.size],its.toArray.size,_,_,fun i=>(bs[i]?).getD true,rfl,Walks.list (A:=X.A.in1) (I.ok.hd hc) _ a (yZ hlt) its.toArray,⟨⟨_,kX _ rfl,rfl,rfl⟩,p.isList.push _⟩,fun i v s' Q' E' hP hQ=>?_,fun h' tk hk=>?_⟩
 .obtain⟨b,e,rfl⟩:=Qkx r (by simpa using hP)
  simp only[e,yKc]at hQ
  exact wpAny_truthy_bool hQ
 .rw[kJ,<-hl,Qoy]
  exact⟨.bl (bs.all id),H,I.kept (Qky hk),rfl,q⟩
theorem Qcx(hc:X.calm=true):Yc X (.builtin "any") (fun xs H Q=>∃(a:Addr) (bs:List Bool),xs=[.ref a]/\SqL X.K H a (bs.map V.bl)/\Q (.bl (bs.any id)) H):=by
 intro pins s σ H xs us Q I rv h
 obtain⟨a,bs,rfl,hq,q⟩:=h
 obtain⟨u,rfl,ru⟩:=rv.one
 cases ru
 obtain⟨its,r,p,hz⟩:=I.list hq
 have hlt:a<s.heap.objs.size:=by obtain⟨_,e,_⟩:=p.isList;exact kK e
 have hl:=r.length
 rw[jX]at hl
 refine call_any_walk (wpAny_pyIter_list p.isList ?_)
 refine⟨s.heap.objs.size,[s.heap.objs.size,a],[s.heap.objs.size],its.toArray.size,_,_,fun i=>(bs[i]?).getD false,rfl,Walks.list (A:=X.A.in1) (I.ok.hd hc) _ a (yZ hlt) its.toArray,⟨⟨_,kX _ rfl,rfl,rfl⟩,p.isList.push _⟩,fun i v s' Q' E' hP hQ=>?_,fun h' tk hk=>?_⟩
 .obtain⟨b,e,rfl⟩:=Qkx r (by simpa using hP)
  simp only[e,yKc]at hQ
  exact wpAny_truthy_bool hQ
 .rw[kJ,<-hl,Qoz]
  exact⟨.bl (bs.any id),H,I.kept (Qky hk),rfl,q⟩
end
inductive D where
 |non | bl (b:Bool) | int (i:Int) | tup (xs:List D) | lst (xs:List D)
inductive HasD (K:Fg) (H:Hp):V->D->Prop
 |non:HasD K H .non .non
 |bl (b):HasD K H (.bl b) (.bl b)
 |int (i):HasD K H (.int i) (.int i)
 |tup {a vs xs}:SqT K H a vs->vs.length=xs.length->(∀(i:Nat) v x,vs[i]?=some v->xs[i]?=some x->HasD K H v x)->HasD K H (.ref a) (.tup xs)
 |lst {a vs xs}:SqL K H a vs->vs.length=xs.length->(∀(i:Nat) v x,vs[i]?=some v->xs[i]?=some x->HasD K H v x)->HasD K H (.ref a) (.lst xs)
inductive Alike:Nat->D->D->Prop
 |non {n}:Alike n .non .non
 |bl {n} (a b):Alike n (.bl a) (.bl b)
 |int {n} (a b):Alike n (.int a) (.int b)
 |tup {n xs ys}:(∀(i:Nat) x y,xs[i]?=some x->ys[i]?=some y->Alike n x y)->Alike (n+1) (.tup xs) (.tup ys)
 |lst {n xs ys}:(∀(i:Nat) x y,xs[i]?=some x->ys[i]?=some y->Alike n x y)->Alike (n+1) (.lst xs) (.lst ys)
section
variable{X:Cx}{pins:List (Addr×Obj)}{σ:St}{H:Hp}{s:Shared}
theorem Qbg{α:Type}{xs ys:List α}(hl:xs.length=ys.length)(h:∀(i:Nat) x y,xs[i]?=some x->ys[i]?=some y->x=y):xs=ys:=by
 refine jKd fun i=>?_
 by_cases hi:i<xs.length
 .rw[gE hi,gE (by lia:i<ys.length)]
  exact congrArg some (h i _ _ (gE hi) (gE Om))
 .rw[jQf Om,jQf Om]
theorem Inv.noTL{a:Addr}{xs ys:List V}(I:Inv X pins σ H s)(h:SqT X.K H a xs)(h':SqL X.K H a ys):False:=by
 obtain⟨_,_,⟨o,e,c,_⟩,_⟩:=I.tuple h
 obtain⟨_,_,p,_⟩:=I.list h'
 obtain⟨o',e',c',_⟩:=p.isList
 rw[e]at e';cases e'
 rw[c]at c'
 injection c' with z
 exact absurd z Dc
theorem Qgs(I:Inv X pins σ H s){x:V}{d:D}(h:HasD X.K H x d):∀e,HasD X.K H x e->d=e:=by
 induction h with
 |non=>intro e h;cases h;rfl
 |bl b=>intro e h;cases h;rfl
 |int i=>intro e h;cases h;rfl
 |tup hq hl hs ih=>
  intro e h
  cases h with
  |tup hq' hl' hs'=>
   obtain rfl:=I.tuple_inj hq hq'
   refine congrArg D.tup (Qbg (hl.symm.trans hl') fun i x y ex ey=>?_)
   have hi:i<_:=(jK.mp ex).1
   rw[<-hl]at hi
   exact ih i _ x (gE hi) ex y (hs' i _ y (gE hi) ey)
  |lst hq' hl' hs'=>exact(I.noTL hq hq').elim
 |lst hq hl hs ih=>
  intro e h
  cases h with
  |lst hq' hl' hs'=>
   obtain rfl:=I.list_inj hq hq'
   refine congrArg D.lst (Qbg (hl.symm.trans hl') fun i x y ex ey=>?_)
   have hi:i<_:=(jK.mp ex).1
   rw[<-hl]at hi
   exact ih i _ x (gE hi) ex y (hs' i _ y (gE hi) ey)
  |tup hq' hl' hs'=>exact(I.noTL hq' hq).elim
theorem Qgt{n:Nat}{e:Nat->Bool}:(List.range n).all e=true↔∀i,i<n->e i=true:=by simp[kZf]
open PySem.SeqAt Classical in
theorem Qrq{n:Nat}{d e:D}(h:Alike n d e):∀{A:Around} {x y:V} {u v:Value},A.units+n<cLine->Inv X pins σ H s->RelV x u->RelV y v->HasD X.K H x d->HasD X.K H y e ->
  ∃b:Bool,(b=true↔d=e)/\EqAt A s u v b/\(∀a c,u=.ref a->v=.ref c->RcAt A s u v b/\RcNeAt A s u v (!b)):=by
 induction h with
 |non=>
  intro A x y u v hu I ru rv hd he
  cases hd
  cases he
  cases ru
  cases rv
  exact⟨true,by simp,EqAt.same _,fun a c e _=>nomatch e⟩
 |bl a b=>
  intro A x y u v hu I ru rv hd he
  cases hd
  cases he
  cases ru
  cases rv
  exact⟨a == b,by simp,EqAt.bool_bool a b,fun a c e _=>nomatch e⟩
 |int a b=>
  intro A x y u v hu I ru rv hd he
  cases hd
  cases he
  obtain⟨t,rfl⟩:=ru
  obtain⟨t',rfl⟩:=rv
  exact⟨a == b,by simp,EqAt.int_int a t b t',fun a c e _=>nomatch e⟩
 |@tup m xs ys hs ih=>
  intro A x y u v hu I ru rv hd he
  have hd':=hd
  have he':=he
  cases hd with
  |@tup p vs _ hq hl hv=>
  cases he with
  |@tup q ws _ hq' hl' hv'=>
  cases ru
  cases rv
  obtain⟨its,r,pt,_⟩:=I.tuple hq
  obtain⟨its',r',pt',_⟩:=I.tuple hq'
  have l1:=r.length
  have l2:=r'.length
  have key:∀j (h1:j<its.toArray.size) (h2:j<its'.toArray.size),EqAt A.in1 s its.toArray[j] its'.toArray[j] (decide (xs[j]?=ys[j]?)):=fun j h1 h2=>by
   rw[kJ]at h1 h2
   have j1:j<vs.length:=Om
   have j2:j<ws.length:=Om
   have j3:j<xs.length:=Om
   have j4:j<ys.length:=Om
   obtain⟨u1,e1,ru1⟩:=r.get (gE j1)
   obtain⟨u2,e2,ru2⟩:=r'.get (gE j2)
   obtain⟨b,hb,eq,_⟩:=ih j _ _ (gE j3) (gE j4) (A:=A.in1) (by show A.units+1+m<cLine;lia) I ru1 ru2 (hv j _ _ (gE j1) (gE j3)) (hv' j _ _ (gE j2) (gE j4))
   have z1:its.toArray[j]=u1:=by rw[gE Om]at e1;simpa using e1
   have z2:its'.toArray[j]=u2:=by rw[gE Om]at e2;simpa using e2
   rw[z1,z2]
   have:(decide (xs[j]?=ys[j]?))=b:=by
    rw[jKf,decide_eq_true_iff,hb,gE j3,gE j4]
    exact⟨fun z=>Option.some.inj z,fun z=>congrArg some z⟩
   rw[this]
   exact eq
  have hb:((List.range (min its.toArray.size its'.toArray.size)).all (fun j=>decide (xs[j]?=ys[j]?))&&its.toArray.size == its'.toArray.size)=true↔D.tup xs=D.tup ys:=by
   rw[jKa,Qgt,kJ,kJ,beq_iff_eq]
   constructor
   .rintro⟨z1,z2⟩
    refine congrArg D.tup (Qbg Om fun i x y ex ey=>?_)
    have hi:=(jK.mp ex).1
    have:=jJb (z1 i Om)
    rw[ex,ey]at this
    exact Option.some.inj this
   .intro z
    injection z with z
    subst z
    exact⟨fun i _=>xW rfl,Om⟩
  refine⟨_,hb,?_,fun a c _ _=>⟨RcAt.tuples pt pt' Om key,RcNeAt.tuples pt pt' Om key⟩⟩
  by_cases hpq:p=q
  .subst hpq
   rw[hb.mpr (Qgs I hd' _ he')]
   exact EqAt.same _
  .exact EqAt.of_refs hpq (RcAt.tuples pt pt' Om key)
 |@lst m xs ys hs ih=>
  intro A x y u v hu I ru rv hd he
  have hd':=hd
  have he':=he
  cases hd with
  |@lst p vs _ hq hl hv=>
  cases he with
  |@lst q ws _ hq' hl' hv'=>
  cases ru
  cases rv
  obtain⟨its,r,pt,_⟩:=I.list hq
  obtain⟨its',r',pt',_⟩:=I.list hq'
  have l1:=r.length
  have l2:=r'.length
  have key:∀j (h1:j<its.toArray.size) (h2:j<its'.toArray.size),EqAt A.in1 s its.toArray[j] its'.toArray[j] (decide (xs[j]?=ys[j]?)):=fun j h1 h2=>by
   rw[kJ]at h1 h2
   have j1:j<vs.length:=Om
   have j2:j<ws.length:=Om
   have j3:j<xs.length:=Om
   have j4:j<ys.length:=Om
   obtain⟨u1,e1,ru1⟩:=r.get (gE j1)
   obtain⟨u2,e2,ru2⟩:=r'.get (gE j2)
   obtain⟨b,hb,eq,_⟩:=ih j _ _ (gE j3) (gE j4) (A:=A.in1) (by show A.units+1+m<cLine;lia) I ru1 ru2 (hv j _ _ (gE j1) (gE j3)) (hv' j _ _ (gE j2) (gE j4))
   have z1:its.toArray[j]=u1:=by rw[gE Om]at e1;simpa using e1
   have z2:its'.toArray[j]=u2:=by rw[gE Om]at e2;simpa using e2
   rw[z1,z2]
   have:(decide (xs[j]?=ys[j]?))=b:=by
    rw[jKf,decide_eq_true_iff,hb,gE j3,gE j4]
    exact⟨fun z=>Option.some.inj z,fun z=>congrArg some z⟩
   rw[this]
   exact eq
  by_cases hsz:its.toArray.size=its'.toArray.size
  .have hb:((List.range its.toArray.size).all (fun j=>decide (xs[j]?=ys[j]?)))=true↔D.lst xs=D.lst ys:=by
    rw[kJ,kJ]at hsz
    rw[Qgt,kJ]
    constructor
    .intro z1
     refine congrArg D.lst (Qbg Om fun i x y ex ey=>?_)
     have hi:=(jK.mp ex).1
     have:=jJb (z1 i Om)
     rw[ex,ey]at this
     exact Option.some.inj this
    .intro z
     injection z with z
     subst z
     exact fun i _=>xW rfl
   refine⟨_,hb,?_,fun a c _ _=>⟨RcAt.lists pt.isList pt'.isList hsz Om key,RcNeAt.lists pt.isList pt'.isList hsz Om key⟩⟩
   by_cases hpq:p=q
   .subst hpq
    rw[hb.mpr (Qgs I hd' _ he')]
    exact EqAt.same _
   .exact EqAt.of_refs hpq (RcAt.lists pt.isList pt'.isList hsz Om key)
  .have hne:(its.toArray.size != its'.toArray.size)=true:=by simpa using hsz
   have hb:false=true↔D.lst xs=D.lst ys:=by
    rw[kJ,kJ]at hsz
    constructor
    .intro z;cases z
    .intro z
     injection z with z
     subst z
     lia
   refine⟨false,hb,?_,fun a c _ _=>⟨RcAt.lists_lengths pt.isList pt'.isList hne Om,RcNeAt.lists_lengths pt.isList pt'.isList hne Om⟩⟩
   by_cases hpq:p=q
   .subst hpq
    obtain rfl:=I.list_inj hq hq'
    rw[kJ,kJ]at hsz
    lia
   .exact EqAt.of_refs hpq (RcAt.lists_lengths pt.isList pt'.isList hne Om)
theorem Qrr{n:Nat}(hu:X.A.units+n<cLine):OpR X (compareOp .Eq) (fun x y H Q=>∃a b d e,x=.ref a/\y=.ref b/\HasD X.K H x d/\HasD X.K H y e/\Alike n d e/\∀c:Bool,(c=true↔d=e)->Q (.bl c) H):=by
 intro pins s σ H x y v u Q I rx ry h
 obtain⟨a,b,d,e,rfl,rfl,h1,h2,al,q⟩:=h
 cases rx
 cases ry
 obtain⟨c,hc,_,hr⟩:=Qrq al (A:=X.A) (x:=.ref a) (y:=.ref b) (u:=.ref a) (v:=.ref b) hu I rfl rfl h1 h2
 exact(hr a b rfl rfl).1 _ _ _ _ ⟨.bl c,H,I,rfl,q c hc⟩
theorem Qcy{n:Nat}(hu:X.A.units+n<cLine):OpR X (compareOp .NotEq) (fun x y H Q=>∃a b d e,x=.ref a/\y=.ref b/\HasD X.K H x d/\HasD X.K H y e/\Alike n d e/\∀c:Bool,(c=true↔d=e)->Q (.bl (!c)) H):=by
 intro pins s σ H x y v u Q I rx ry h
 obtain⟨a,b,d,e,rfl,rfl,h1,h2,al,q⟩:=h
 cases rx
 cases ry
 obtain⟨c,hc,_,hr⟩:=Qrq al (A:=X.A) (x:=.ref a) (y:=.ref b) (u:=.ref a) (v:=.ref b) hu I rfl rfl h1 h2
 exact(hr a b rfl rfl).2 _ _ _ _ ⟨.bl (!c),H,I,rfl,q c hc⟩
end
def Fn(K:Fg)(mg:Str->Option Value)(x:Str)(st:Stmt):Prop:=∃f fd,Fun K x x st f fd/\mg x=some (.ref f)
theorem Zm{K:Fg}{h:Heap}{mg:Str->Option Value}{x:Str}{st:Stmt}{f:Addr}{oc:Value}{od an:Option Addr}{osl:Array (Option Value)}{kV doc pm cdv ct:Value}(X:K.In h)(G:h.Ns mainGlobals mg)
  (a:PySem.W.nsIn K mainGlobals x=some (some (.ref f))) (l:K.lookup f=some ⟨oc,od,.func (PySem.W.fnOf x x (Qv st) (Qq st) (Qh st) .none kV doc pm an cdv ct),osl⟩) (c:PySem.W.codeIn K cdv x=true) (k:PySem.W.keepIn K (.ref f)=true):Fn K mg x st :=
 ⟨f,_,Wa l c k,PySem.W.mg_of X G a⟩
structure Cal(P:Program)(w:World)(K:Fg)(mg:Str->Option Value)(base:Heap)(k:Nat)(x:Str)(ps:List Str)(sp:Sp):Prop where
 ex:∃f fd,FnOk P w K mg base CX0 k f fd ps sp/\mg x=some (.ref f)/\PySem.W.keepIn K (.ref f)=true/\Binds K fd ps []
theorem Xy{P:Program}{w:World}{K:Fg}{mg:Str->Option Value}{base:Heap}{k:Nat}{x:Str}{st:Stmt}{N ps:List Str}{sp:Sp}(F:Fn K mg x st)(S:FnScope N ps (Qh st))
  (hb:∀(kV doc pm:Value) (an:Option Addr) (cdv ct:Value) (us:List Value),us.length=ps.length->bindArgs (PySem.W.fnOf x x (Qv st) (Qq st) (Qh st) .none kV doc pm an cdv ct) ⟨us,[]⟩=pure (ps.zip us)) (len:∀vs H Q E,sp vs H Q E->vs.length=ps.length)
  (hbody:∀(f:Addr) (cdv:Value) (A:Around) (outer:List Env) (s:Shared) (H:Hp) (vs:List V) (Q:VK) (E:XK),Room k (A.deeper (envOfC x (Qh st) s.heap.objs.size f cdv))->sp vs H Q E ->
   ∃t,PSs (cxOf CX0 P w K mg base N x (Qh st) f cdv A outer s H E).nox (Qq st) t/\t { nx:=fun _ H'=>Q .non H',rt:=Q } (start N vs) H):Cal P w K mg base (k+1) x ps sp:=by
 obtain⟨f,fd,F,m⟩:=F
 exact⟨f,fd,F.ok S len (hbody f),m,F.kp,F.binds hb⟩
section
variable{X:Cx}
theorem Xp{k:Nat}{x:Str}{ps:List Str}{sp:Sp}{e:Expr}{es:List Expr}{t:TA}{p pos:Pos}(C:Cal X.prog X.w X.K X.mg X.base k x ps sp)(hr:Room k X.A)(ha:PA X (e::es) t)(hg:autoParam (Gl X x) L2.aRfl._auto_1)
  (hdb:autoParam ((x == ("__debug__":Str))=false) L2.aDec._auto_1) (he:autoParam (starEach (e::es) X.env=(false,eval e X.env)::starEach es X.env) L2.aRfl._auto_1) (hpl:autoParam ((backTo pos (starEach es X.env)).any (·.1)=false) L2.aRfl._auto_1) :
  PE X (.Call (.Name x p) (e::es) [] pos) (tCall sp [] E0 t):=by
 obtain⟨f,fd,F,m,kp,b⟩:=C.ex
 exact Qst F hr hg m kp b .nil Kz ha hdb he hpl
theorem Qsz{x:Str}{T:String}{pos:Pos}(hm:X.mg x=none)(hv:bootBuiltins x=some (.type T))(hg:autoParam (Gl X x) L2.aRfl._auto_1)(hn:autoParam (x≠"__name__") L2.aDec._auto_1)(hd:autoParam ((x == ("__debug__":Str))=false) L2.aDec._auto_1):PE X (.Name x pos) (tC (.ty T)) :=
 Qsl hg hm hv (v:=.ty T) rfl hn hd
end
def gPair(K:Fg)(i j:Nat):TG:=gTup K 2 (Qsn (Qag i) (Qsn (Qag j) gNil))
theorem Yf{X:Cx}{K:Fg}{i j:Nat}{x y:Str}{px py pos:Pos}{k:Nat}(hK:X.K=K)(hc:X.calm=true)(hN:X.N.Nodup)(hi:X.N[i]?=some x)(hj:X.N[j]?=some y)(hx:X.env.scope.names.lookup x=some .local)(hy:X.env.scope.names.lookup y=some .local) :
  PG X (.Tuple [.Name x px,.Name y py] k pos) (gPair K i j):=by
 subst hK
 exact pg_tup hc (Qgj (Qz hN hi (.inl hx) (.inr hx)) (Qgj (Qz hN hj (.inl hy) (.inr hy)) Qso))
theorem Zj:bootBuiltins "len"=some (.builtin "len"):=Dk
theorem bt_sum:bootBuiltins "sum"=some (.builtin "sum"):=Dk
theorem bt_all:bootBuiltins "all"=some (.builtin "all"):=Dk
theorem Qrs:bootBuiltins "any"=some (.builtin "any"):=Dk
theorem Zq:bootBuiltins "isinstance"=some (.builtin "isinstance"):=Dk
theorem Qrt:bootBuiltins "min"=some (.builtin "min"):=Dk
theorem Xq:bootBuiltins "sorted"=some (.builtin "sorted"):=Dk
theorem Qla:bootBuiltins "int"=some (.type "int"):=Dk
theorem Qta:bootBuiltins "bool"=some (.type "bool"):=Dk
theorem Yt:bootBuiltins "tuple"=some (.type "tuple"):=Dk
theorem Ja:bootBuiltins "list"=some (.type "list"):=Dk
theorem Qtb:bootBuiltins "dict"=some (.type "dict"):=Dk
theorem Qcz:bootBuiltins "enumerate"=some (.type "enumerate"):=Dk
theorem Qc{H:Hp}{p:Addr}(h:H p=none)(o:HO):Same H (upd H p o):=fun b u q=>by rw[Qk (Ql q h)];exact q
theorem Same.tup{K:Fg}{H H':Hp}{a:Addr}{xs:List V}(e:Same H H')(h:SqT K H a xs):SqT K H' a xs:=by
 rcases h with(h | ⟨o,h⟩) | h
 .exact .inl (.inl (e _ _ h))
 .exact .inl (.inr ⟨o,e _ _ h⟩)
 .exact .inr h
theorem Same.hasD{K:Fg}{H H':Hp}(e:Same H H'){x:V}{d:D}(h:HasD K H x d):HasD K H' x d:=by
 induction h with
 |non=>exact .non
 |bl b=>exact .bl b
 |int i=>exact .int i
 |tup hq hl hs ih=>exact .tup (e.tup hq) hl ih
 |lst hq hl hs ih=>exact .lst (e.seq hq) hl ih
theorem Qr{K:Fg}{H:Hp}{a:Addr}{xs:List V}(h:H a=some (.tup xs)):SqT K H a xs:=.inl (.inl h)
theorem Qi{K:Fg}{H:Hp}{a:Addr}{xs:List V}(h:H a=some (.lst xs)):SqL K H a xs:=.inl (.inl h)
theorem Qbh{K:Fg}{m1 m2:Bool}{a b:Addr}{xs ys:List V}{g:TG}{tb:TS}{D:Ends}{σ:St}{H:Hp}(Pv:Nat->St->Hp->Prop)(h0:Pv 0 σ H)(hl:∀i σ H,i<=min xs.length ys.length->Pv i σ H->Sq K m1 H a xs/\Sq K m2 H b ys)
  (hs:∀i x y σ H T,xs[i]?=some x->ys[i]?=some y->Pv i σ H->H T=none->g (.ref T) σ (upd H T (.tup [x,y])) fun σ2 H2=>tb { D with nx:=Pv (i+1),ct:=Pv (i+1),bk:=D.nx } σ2 H2) (hd:∀σ H,Pv (min xs.length ys.length) σ H->D.nx σ H) :
  ∃W:Nat->Nat->St->Hp->Prop,(∃m,W 0 m σ H)/\∀i m σ H,W i m σ H ->
   ((Itz K m1 m2 a b).stop i H/\D.nx σ H)\/((Itz K m1 m2 a b).go i H/\∃N:St->Hp->Prop,(∀σ' H',N σ' H'->∃m',m'<m/\W (i+1) m' σ' H')/\∀x H',(Itz K m1 m2 a b).yld i H x H'->g x σ H' fun σ2 H2=>tb { D with nx:=N,ct:=N,bk:=D.nx } σ2 H2):=by
 refine⟨fun i m σ H=>m=min xs.length ys.length-i/\i<=min xs.length ys.length/\Pv i σ H,⟨_,rfl,wY _,h0⟩,?_⟩
 rintro i m σ H ⟨rfl,hi,p⟩
 obtain⟨q1,q2⟩:=hl i σ H hi p
 by_cases hlt:i<min xs.length ys.length
 .have i1:i<xs.length:=Om
  have i2:i<ys.length:=Om
  refine .inr ⟨⟨xs,ys,xs[i],ys[i],q1,q2,by simp[i1],by simp[i2]⟩,Pv (i+1),fun σ' H' p'=>⟨min xs.length ys.length-(i+1),Om,rfl,hlt,p'⟩,fun x H' y=>?_⟩
  obtain⟨T,u,v,rfl,hT,rfl,y1,y2⟩:=y
  exact hs i u v σ H T (y1 xs q1) (y2 ys q2) p hT
 .have e:i=min xs.length ys.length:=Om
  subst e
  exact .inl ⟨⟨xs,ys,q1,q2,Om⟩,hd σ H p⟩
theorem Zx{J:It}{n:Nat}{τ0:St}{g:TG}{tt:TT}{te:TE}{H:Hp}{Q:Addr->Hp->Prop}{D:Addr}(Pv:Nat->St->List V->Hp->Prop)
  (h0:Pv 0 τ0 [] (upd H D (.lst []))) (hD:∀i τ ys H,i<=n->Pv i τ ys H->H D=some (.lst ys)/\ys.length<sizeLine) (go:∀i τ ys H,i<n->Pv i τ ys H->J.go i H) (stop:∀τ ys H,Pv n τ ys H->J.stop n H)
  (hs:∀i τ ys H x H',i<n->Pv i τ ys H->J.yld i H x H'->g x τ H' fun σ2 H2=>tt σ2 H2 fun ok H3=>if ok=true then te σ2 H3 fun v H4=>H4 D=some (.lst ys)/\Pv (i+1) σ2 (ys++[v]) (upd H4 D (.lst (ys++[v])))else Pv (i+1) σ2 ys H3)
  (hd:∀τ ys H,Pv n τ ys H->Q D H) :
  LcW J D τ0 H g tt te Q:=by
 refine⟨fun i m τ ys H=>m=n-i/\i<=n/\Pv i τ ys H,⟨n,by simp,wY _,h0⟩,?_⟩
 rintro i m τ ys H ⟨rfl,hi,p⟩
 obtain⟨z1,z2⟩:=hD i τ ys H hi p
 refine⟨z1,?_⟩
 by_cases hlt:i<n
 .refine .inr ⟨go i τ ys H hlt p,z2,fun τ v H=>Pv (i+1) τ (ys++[v]) (upd H D (.lst (ys++[v]))),fun τ H=>Pv (i+1) τ ys H,fun τ v H q=>⟨n-(i+1),Om,rfl,hlt,q⟩,fun τ H q=>⟨n-(i+1),Om,rfl,hlt,q⟩,fun x H' y=>hs i τ ys H x H' hlt p y⟩
 .have e:i=n:=Om
  subst e
  exact .inl ⟨stop τ ys H p,hd τ ys H p⟩
theorem Vals.of_get:∀{xs:List V} {us:List Value},xs.length=us.length->(∀(i:Nat) x u,xs[i]?=some x->us[i]?=some u->RelV x u)->Vals xs us
 |[],[],_,_=>.nil
 |x::xs,u::us,hl,h=>.cons (h 0 x u rfl rfl) (Vals.of_get (by simpa using hl) fun i y v e1 e2=>h (i+1) y v (by simpa using e1) (by simpa using e2))
 |[],_::_,hl,_=>by simp at hl
 |_::_,[],hl,_=>by simp at hl
section
variable{X:Cx}
def insV(xs:List V)(k:Nat)(y:V):List V:=xs.take k++y::xs.drop k
theorem Vals.ins{xs:List V}{us:List Value}{y:V}{u:Value}(r:Vals xs us)(ry:RelV y u)(k:Nat):Vals (insV xs k y) (us.take k++u::us.drop k) :=
 (Vals.take k r).append (.cons ry (Vals.drop k r))
theorem Qlb:MtM X "list.insert" (fun x vs H Q=>∃l xs k y,x=.ref l/\vs=[.int k,y]/\H l=some (.lst xs)/\0<=k/\k<=(xs.length:Int)/\xs.length<sizeLine/\Q .non (upd H l (.lst (insV xs k.toNat y)))):=by
 intro pins s σ H x vs v us Q I rx rv h
 obtain⟨l,xs,k,y,rfl,rfl,hH,h0,h1,hz,q⟩:=h
 cases rx
 obtain⟨u1,u2,rfl,⟨t,rfl⟩,ru⟩:=rv.two
 obtain⟨z,its,n,r,hl,e⟩:=I.lstM hH
 have fit:¬(!Builtin.List.listFitsIndex k)=true:=by
  have:Builtin.List.listFitsIndex k=true:=by
   unfold Builtin.List.listFitsIndex
   have:(sizeLine:Nat)=16777216:=Dc
   simp only[jKa,decide_eq_true_eq]
   constructor<;>lia
  rw[this];simp
 refine call_meets F.slot_list_insert ⟨_,e,rfl⟩ F.entry_list_insert (F.args_list_insert_3 _ _ _) (PySem.AutoListH.list_insert_list_int_val_1 l its.toArray n k t u2 fit (by rw[kJ];lia)) ⟨e,?_⟩
 refine⟨.non,_,I.lset (its':=its.take k.toNat++u2::its.drop k.toNat) hH e ?_ (Vals.ins r ru k.toNat) ?_,rfl,q⟩
 .have e1:(if k<0 then(k+((its.toArray.size:Nat):Int)).toNat else min k.toNat its.toArray.size)=k.toNat:=by
   rw[if_neg Om,kJ];lia
  simp only[e1]
  apply Array.toList_inj.mp
  simp
  rw[jKc (by simp)]
 .unfold insV
  rw[yV,yW,wZ,kZe]
  lia
theorem Qpa:MtM X "list.index" (fun x vs H Q=>∃(l:Addr) (ns:List Int) (k:Int) (j:Nat),x=.ref l/\vs=[.int k]/\SqL X.K H l (ns.map V.int)/\ns[j]?=some k/\(∀m,m<j->ns[m]?≠some k)/\Q (.int j) H):=by
 intro pins s σ H x vs v us Q I rx rv h
 obtain⟨l,ns,k,j,rfl,rfl,hq,hj,hno,q⟩:=h
 cases rx
 obtain⟨u,rfl,t,rfl⟩:=rv.one
 obtain⟨its,r,⟨o,n,e,c,d,sl⟩,hz⟩:=I.list hq
 have hl:=r.length
 rw[jX]at hl hz
 have hjl:j<ns.length:=(jK.mp hj).1
 have vat:∀(m:Nat) (hm:m<its.toArray.size),∃i t',its.toArray[m]=Value.int i t'/\ns[m]?=some i:=fun m hm=>by
  rw[kJ]at hm
  have hm':m<ns.length:=Om
  obtain⟨u,e1,t',e2⟩:=r.get (i:=m) (x:=.int ns[m]) (by rw[jV,gE hm'];rfl)
  rw[gE hm]at e1
  refine⟨ns[m],t',?_,gE hm'⟩
  have:its[m]=u:=Option.some.inj e1
  simp[this,e2]
 obtain⟨cls,dd,data,sls⟩:=o
 simp only at c d sl
 subst c
 have hz':(sizeLine:Nat)=16777216:=Dc
 have hjs:(j:Int)<2 ^ 63-1:=Om
 have fin:=PySem.SeqAt.list_indexAt l its.toArray n dd sls (.int k t) (fun v=>match v with | .int i _=>i == k | _=>false) j (by rw[kJ];lia) hjs
  (by obtain⟨i,t',e1,e2⟩:=vat j (by rw[kJ];lia);rw[e1];rw[hj]at e2;cases e2;simp)
  (fun m hm hmj=>by obtain⟨i,t',e1,e2⟩:=vat m hm;rw[e1];have:=hno m hmj;rw[e2]at this;simpa using fun z=>this (congrArg some z))
 refine call_meets F.slot_list_index ⟨_,e,rfl⟩ F.entry_list_index (F.args_list_index_2 _ _) fin ⟨by rw[e,sl],fun y hy=>?_,?_⟩
 .obtain⟨m,hm,rfl⟩:=Array.getElem_of_mem hy
  obtain⟨i,t',e1,e2⟩:=vat m hm
  rw[e1]
  exact PySem.SeqAt.EqAt.int_int i t' k t
 .exact⟨.int j,H,I.tok _,⟨_,rfl⟩,q⟩
theorem Qgu{e:Expr}{ta:TA}{p pos:Pos}(hm:X.mg "range"=none)(ha:PA X [e] ta)(hg:autoParam (Gl X "range") L2.aRfl._auto_1)(hs:autoParam (starEach [e] X.env=[(false,eval e X.env)]) L2.aRfl._auto_1) :
  PE X (.Call (.Name "range" p) [e] [] pos) (fun σ H Q=>ta σ H fun vs H1=>∃n:Int,vs=[.int n]/\∀r,H1 r=none->Q (.ref r) (upd H1 r (.rng 0 n))):=by
 intro pins s σ H Q I h
 refine Call_ (Jt I hg hm boot_range (PyProof.Rows.callWith_type1 (thn (ha pos pins s σ H _ I h) fun us s1 hqP=>?_) hs rfl))
 obtain⟨vs,H1,I1,r1,q1⟩:=hqP
 obtain⟨n,e,q⟩:=q1
 subst e
 obtain⟨u,rfl,t,rfl⟩:=r1.one
 refine call_range_1 ⟨.ref s1.heap.objs.size,upd H1 s1.heap.objs.size (.rng 0 n),I1.laid (fun b u e=>jZ _ e) (jW _) ⟨_,_,_,kX _ rfl⟩,rfl,q _ (I1.hok.fresh (jW _))⟩
theorem Kg(hc:X.calm=true):Yc X (.type "list") (fun xs H Q=>∃(r:Addr) (n:Int),xs=[.ref r]/\H r=some (.rng 0 n)/\0<=n/\n<=1000000/\∀l,H l=none->Q (.ref l) (upd H l (.lst ((List.range n.toNat).map fun i=>V.int (i:Nat))))):=by
 intro pins s σ H xs us Q I rv h
 obtain⟨r,n,rfl,hr,h0,h1,q⟩:=h
 obtain⟨u,rfl,ru⟩:=rv.one
 cases ru
 obtain⟨t,u,v,e⟩:=I.hok r _ hr
 have hz:(sizeLine:Nat)=16777216:=Dc
 refine call_list_range (n:=n.toNat) (I.ok.hd hc) e (small_one Om Om Om Om) (by rw[rangeSize_one];split<;>lia) Om fun h' tk acc' c' hk hS hI=>?_
 refine⟨.ref s.heap.objs.size,upd H s.heap.objs.size (.lst ((List.range n.toNat).map fun i=>V.int (i:Nat))),I.laid hk (jW _) ?_,rfl,q _ (I.hok.fresh (jW _))⟩
 refine⟨by rw[jX,kQ];lia,acc'.toList,c',Vals.of_get (by rw[jX,kQ,zX,hI.1]) fun i x u e1 e2=>?_,by simpa using hS⟩
 obtain⟨t',rfl⟩:=hI.2 i u (by simpa using e2)
 rw[jV]at e1
 obtain⟨j,ej,rfl⟩:=zV.mp e1
 have hj:=jK.mp ej
 obtain⟨hj1,hj2⟩:=hj
 rw[kXf]at hj2
 subst hj2
 exact⟨t',by simp⟩
theorem Kh{K:Fg}(hK:X.K=K):IxR X (rIxL K):=by subst hK;exact Xn
theorem Zr{K:Fg}(hK:X.K=K):IxR X (rIxT K):=by subst hK;exact Qy
theorem Qlc{K:Fg}(hK:X.K=K):MtM X "list.index" (fun x vs H Q=>∃(l:Addr) (ns:List Int) (k:Int) (j:Nat),x=.ref l/\vs=[.int k]/\SqL K H l (ns.map V.int)/\ns[j]?=some k/\(∀m,m<j->ns[m]?≠some k)/\Q (.int j) H):=by subst hK;exact Qpa
theorem Qbi{K:Fg}(hK:X.K=K):Yc X (.builtin "len") (fun xs H Q=>∃p ys,xs=[.ref p]/\(SqL K H p ys\/SqT K H p ys)/\Q (.int ys.length) H):=by subst hK;exact Xa
theorem Qbj{K:Fg}(hK:X.K=K):Yc X (.type "list") (fun xs H Q=>∃p ys,xs=[.ref p]/\(SqL K H p ys\/SqT K H p ys)/\∀l,H l=none->Q (.ref l) (upd H l (.lst ys))):=by subst hK;exact Yo
theorem Qai{K:Fg}(hK:X.K=K):Yc X (.type "tuple") (fun xs H Q=>∃p ys,xs=[.ref p]/\((SqL K H p ys/\∀l,H l=none->Q (.ref l) (upd H l (.tup ys)))\/(SqT K H p ys/\Q (.ref p) H))):=by subst hK;exact Xd
theorem pe_bmK{K:Fg}{o e:Expr}{es:List Expr}{to:TE}{t:TA}{name:Str}{apos cpos:Pos}{T id:String}{r:V->List V->Hp->VK->Prop}(hK:X.K=K)(pa:PlainAttrs T)(slot:Slot T name id)(hty:typeOf (.builtin id)=pure (.type "method_descriptor"))(hm:MtR X id r)(ho:PE X o to)(ha:PA X (e::es) t)
  (hbase:autoParam (attributeBase o name X.env (eval o X.env)=eval o X.env) L2.aRfl._auto_1)
  (hfew:autoParam (((backTo cpos (starEach (e::es) X.env)).all (fun x=>!x.1)&&(backToKw cpos (keywordEach [] X.env)).all (fun x=>x.1.isSome)&&decide ((e::es).length+([]:List Keyword).length+(if ([]:List Keyword).isEmpty then 0 else 1)<30))=true) L2.aRfl._auto_1)
  (hline:autoParam ((apos.endLine == cpos.line)=true) L2.aRfl._auto_1) (hs:autoParam (starEach (e::es) X.env=(false,eval e X.env)::starEach es X.env) L2.aRfl._auto_1) (hplain:autoParam ((backTo cpos (starEach es X.env)).any (·.1)=false) L2.aRfl._auto_1) :
  PE X (.Call (.Attribute o name apos) (e::es) [] cpos) (tBM K T r to t):=by subst hK;exact Vm pa slot hty hm ho ha hbase hfew hline hs hplain
end
section
variable{κ:Type}[DecidableEq κ]
def valV(kvs:List (κ×V))(k:κ):Option V:=(kvs.find? fun kv=>decide (kv.1=k)).map (·.2)
def putK(kvs:List (κ×V))(k:κ)(v:V):List (κ×V) :=
 if (kvs.any fun kv=>decide (kv.1=k))=true then kvs.map (fun kv=>if kv.1=k then(kv.1,v)else kv)else kvs++[(k,v)]
theorem Xv{p:κ×V}{r:List (κ×V)}{k:κ}(e:p.1=k):valV (p::r) k=some p.2:=by simp[valV,kYf,e]
theorem Xw{p:κ×V}{r:List (κ×V)}{k:κ}(e:¬p.1=k):valV (p::r) k=valV r k:=by simp[valV,kYf,e]
theorem Ki(k:κ):∀kvs:List (κ×V),(kvs.any fun kv=>decide (kv.1=k))=(valV kvs k).isSome
 |[]=>rfl
 |p::r=>by
  rw[List.any_cons]
  by_cases e:p.1=k
  .simp only[Xv e,xW e,Bool.true_or,Option.isSome_some]
  .rw[Xw e,wQ e,Bool.false_or];exact Ki k r
theorem Qgv(k j:κ)(y:V):∀kvs:List (κ×V),valV (kvs.map fun kv=>if kv.1=k then(kv.1,y)else kv) j=(valV kvs j).map fun x=>if j=k then y else x
 |[]=>rfl
 |p::r=>by
  have ih:=Qgv k j y r
  rw[zW]
  by_cases h:p.1=k
  .rw[if_pos h]
   by_cases e:p.1=j
   .rw[Xv (p:=(p.1,y)) e,Xv e,zQe,if_pos (e.symm.trans h)]
   .rw[Xw (p:=(p.1,y)) e,Xw e,ih]
  .rw[if_neg h]
   by_cases e:p.1=j
   .rw[Xv (p:=p) e,Xv e,zQe,if_neg (fun z=>h (e.trans z))]
   .rw[Xw (p:=p) e,Xw e,ih]
theorem Qda(k j:κ)(y:V):∀kvs:List (κ×V),valV kvs k=none->valV (kvs++[(k,y)]) j=if j=k then some y else valV kvs j
 |[],_=>by
  by_cases e:k=j
  .rw[if_pos e.symm];exact Xv (p:=(k,y)) e
  .rw[if_neg (fun z=>e z.symm)];exact Xw (p:=(k,y)) e
 |p::r,hn=>by
  rw[yYe]
  have hk:¬p.1=k:=fun z=>by rw[Xv z]at hn;cases hn
  rw[Xw hk]at hn
  have ih:=Qda k j y r hn
  by_cases e:p.1=j
  .rw[Xv e,Xv e,if_neg (fun z=>hk (e.trans z))]
  .rw[Xw e,Xw e,ih]
theorem Qgw(kvs:List (κ×V))(k j:κ)(y:V):valV (putK kvs k y) j=if j=k then some y else valV kvs j:=by
 unfold putK
 by_cases a:(kvs.any fun kv=>decide (kv.1=k))=true
 .rw[if_pos a,Qgv]
  rw[Ki]at a
  by_cases e:j=k
  .obtain⟨x,hx⟩:=yQd.mp a
   rw[if_pos e,e,hx,zQe,if_pos rfl]
  .rw[if_neg e]
   cases valV kvs j with
   |none=>rfl
   |some x=>rw[zQe,if_neg e]
 .rw[if_neg a]
  refine Qda k j y kvs ?_
  rw[Ki]at a
  cases q:valV kvs k with
  |none=>rfl
  |some x=>rw[q]at a;exact(a rfl).elim
theorem Zd(kvs:List (κ×V))(k:κ)(v:V):(putK kvs k v).length<=kvs.length+1:=by
 unfold putK
 split
 .rw[jX];lia
 .rw[yV,yW,List.length_nil];lia
theorem RelO.isSome_eq{o:Option V}{u:Option Value}(r:RelO o u):o.isSome=u.isSome:=by
 cases o with
 |none=>cases u with
  |none=>rfl
  |some _=>exact(show False from r).elim
 |some _=>cases u with
  |none=>exact(show False from r).elim
  |some _=>rfl
theorem RelO.getD{o:Option V}{u:Option Value}{d:V}{d':Value}(r:RelO o u)(rd:RelV d d'):RelV (o.getD d) (u.getD d'):=by
 cases o with
 |none=>cases u with
  |none=>exact rd
  |some _=>exact(show False from r).elim
 |some _=>cases u with
  |none=>exact(show False from r).elim
  |some _=>exact r
theorem KV.val{kvs:List (κ×V)}{vs:List (κ×Value)}(r:KV kvs vs)(k:κ):RelO (valV kvs k) (valueAt vs k):=by
 unfold KV at r
 induction r with
 |nil=>exact True.intro
 |@cons p q ps qs h t ih=>
  obtain⟨h1,h2⟩:=h
  by_cases e:p.1=k
  .have e':q.1=k:=h1.symm.trans e
   have b:valueAt (q::qs) k=some q.2:=by simp[valueAt,kYf,e']
   rw[Xv e,b];exact h2
  .have e':¬q.1=k:=fun z=>e (h1.trans z)
   have b:valueAt (q::qs) k=valueAt qs k:=by simp[valueAt,kYf,e']
   rw[Xw e,b];exact ih
theorem KV.any{kvs:List (κ×V)}{vs:List (κ×Value)}(r:KV kvs vs)(k:κ):(kvs.any fun kv=>decide (kv.1=k))=vs.any fun kv=>decide (kv.1=k):=by
 unfold KV at r
 induction r with
 |nil=>rfl
 |cons h t ih=>rw[List.any_cons,List.any_cons,ih,h.1]
theorem KV.repl{kvs:List (κ×V)}{vs:List (κ×Value)}(r:KV kvs vs)(k:κ){y:V}{u:Value}(ry:RelV y u) :
  KV (kvs.map fun kv=>if kv.1=k then(kv.1,y)else kv) (vs.map fun kv=>if kv.1=k then(kv.1,u)else kv):=by
 unfold KV at r⊢
 induction r with
 |nil=>exact .nil
 |@cons p q ps qs h t ih=>
  rw[zW,zW]
  refine .cons ?_ ih
  obtain⟨h1,h2⟩:=h
  by_cases e:p.1=k
  .rw[if_pos e,if_pos (h1.symm.trans e)];exact⟨h1,ry⟩
  .rw[if_neg e,if_neg (fun z=>e (h1.trans z))];exact⟨h1,h2⟩
theorem KV.put{kvs:List (κ×V)}{vs:List (κ×Value)}(r:KV kvs vs)(k:κ){y:V}{u:Value}(ry:RelV y u):KV (putK kvs k y) (stored vs k u):=by
 unfold putK stored
 rw[r.any k]
 by_cases e:(vs.any fun kv=>decide (kv.1=k))=true
 .rw[if_pos e,if_pos e];exact r.repl k ry
 .rw[if_neg e,if_neg e];exact Paired.snoc r ⟨rfl,ry⟩
theorem KV.length{kvs:List (κ×V)}{vs:List (κ×Value)}(r:KV kvs vs):kvs.length=vs.length:=Paired.length r
end
theorem Qpb{P:Program}{w:World}{k:Key}{u:Value}(r:RelV (kV k) u):(Xx P w).is k u=true:=by
 cases k with
 |inl i=>obtain⟨t,e⟩:=(show ∃t,u=Value.int i t from r);subst e;exact Qes P w i t
 |inr x=>obtain⟨t,e⟩:=(show ∃t,u=Value.str x t from r);subst e;exact Qet P w x t
theorem Qdb{P:Program}{w:World}:∀{ks:List Key} {us:List Value},Vals (ks.map kV) us->ItemsAre (Xx P w) ks us
 |[],_,r=>by rw[yZf]at r;cases r;exact .nil
 |k::ks,_,r=>by
  rw[zW]at r
  cases r with
  |cons h t=>exact .cons (Qpb h) (Qdb t)
abbrev KT(H:Hp):List (List Key×V)->List (List Key×Addr×Value)->Prop:=Paired fun p q=>p.1=q.1/\H q.2.1=some (.tup (p.1.map kV))/\RelV p.2 q.2.2
theorem KT.val{H:Hp}{kvs:List (List Key×V)}{xs:List (List Key×Addr×Value)}(r:KT H kvs xs)(k:List Key):RelO (valV kvs k) ((atKey xs k).map (·.2)):=by
 induction r with
 |nil=>exact True.intro
 |@cons p q ps qs h t ih=>
  obtain⟨h1,_,h2⟩:=h
  by_cases e:p.1=k
  .have e':q.1=k:=h1.symm.trans e
   have b:atKey (q::qs) k=some q.2:=by simp[atKey,kYf,e']
   rw[Xv e,b];exact h2
  .have e':¬q.1=k:=fun z=>e (h1.trans z)
   have b:atKey (q::qs) k=atKey qs k:=by simp[atKey,kYf,e']
   rw[Xw e,b];exact ih
theorem KT.repl{H:Hp}{kvs:List (List Key×V)}{xs:List (List Key×Addr×Value)}(r:KT H kvs xs)(k:List Key){y:V}{u:Value}(ry:RelV y u) :
  KT H (kvs.map fun kv=>if kv.1=k then(kv.1,y)else kv) (xs.map (putAt k u)):=by
 induction r with
 |nil=>exact .nil
 |@cons p q ps qs h t ih=>
  rw[zW,zW]
  refine .cons ?_ ih
  obtain⟨h1,h2,h3⟩:=h
  unfold putAt
  by_cases e:p.1=k
  .rw[if_pos e,if_pos (h1.symm.trans e)];exact⟨h1,h2,ry⟩
  .rw[if_neg e,if_neg (fun z=>e (h1.trans z))];exact⟨h1,h2,h3⟩
theorem KT.put{H:Hp}{kvs:List (List Key×V)}{xs:List (List Key×Addr×Value)}(r:KT H kvs xs)(k:List Key){b:Addr}{y:V}{u:Value}(hb:H b=some (.tup (k.map kV)))(ry:RelV y u) :
  KT H (putK kvs k y) (storedH xs k b u):=by
 have e:(kvs.any fun kv=>decide (kv.1=k))=(atKey xs k).isSome:=by
  rw[Ki,(r.val k).isSome_eq,Option.isSome_map]
 unfold putK storedH
 rw[e]
 by_cases q:(atKey xs k).isSome=true
 .rw[if_pos q,if_pos q];exact r.repl k ry
 .rw[if_neg q,if_neg q];exact Paired.snoc r ⟨rfl,hb,ry⟩
theorem KT.keeps{H H':Hp}{kvs:List (List Key×V)}{xs:List (List Key×Addr×Value)}(r:KT H kvs xs)(ht:∀b ys,H b=some (.tup ys)->H' b=some (.tup ys)):KT H' kvs xs :=
 Paired.mapP r fun _ _ z=>⟨z.1,ht _ _ z.2.1,z.2.2⟩
section
variable{P:Program}{w:World}{H:Hp}{h:Heap}{a:Addr}
theorem rd_of{u:HO}(ok:HOk P w H h)(e:Rd H a u):ObjOk P w H h a u:=e.ok ok
theorem Qld{kvs:List (Key×V)}(ok:HOk P w H h)(e:Rd H a (.dK kvs)):kvs.length<=sizeLine/\(a == sysModules)=false/\∃vs,KV kvs vs/\h.DictOf (Xx P w) a vs :=
 show ObjOk P w H h a (.dK kvs)from rd_of ok e
theorem dk_of{kvs:List (Key×V)}(ok:HOk P w H h)(e:H a=some (.dK kvs)):kvs.length<=sizeLine/\(a == sysModules)=false/\∃vs,KV kvs vs/\h.DictOf (Xx P w) a vs:=Qld ok (.inl e)
theorem Qgx{ks:List Key}(ok:HOk P w H h)(e:H a=some (.tup (ks.map kV))):(tupleKind (Xx P w)).is h ks a:=by
 obtain⟨_,its,r,o,h1,h2,n,h3⟩:=(show ObjOk P w H h a (.tup (ks.map kV))from ok a _ e)
 exact⟨o,its.toArray,n,h1,h2,h3,by simpa using Qdb r⟩
theorem Qle{kvs:List (List Key×V)}(ok:HOk P w H h)(e:Rd H a (.dT kvs)):kvs.length<=sizeLine/\(a == sysModules)=false /\
  ∃xs,KT H kvs xs/\h.DictOfH (tupleKind (Xx P w)) a xs:=by
 obtain⟨z,y,xs,r,o,es,ep,h1,h2,h3,h4,h5⟩:=(show ObjOk P w H h a (.dT kvs)from rd_of ok e)
 refine⟨z,y,xs,r,o,es,ep,h1,h2,h3,h4,fun x hx=>?_,h5⟩
 have all:∀{l:List (List Key×V)} {m:List (List Key×Addr×Value)},KT H l m->∀x∈m,(tupleKind (Xx P w)).is h x.1 x.2.1:=by
  intro l m q
  induction q with
  |nil=>intro x hx;exact nomatch hx
  |@cons p q ps qs hq t ih=>
   intro x hx
   rcases yY.mp hx with e | hx
   .subst e
    exact Qgx ok (by rw[<-hq.1];exact hq.2.1)
   .exact ih x hx
 exact all r x hx
theorem dt_of{kvs:List (List Key×V)}(ok:HOk P w H h)(e:H a=some (.dT kvs)):kvs.length<=sizeLine/\(a == sysModules)=false /\
  ∃xs,KT H kvs xs/\h.DictOfH (tupleKind (Xx P w)) a xs:=Qle ok (.inl e)
end
def DGet(H:Hp)(a:Addr)(y:V)(r:Option V):Prop :=
 (∃kvs k,Rd H a (.dK kvs)/\y=kV k/\r=valV kvs k)\/∃kvs k b,Rd H a (.dT kvs)/\y=.ref b/\H b=some (.tup (k.map kV))/\r=valV kvs k
def DPut(H:Hp)(a:Addr)(y v:V)(H':Hp):Prop :=
 (∃kvs k,H a=some (.dK kvs)/\y=kV k/\kvs.length<sizeLine/\H'=upd H a (.dK (putK kvs k v))) \/
 ∃kvs k b,H a=some (.dT kvs)/\y=.ref b/\H b=some (.tup (k.map kV))/\kvs.length<sizeLine/\H'=upd H a (.dT (putK kvs k v))
theorem DPut.k{H:Hp}{a:Addr}{kvs:List (Key×V)}{k:Key}{v:V}(e:H a=some (.dK kvs))(hl:kvs.length<sizeLine):DPut H a (kV k) v (upd H a (.dK (putK kvs k v))):=.inl ⟨kvs,k,e,rfl,hl,rfl⟩
section
variable{X:Cx}{pins:List (Addr×Obj)}{σ:St}{H:Hp}{s:Shared}{a:Addr}{y v:V}{u r:Value}{o:Option V}{A:Around}{E:Value->Shared->Prop}
theorem Inv.big(I:Inv X pins σ H s):sysModules<s.heap.objs.size:=by
 have h:mainGlobals<s.heap.objs.size:=(I.mod.glob.keeps I.bk).lt
 exact Nat.lt_trans Dc h
theorem Qlf{Q:Value->Shared->Prop}(hu:A.units+1<cLine)(I:Inv X pins σ H s)(g:DGet H a y (some v))(ry:RelV y u)(h:∀w' s',Inv X pins σ H s'->RelV v w'->Q w' s') :
  wpAny (model X.prog X.w) A (getItem (.ref a) u) Q E s:=by
 rcases g with⟨kvs,k,e,ey,l⟩ | ⟨kvs,k,b,e,ey,eb,l⟩
 .subst ey
  obtain⟨z,hd,vs,rel,dd⟩:=Qld I.hok e
  obtain⟨w',hw,rw'⟩:=RelO.some_of (v:=v) (o:=valueAt vs k) (by rw[l];exact rel.val k)
  exact wpAny_getItem_of (Qpb ry) dd.mapOf hw (h w' _ (I.tok _) rw')
 .subst ey
  cases(show u=Value.ref b from ry)
  obtain⟨z,hd,xs,rel,dd⟩:=Qle I.hok e
  obtain⟨w',hw,rw'⟩:=RelO.some_of (v:=v) (o:=(atKey xs k).map (·.2)) (by rw[l];exact rel.val k)
  obtain⟨p,hp,hp2⟩:=zV.mp hw
  refine wpAny_getItem_heap (tupleKind_room_in1 hu) (Qgx I.hok eb) dd hp ?_
  rw[hp2]
  exact h w' _ (I.tok _) rw'
theorem Qfb{h':Heap}{t':Nat}{ob:HO}(I:Inv X pins σ H s)(mu:Mut (H a))(hs:Heap.SameBut a s.heap h')(he:∃q,h'.get? a=some q)(new:ObjOk X.prog X.w (upd H a ob) h' a ob) :
  Inv X pins σ (upd H a ob) { s with heap:=h',toks:=t' } :=
 I.write (x:=a) (e:=a) mu (.inl rfl) (fun b q hb z=>(hs.2 b hb).trans z) he new
theorem dk_new{P:Program}{w:World}{H':Hp}{h':Heap}{kvs:List (Key×V)}{vs:List (Key×Value)}(z:kvs.length<=sizeLine)(hd:(a == sysModules)=false)(rel:KV kvs vs)(dd:h'.DictOf (Xx P w) a vs) :
  ObjOk P w H' h' a (.dK kvs):=⟨z,hd,vs,rel,dd⟩
theorem Qlg{H':Hp}{Q:Unit->Shared->Prop}(hu:A.units+1<cLine)(I:Inv X pins σ H s)(g:DPut H a y v H')(ry:RelV y u)(rv:RelV v r)(h:∀s',Inv X pins σ H' s'->Q () s') :
  wpAny (model X.prog X.w) A (setItem (.ref a) u r) Q E s:=by
 rcases g with⟨kvs,k,e,ey,l,eH⟩ | ⟨kvs,k,b,e,ey,eb,l,eH⟩
 .subst ey eH
  obtain⟨z,hd,vs,rel,dd⟩:=dk_of I.hok e
  have hz:vs.length<=sizeLine:=by rw[<-rel.length];exact z
  have hl:(putK kvs k v).length<=sizeLine:=by have:=Zd kvs k v;lia
  refine wpAny_setItem_pairs (hsz:=hz) (Qpb ry) dd fun h' dd' hs=>h _ ?_
  have he:∃q,h'.get? a=some q:=let ⟨q,_,_,hq,_⟩:=dd';⟨q,hq⟩
  exact Qfb I (by rw[e];exact True.intro) hs he (dk_new hl hd (rel.put k rv) dd')
 .subst ey eH
  cases(show u=Value.ref b from ry)
  obtain⟨z,hd,xs,rel,dd⟩:=dt_of I.hok e
  have hz:xs.length<=sizeLine:=by rw[<-Paired.length rel];exact z
  have hl:(putK kvs k v).length<=sizeLine:=by have:=Zd kvs k v;lia
  refine wpAny_setItem_heap (hsz:=hz) (tupleKind_room_in1 hu) (Qgx I.hok eb) dd fun h' dd' hs=>h _ ?_
  obtain⟨q,es,ep,hq,h2,h3,h4,_,h5⟩:=dd'
  refine Qfb I (by rw[e];exact True.intro) hs ⟨q,hq⟩ ⟨hl,hd,_,(rel.put k eb rv).keeps fun c ys ec=>?_,q,es,ep,hq,h2,h3,h4,h5⟩
  rw[Qk (Qjs ec e (fun z=>nomatch z))]
  exact ec
end
def NoSl(i:Expr):Prop:=∀ov iv,subscripted i false ov iv=operate [ov,iv] (getItem ov iv)
theorem Qfc{prog:Program}{w:World}{A:Around}{E:Value->Shared->Prop}{s:Shared}{env:Env}{value slice:Expr}{pos:Pos}{T id:String}{Q:Value->Shared->Prop}
  (hl:typeLookup (.type T) "__getitem__"=pure (some (.builtin id))) (hs:NoSl slice)
  (h:wpAny (model prog w) A (eval value env) (fun o s₁=>wpAny (model prog w) A (eval slice env) (fun i s₂=>s₂.TypeIs o T/\wpAny (model prog w) A (getItem o i) Q E s₂) E s₁) E s) :
  wpAny (model prog w) A (eval (.Subscript value slice pos) env) Q E s:=by
 refine Subscript_ (wpAny_mono h (fun o s₁ h₁=>wpAny_mono h₁ (fun i s₂ h₂=>?_) fun _ _ x=>x) fun _ _ x=>x)
 obtain⟨hT,h₂⟩:=h₂
 unfold subscriptTail
 refine jQ ?_
 rw[getitemInPython_of_ne hT.not_modules]
 refine jQ (wpAny_specialOf hT hl ?_)
 have fin:wpAny (model prog w) A (subscripted slice false o i) (fun r s₃=>wpAny (model prog w) A (letTemporaryGo value o r >>= fun _=>pure r) Q E s₃) E s₂:=by
  rw[hs o i]
  exact wpAny_operating (wpAny_mono h₂ (fun r s₃ h₃=>jQ (wpAny_letTemporaryGo (jJ h₃))) fun _ _ x=>x)
 first
  |exact jJ (jQ fin)
  |exact jQ (jJ (jQ fin))
  |exact jQ fin
theorem Qfd{X:Cx}{pins:List (Addr×Obj)}{σ:St}{H:Hp}{s:Shared}{a:Addr}{y:V}{o:Option V}(I:Inv X pins σ H s)(g:DGet H a y o):s.TypeIs (.ref a) "dict":=by
 rcases g with⟨kvs,k,e,_,_⟩ | ⟨kvs,k,b,e,_,_,_⟩
 .obtain⟨_,_,vs,_,dd⟩:=Qld I.hok e
  exact dd.typeIs
 .obtain⟨_,_,xs,_,dd⟩:=Qle I.hok e
  exact dd.typeIs
def tDGet(td ty:TE):TE:=fun σ H Q=>td σ H fun x H1=>ty σ H1 fun y H2=>∃a v,x=.ref a/\DGet H2 a y (some v)/\Q v H2
def sDPut(td ty tv:TE):TS:=fun D σ H=>tv σ H fun v H1=>td σ H1 fun x H2=>ty σ H2 fun y H3=>∃a H4,x=.ref a/\DPut H3 a y v H4/\D.nx σ H4
section
variable{X:Cx}{o i value:Expr}{pos pos':Pos}{td ty tv:TE}
theorem Qtc(hu:X.A.units+1<cLine)(ho:PE X o td)(hi:PE X i ty)(hs:NoSl i):PE X (.Subscript o i pos) (tDGet td ty):=by
 intro pins s σ H Q I h
 refine Qfc PySem.F.slot_dict_getitem.lookup hs (thn (ho pins s σ H _ I h) fun u s1 ⟨x,H1,I1,rx,q1⟩=>thn (hi pins s1 σ H1 _ I1 q1) fun iv s2 hqP=>?_)
 obtain⟨y,H2,I2,ry,a,v,ex,g,q2⟩:=hqP
 subst ex
 obtain rfl:u=Value.ref a:=rx
 exact⟨Qfd I2 g,Qlf hu I2 g ry fun w' s3 I3 rw'=>⟨v,H2,I3,rw',q2⟩⟩
theorem Qtd(hu:X.A.units+1<cLine)(ho:PE X o td)(hi:PE X i ty)(hv:PE X value tv)(hs:swapsWith value (some (.Subscript o i pos')) pos.line X.env=pure false) :
  PS X (.Assign [.Subscript o i pos'] value pos) (sDPut td ty tv):=by
 intro pins s σ H D I h
 refine wpAny_Assign_Subscript (thn (hv pins s σ H _ I h) fun r s1 ⟨v,H1,I1,rv,q1⟩=>thn (ho pins s1 σ H1 _ I1 q1) fun u s2 ⟨x,H2,I2,rx,q2⟩=>thn (hi pins s2 σ H2 _ I2 q2) fun iv s3 hqP=>?_) hs
 obtain⟨y,H3,I3,ry,a,H4,ex,g,q3⟩:=hqP
 subst ex
 obtain rfl:u=Value.ref a:=rx
 exact Qlg hu I3 g ry rv fun s4 I4=>⟨σ,H4,I4,q3⟩
end
theorem Qpc{P:Program}{w:World}{H:Hp}(h:Heap)(hb:sysModules<h.objs.size):ObjOk P w H (h.push { cls:=.type "dict",data:=.dict #[] }) h.objs.size (.dK []) :=
 ⟨wY _,beq_eq_false_iff_ne.mpr (Ne.symm (yZ hb)),[],.nil,Heap.DictOf.new h⟩
def tDNewK:TE:=fun _ H Q=>∀p,H p=none->Q (.ref p) (upd H p (.dK []))
section
variable{X:Cx}{pos:Pos}
theorem Qpd:PE X (.Dict [] [] pos) tDNewK:=fun pins s σ H Q I h=>
 wpAny_Dict_empty ⟨.ref s.heap.objs.size,_,I.laid (a:=s.heap.objs.size) (o:=.dK []) (t':=s.toks) (fun _ _ q=>jZ _ q) (jW _) (Qpc s.heap I.big),rfl,h _ (I.hok.fresh (jW _))⟩
end
structure M2(X:Cx)(o:Expr)(m:Str)(apos:Pos)(e f:Expr)(cpos:Pos):Prop where
 base:attributeBase o m X.env (eval o X.env)=eval o X.env
 few:((backTo cpos (starEach [e,f] X.env)).all (fun x=>!x.1)&&(backToKw cpos (keywordEach [] X.env)).all (fun x=>x.1.isSome)
  && decide (([e,f]:List Expr).length+([]:List Keyword).length+(if ([]:List Keyword).isEmpty then 0 else 1)<30))=true
 line:(apos.endLine == cpos.line)=true
 trees:backTo cpos (starEach [e,f] X.env)=[(false,eval e X.env),(false,eval f X.env)]
def IsD(H:Hp)(a:Addr):Prop:=(∃kvs,Rd H a (.dK kvs))\/∃kvs,Rd H a (.dT kvs)
theorem isD_at{X:Cx}{pins:List (Addr×Obj)}{σ:St}{H:Hp}{s:Shared}{a:Addr}(I:Inv X pins σ H s)(d:IsD H a) :
  s.TypeIs (.ref a) "dict"/\(∀b,Value.ref a=.ref b->∃ob,s.heap.get? b=some ob/\ob.dict=none)/\(a == sysModules)=false:=by
 rcases d with⟨kvs,e⟩ | ⟨kvs,e⟩
 .obtain⟨_,hd,vs,_,dd⟩:=Qld I.hok e
  refine⟨dd.typeIs,fun b q=>?_,hd⟩
  cases q
  obtain⟨ob,_,_,h1,h2,_⟩:=dd
  exact⟨ob,h1,h2.2.1⟩
 .obtain⟨_,hd,xs,_,dd⟩:=Qle I.hok e
  refine⟨dd.typeIs,fun b q=>?_,hd⟩
  cases q
  obtain⟨ob,_,_,h1,h2,_⟩:=dd
  exact⟨ob,h1,h2.2.1⟩
section
variable{X:Cx}{pins:List (Addr×Obj)}{σ:St}{H:Hp}{s:Shared}{a:Addr}{y d:V}{u r:Value}{o:Option V}{A:Around}{E:Value->Shared->Prop}
theorem d_get2{Q:Value->Shared->Prop}(hu:A.units+1<cLine)(I:Inv X pins σ H s)(g:DGet H a y o)(ry:RelV y u)(rd:RelV d r)(h:∀w' s',Inv X pins σ H s'->RelV (o.getD d) w'->Q w' s') :
  wpAny (model X.prog X.w) A (call (.builtin "dict.get") [.ref a,u,r]) Q E s:=by
 rcases g with⟨kvs,k,e,ey,l⟩ | ⟨kvs,k,b,e,ey,eb,l⟩
 .subst ey
  obtain⟨z,hd,vs,rel,dd⟩:=Qld I.hok e
  refine call_meetsIn PySem.F.slot_dict_get dd.typeIs PySem.F.entry_dict_get (PySem.F.args_dict_get_3 _ _ _) (meets_dict_get_default (Xx X.prog X.w) a (Qpb ry) hd r) ⟨_,dd.mapOf,h _ _ (I.tok _) ?_⟩
  rw[l]
  exact(rel.val k).getD rd
 .subst ey
  cases(show u=Value.ref b from ry)
  obtain⟨z,hd,xs,rel,dd⟩:=Qle I.hok e
  refine call_meetsIn PySem.F.slot_dict_get dd.typeIs PySem.F.entry_dict_get (PySem.F.args_dict_get_3 _ _ _) (meetsH_dict_get_default (tupleKind (Xx X.prog X.w)) a b hd r) ⟨tupleKind_room_in1 hu,k,xs,Qgx I.hok eb,dd,h _ _ (I.tok _) ?_⟩
  rw[l]
  exact(rel.val k).getD rd
end
def tDGet2(td ty tx:TE):TE:=fun σ H Q=>td σ H fun x H1=>∃a,x=.ref a/\IsD H1 a/\ty σ H1 fun y H2=>tx σ H2 fun z H3=>∃o,DGet H3 a y o/\Q (o.getD z) H3
section
variable{X:Cx}{o e f:Expr}{apos cpos:Pos}{td ty tx:TE}
theorem Qpe(hu:X.A.units+1<cLine)(ho:PE X o td)(he:PE X e ty)(hf:PE X f tx)(m:M2 X o "get" apos e f cpos):PE X (.Call (.Attribute o "get" apos) [e,f] [] cpos) (tDGet2 td ty tx):=by
 intro pins s σ H Q I h
 refine wpAny_Call_method m.base m.few m.line PySem.F.plainAttrs_dict PySem.F.slot_dict_get PySem.F.type_dict_get (thn (ho pins s σ H _ I h) fun u s1 hqP=>?_)
 obtain⟨x,H1,I1,rx,a,ex,d,q1⟩:=hqP
 subst ex
 obtain rfl:u=Value.ref a:=rx
 obtain⟨t1,t2,_⟩:=isD_at I1 d
 refine⟨t1,t2,?_⟩
 rw[m.trees]
 refine Calls.callWith_builtin rfl (Calls.evalArgs_plain (Calls.spliced_cons (thn (he pins s1 σ H1 _ I1 q1) fun iv s2 ⟨y,H2,I2,ry,q2⟩=>
  Calls.spliced_cons (thn (hf pins s2 σ H2 _ I2 q2) fun fv s3 ⟨z,H3,I3,rz,ov,g,q3⟩=>Calls.spliced_nil ?_))))
 exact d_get2 hu I3 g ry rz fun w' s4 I4 rw'=>⟨_,H3,I4,rw',q3⟩
end
end L2
namespace Att
open PySem PySem.W PySem.Calls PyProof.Rows
end Att
namespace L2
open PySem PySem.Spec PyProof.Rows
theorem Qdc:typeLookup (.type "list") "keys"=pure none:=by rw[typeLookup_type,builtinLookup_eq_fast];kernel_rfl
section
variable{prog:Program}{w:World}{A:Around}{E:Value->Shared->Prop}
theorem Qbk{s:Shared}{a:Addr}{xs:Array Value}{k:Nat}{sl:Array (Option Value)}{Q:Option Value->Shared->Prop}(hx:s.heap.get? a=some { cls:=.type "list",dict:=none,data:=.seq xs k,slots:=sl })(hA:A.handled=none)
  (h:∀h' tk,(∀b o,s.heap.get? b=some o->h'.get? b=some o)->Q none { s with heap:=h',toks:=tk }):wpAny (model prog w) A (getAttr? (.ref a) "keys") Q E s:=by
 obtain⟨hp,g,d,tk,os⟩:=s
 have hT:∀tk',(⟨hp,g,d,tk',os⟩:Shared).TypeIs (.ref a) "list":=fun _=>⟨_,hx,rfl⟩
 have f1:=sub_AttributeError
 have f3:=F.slot_list_getattribute.lookup
 have f4:=F.slot_list_getattribute.bind (.ref a)
 have f5:=am_list_getattr_none
 have hname:(["__module__","__name__","__qualname__","__doc__","__annotations__"]:List Str).contains "keys"=false:=Dk
 unfold getAttr? getAttrBy? getAttrBy
 repeat (any_goals (first | assumption | exact hT _ | ((with_reducible show wpAny _ _ (call (Value.builtin "list.__getattribute__") _ _) _ _ _);refine call_meets F.slot_list_getattribute (hT _) am_entry_list_getattribute (F.args_list_getattribute_2 _ _) (meets_getattribute_miss_list a xs k sl "keys" _ Qdc hname Dk) ⟨hx,hA,fun h' tk' e hx'=>?_⟩) | wp_step))
 have hxo:=hx'.of
 obtain⟨⟨cl,dc,da,sl2⟩,vs,he,hc,_,_⟩:=hxo.there
 simp only at hc
 subst hc
 have hE:∀tk2,(⟨h',g,d,tk2,os⟩:Shared).TypeIs (.ref e) "AttributeError":=fun _=>⟨_,he,rfl⟩
 show wpAny _ _ (getattributeRaised _ _ _ _ _ _ _) _ _ _
 unfold getattributeRaised
 repeat (any_goals (first | assumption | exact hE _ | wp_step))
 all_goals exact h _ _ hxo.keeps
end
def Qdd:entryFor table "dict.update.loop"=some Builtin.«dict.update.loop»:=entryFor_of_tree (by kernel_rfl)
theorem Kj:plainId "dict.update.loop"=true:=Dk
section
variable{P:Program}{w:World}{A:Around}{E:Value->Shared->Prop}{s:Shared}{e it l:Addr}{st:Nat->Heap->Prop}{src:List Value->Heap->Prop}{i:Nat}{xs:List Value}{old:Value}
theorem Qbl{x:Value}{Q:Option Value->Shared->Prop}(dr:Drw P w it l st src)(hE:IsEnum s.heap e it i old)(hI:st i s.heap)(hl:src xs s.heap)(hx:xs[i]?=some x)(hne:e≠it)
  (hQ:∀h',IsEnumOut h' e it ((i:Int)+1) x s.heap.objs.size->st (i+1) h'->h'.get? s.heap.objs.size=some { cls:=.type "tuple",data:=.seq #[.int i s.toks,x] } ->
   (∀b o,b≠e->b≠it->s.heap.get? b=some o->h'.get? b=some o)->Q (some (.ref s.heap.objs.size)) { s with heap:=h',toks:=s.toks+1 }):wpAny (model P w) A (pyNext (.ref e)) Q E s:=by
 have hTy:s.TypeIs (.ref e) "enumerate":=⟨_,hE,rfl⟩
 unfold pyNext
 refine jQ (wpAny_attempt (wpAny_callSpecial?_slot (name:=Str.ofString "__next__") hTy F.slot_enumerate_next (wpAny_call_entry F.slot_enumerate_next hTy F.entry_enumerate_next ?_ (F.args_enumerate_next_1 _))))
 obtain⟨hp,g,d,tk,os⟩:=s
 show wpAny _ _ (field (.ref e) 2 >>= _) _ _ _
 refine jQ (wpAny_field hE rfl (x:=.ref it) rfl ?_)
 refine jQ (dr.item _ _ ⟨hp,g,d,tk,os⟩ i xs x _ hI hl hx fun g1 hI1 e1=>?_)
 replace e1:Heap.SameBut it hp g1:=e1
 have hE1:IsEnum g1 e it i old:=(e1.2 e hne).trans hE
 show wpAny _ _ (field (.ref e) 3 >>= _) _ _ ⟨g1,g,d,tk,os⟩
 refine jQ (wpAny_field hE1 rfl (x:=rawInt i) rfl ?_)
 show wpAny _ _ (field (.ref e) 4 >>= _) _ _ ⟨g1,g,d,tk,os⟩
 refine jQ (wpAny_field hE1 rfl (x:=.none) rfl ?_)
 show wpAny _ _ (mkInt i >>= _) _ _ ⟨g1,g,d,tk,os⟩
 refine jQ (wpAny_mkInt ?_)
 show wpAny _ _ (setField (.ref e) 3 (rawInt ((i:Int)+1)) >>= _) _ _ ⟨g1,g,d,tk+1,os⟩
 refine jQ (wpAny_setField_rec hE1 (by simp) fun g2 hE2 e2=>?_)
 replace e2:Heap.SameBut e g1 g2:=e2
 replace hE2:IsEnum g2 e it ((i:Int)+1) old:=hE2
 show wpAny _ _ (setField (.ref e) 4 .none >>= _) _ _ ⟨g2,g,d,tk+1,os⟩
 refine jQ (wpAny_setField_rec hE2 (by simp) fun g3 hE3 e3=>?_)
 replace e3:Heap.SameBut e g2 g3:=e3
 replace hE3:IsEnum g3 e it ((i:Int)+1) old:=hE3
 show wpAny _ _ (newTuple [.int i tk,x] >>= _) _ _ ⟨g3,g,d,tk+1,os⟩
 refine jQ (wpAny_newTuple ?_)
 have hE4:IsEnum (g3.push { cls:=.type "tuple",data:=.seq #[.int i tk,x] }) e it ((i:Int)+1) old:=jZ _ hE3
 generalize hg4:g3.push { cls:=.type "tuple",data:=.seq #[.int i tk,x] }=g4 at hE4
 have hsz:g3.objs.size=hp.objs.size:=by rw[e3.1,e2.1,e1.1]
 have hel:e<hp.objs.size:=kK hE
 have hT4:g4.get? hp.objs.size=some { cls:=.type "tuple",data:=.seq #[.int i tk,x] }:=by rw[<-hg4,<-hsz];exact kX _ rfl
 have hk4:∀b o,b≠e->b≠it->hp.get? b=some o->g4.get? b=some o:=fun b o hbe hbi hb=>by
  rw[<-hg4];exact jZ _ (e3.extBut b o hbe (e2.extBut b o hbe (e1.extBut b o hbi hb)))
 have hI4:st (i+1) g4:=dr.keep _ _ _ hI1 fun q z=>by rw[<-hg4];exact jZ _ (e3.extBut _ _ hne.symm (e2.extBut _ _ hne.symm z))
 show wpAny _ _ (Builtin.SmallTypes.ownedTupleIsFree (.ref e) >>= _) _ _ ⟨g4,g,d,tk+1,os⟩
 rw[hsz]
 clear hg4 hE3 e3 hE2 e2 hE1 e1 hI1 hsz
 refine jQ ?_
 unfold Builtin.SmallTypes.ownedTupleIsFree
 refine jQ (wpAny_field hE4 rfl (x:=.none) rfl (jJ ?_))
 simp only[if_true]
 refine jQ (wpAny_rule (jQ (wpAny_field hE4 rfl (x:=old) rfl (jQ (wpAny_setField_rec hE4 (by simp) fun g5 hE5 e5=>?_)))))
 replace e5:Heap.SameBut e g4 g5:=e5
 replace hE5:IsEnum g5 e it ((i:Int)+1) x:=hE5
 show wpAny _ _ (Builtin.SmallTypes.ownedTupleHandOut (.ref e) (.ref hp.objs.size) >>= _) _ _ ⟨g5,g,d,tk+1,os⟩
 refine jQ ?_
 unfold Builtin.SmallTypes.ownedTupleHandOut
 refine jQ (wpAny_setField_rec hE5 (by simp) fun g6 hE6 e6=>?_)
 replace e6:Heap.SameBut e g5 g6:=e6
 replace hE6:IsEnumOut g6 e it ((i:Int)+1) x hp.objs.size:=hE6
 refine wpAny_setField_rec hE6 (by simp) fun g7 hE7 e7=>?_
 replace e7:Heap.SameBut e g6 g7:=e7
 replace hE7:IsEnumOut g7 e it ((i:Int)+1) x hp.objs.size:=hE7
 have up:∀b o,b≠e->g4.get? b=some o->g7.get? b=some o:=fun b o hb z=>e7.extBut b o hb (e6.extBut b o hb (e5.extBut b o hb z))
 refine jQ (wpAny_letGo (jJ ⟨_,rfl,jJ (hQ g7 hE7 ?_ ?_ ?_)⟩))
 .exact dr.keep _ _ _ hI4 fun q z=>up _ _ hne.symm z
 .exact up _ _ (kJa hel) hT4
 .exact fun b o hbe hbi hb=>up b o hbe (hk4 b o hbe hbi hb)
theorem Qde{Q:Option Value->Shared->Prop}(hh:A.handled=none)(dr:Drw P w it l st src)(hE:IsEnum s.heap e it i old)(hI:st i s.heap)(hl:src xs s.heap)(hx:xs[i]?=none)
  (hQ:∀h',Heap.ExtBut it s.heap h'->Q none { s with heap:=h' }):wpAny (model P w) A (pyNext (.ref e)) Q E s:=by
 have hTy:s.TypeIs (.ref e) "enumerate":=⟨_,hE,rfl⟩
 unfold pyNext
 refine jQ (wpAny_attempt (wpAny_callSpecial?_slot (name:=Str.ofString "__next__") hTy F.slot_enumerate_next (wpAny_call_entry F.slot_enumerate_next hTy F.entry_enumerate_next ?_ (F.args_enumerate_next_1 _))))
 show wpAny _ _ (field (.ref e) 2 >>= _) _ _ _
 refine jQ (wpAny_field hE rfl (x:=.ref it) rfl ?_)
 refine jQ (dr.done _ _ s i xs _ hh hI hl hx fun h' x eb hx'=>?_)
 obtain⟨o,ho,hc⟩:=hx'
 refine jQ (wpAny_isInstance (T:="StopIteration") (b:=true) ⟨o,ho,hc⟩ isSubtype_stop (jJ (hQ _ eb)))
end
theorem Qiq{n:String}{l:Addr}{p:Heap->Prop}(I:Itr0 n l p) :
  Meets (Builtin.«enumerate.__new__» ⟨[.type "enumerate",.ref l],[]⟩) (fun _ R s=>p s.heap/\R (.ok (.ret (.ref (s.heap.push (Js n l)).objs.size))) { s with heap:=(s.heap.push (Js n l)).push { cls:=.type "enumerate",data:=.fields #[.none,.bool false,.ref s.heap.objs.size,rawInt 0,.none,.none] } }) :=
 .of_wp fun prog w A R s h=>by
  obtain⟨hp,g,d,tk,os⟩:=s
  obtain⟨q,h⟩:=h
  have hsub:=sub_enumerate
  have f1:=fun(A:Around) (E:Value->Shared->Prop) (Q:Value->Shared->Prop)=>I.go prog w A E ⟨hp,g,d,tk,os⟩ Q q
  wp_walk
  refine wpAny_stack_any fun stk=>jJ ?_
  split
  .rename_i c _ _ _ _ _
   cases(c == Value.type "enumerate")
   .wp_walk using f1 _ _ _
    exact⟨_,rfl,h⟩
   .wp_walk using f1 _ _ _
    exact⟨_,rfl,h⟩
  .wp_walk using f1 _ _ _
   exact⟨_,rfl,h⟩
def Ite(K:Fg)(m:Bool)(a:Addr):It :=
  ⟨fun i H=>∃xs x,Sq K m H a xs/\xs[i]?=some x,
   fun i H v H'=>∃T x,v=.ref T/\H T=none/\H'=upd H T (.tup [.int (i:Nat),x])/\(∀xs,Sq K m H a xs->xs[i]?=some x),
   fun i H=>∃xs,Sq K m H a xs/\xs.length<=i⟩
def eTn(m:Bool)(e it a:Addr)(i:Nat)(h:Heap):Prop:=(∃old,IsEnum h e it i old)/\itSt m it a i h
theorem Qlh{P:Program}{w:World}{K:Fg}{es:List Expr}{kk:Nat}{tp:Pos}{m:Bool}{e it a:Addr}(hne:e≠it)(hea:a≠e)(hia:a≠it) :
  Turn P w K (.Tuple es kk tp) (Ite K m a) [e,it] e (eTn m e it a) where
 mem:=by simp
 obj:=fun i h st c hc=>by
  obtain⟨⟨old,h1⟩,h2⟩:=st
  simp only[yY,jXe,or_false]at hc
  rcases hc with rfl | rfl
  .exact⟨_,h1,fun v z=>by cases z⟩
  .exact(Xu (P:=P) (w:=w) m c a).obj i h h2
 keep:=fun i h h' st k=>by
  obtain⟨⟨old,h1⟩,h2⟩:=st
  exact⟨⟨old,k e (by simp) _ h1⟩,(Xu (P:=P) (w:=w) m it a).keep i h h' h2 (k it (by simp))⟩
 item:=by
  intro X hP hw hK hc i pins s σ H E I hf st hg
  subst hP hw hK
  obtain⟨xs,x,q1,hx⟩:=hg
  obtain⟨is1,r1,p1,z1⟩:=I.sq q1
  obtain⟨v1,e1,rv1⟩:=r1.get hx
  obtain⟨⟨old,hE⟩,s1⟩:=st
  refine Qbl (Xu m it a) hE s1 p1 e1 hne fun h' a1 a2 a3 a4=>⟨_,rfl,?_⟩
  have kk:∀c q,c∉[e,it]->s.heap.get? c=some q->h'.get? c=some q:=fun c q hc e=>by
   simp only[yY,jXe,or_false,not_or]at hc
   exact a4 c q hc.1 hc.2 e
  have I1:Inv X pins σ (upd H s.heap.objs.size (.tup [.int (i:Nat),x])) { s with heap:=h' }:=I.tupNew (ch:=[e,it]) (its:=[.int i s.toks,v1]) (jW _) (.cons ⟨_,rfl⟩ (.cons rv1 .nil)) (by show 2<=sizeLine;decide) a3 hf kk (fun c hc=>by
   simp only[yY,jXe,or_false]at hc
   rcases hc with rfl | rfl
   .exact⟨_,a1⟩
   .obtain⟨q,z,_⟩:=(Xu (P:=X.prog) (w:=X.w) m c a).obj _ _ a2;exact⟨q,z⟩)
  refine wpAny_letOwnedTupleGo_enum (s:={ s with heap:=h',toks:=s.toks+1 }) a1 fun h2 g1 g2=>?_
  obtain⟨f0,f1,f2,f3,f4,f5⟩:=hf e (by simp)
  have lte:e<s.heap.objs.size:=kK hE
  have I2:Inv X pins σ (upd H s.heap.objs.size (.tup [.int (i:Nat),x])) { s with heap:=h2,toks:=s.toks+1 }:=I1.turned (h':=h2) (t':=s.toks+1) (fun c q hc z=>g2.extBut c q hc z) (by rw[Qk (yZ lte)];exact f0) f1 f3 f4 f5
  refine⟨.ref s.heap.objs.size,_,I2,rfl,⟨_,x,rfl,I.hok.fresh (jW _),rfl,fun xs' hq=>by rw[I.sq_inj hq q1];exact hx⟩,⟨⟨_,by exact_mod_cast g1⟩,(Xu (P:=X.prog) (w:=X.w) m it a).keep _ _ _ a2 fun q z=>g2.extBut _ _ hne.symm z⟩,fun c hc=>?_⟩
  have hlt:c≠s.heap.objs.size:=by
   simp only[yY,jXe,or_false]at hc
   rcases hc with rfl | rfl
   .exact yZ lte
   .obtain⟨q,z,_⟩:=(Xu (P:=X.prog) (w:=X.w) m c a).obj _ _ s1;exact yZ (kK z)
  rw[Qk hlt]
  exact(hf c hc).1
 done:=by
  intro X hP hw hK hc i pins s σ H E I hf st hg
  subst hP hw hK
  obtain⟨xs,q1,hx⟩:=hg
  obtain⟨is1,r1,p1,z1⟩:=I.sq q1
  obtain⟨⟨old,hE⟩,s1⟩:=st
  have l1:=r1.length
  obtain⟨f0,f1,f2,f3,f4,f5⟩:=hf it (by simp)
  exact Qde (I.ok.hd hc) (Xu m it a) hE s1 p1 (kYc.mpr Om) fun h' eb=>⟨rfl,I.turned (t':=s.toks) (fun b o hb z=>eb b o hb z) f0 f1 f3 f4 f5⟩
 self:=fun _ _ _ _ _ st h=>by
  obtain⟨⟨old,h1⟩,_⟩:=st
  exact wpAny_pyIter_enum h1 h
section
variable{X:Cx}
def iEnum(K:Fg)(m:Bool)(ta:TA):TI:=fun σ H R=>ta σ H fun vs H1=>∃a,vs=[.ref a]/\(∃xs,Sq K m H1 a xs)/\R (Ite K m a) H1
theorem Wd{a:Expr}{ta:TA}{p pos tp:Pos}{es:List Expr}{kk:Nat}(m:Bool)(hg:Gl X "enumerate")(hm:X.mg "enumerate"=none)(ha:PA X [a] ta)(hs:autoParam (starEach [a] X.env=[(false,eval a X.env)]) L2.aRfl._auto_1) :
  PI X (.Tuple es kk tp) (.Call (.Name "enumerate" p) [a] [] pos) (iEnum X.K m ta):=by
 intro pins s σ H R I h
 refine Call_ (Jt I hg hm Qcz (PyProof.Rows.callWith_type1 (thn (ha pos pins s σ H _ I h) fun us s1 hqP=>?_) hs rfl))
 obtain⟨vs,H1,I1,r1,q1⟩:=hqP
 obtain⟨l1,e,⟨xs,q1⟩,q⟩:=q1
 subst e
 obtain⟨u1,rfl,e1⟩:=r1.one
 cases e1
 obtain⟨is1,r1,p1,z1⟩:=I1.sq q1
 refine callType_new F.called_enumerate Dc (F.typeCall_enumerate_1 _) (F.newCall_enumerate_1 _) (fun obj=>F.args_object_init_2 obj _) F.entry_enumerate_new (Qiq (Qfa m l1 is1)) ⟨p1,?_⟩
 have z2:(s1.heap.push (Js (itN m) l1)).objs.size=s1.heap.objs.size+1:=jYf ..
 have g2:((s1.heap.push (Js (itN m) l1)).push { cls:=.type "enumerate",data:=.fields #[.none,.bool false,.ref s1.heap.objs.size,rawInt 0,.none,.none] }).get? (s1.heap.push (Js (itN m) l1)).objs.size=some { cls:=.type "enumerate",data:=.fields #[.none,.bool false,.ref s1.heap.objs.size,rawInt 0,.none,.none] }:=kX _ rfl
 have g1:((s1.heap.push (Js (itN m) l1)).push { cls:=.type "enumerate",data:=.fields #[.none,.bool false,.ref s1.heap.objs.size,rawInt 0,.none,.none] }).get? s1.heap.objs.size=some (Js (itN m) l1):=jZ _ (kX _ rfl)
 rw[z2]at g2
 show _/\_
 rw[z2]
 have kp:∀b o,s1.heap.get? b=some o->((s1.heap.push (Js (itN m) l1)).push { cls:=.type "enumerate",data:=.fields #[.none,.bool false,.ref s1.heap.objs.size,rawInt 0,.none,.none] }).get? b=some o:=fun b o z=>jZ _ (jZ _ z)
 generalize (s1.heap.push (Js (itN m) l1)).push { cls:=.type "enumerate",data:=.fields #[.none,.bool false,.ref s1.heap.objs.size,rawInt 0,.none,.none] }=h' at g1 g2 kp
 have I2:Inv X pins σ H1 { s1 with heap:=h' }:=I1.kept (t':=s1.toks) kp
 have ltl:l1<s1.heap.objs.size:=Qbf p1
 refine⟨⟨_,g2,rfl⟩,wpAny_pyIter_enum (s:={ s1 with heap:=h' }) g2 ⟨_,[s1.heap.objs.size+1,s1.heap.objs.size],_,_,H1,rfl,I2,Qlh (m:=m) (a:=l1) (Nat.succ_ne_self _) (yZ (jJa ltl)) (yZ ltl),⟨⟨_,g2⟩,Qbe m g1⟩,fun c hc=>?_,q⟩⟩
 have hle:s1.heap.objs.size<=c:=by
  simp only[yY,jXe,or_false]at hc
  rcases hc with rfl | rfl
  .exact yYc _ _
  .exact jW _
 exact I1.fpOk hle (I1.hok.fresh hle)
end
theorem Qpf{K:Fg}{m:Bool}{a:Addr}{xs:List V}{g:TG}{tb:TS}{D:Ends}{σ:St}{H:Hp}(Pv:Nat->St->Hp->Prop)(h0:Pv 0 σ H)(hl:∀i σ H,i<=xs.length->Pv i σ H->Sq K m H a xs)
  (hs:∀i x σ H T,xs[i]?=some x->Pv i σ H->H T=none->g (.ref T) σ (upd H T (.tup [.int (i:Nat),x])) fun σ2 H2=>tb { D with nx:=Pv (i+1),ct:=Pv (i+1),bk:=D.nx } σ2 H2) (hd:∀σ H,Pv xs.length σ H->D.nx σ H) :
  ∃W:Nat->Nat->St->Hp->Prop,(∃m,W 0 m σ H)/\∀i n σ H,W i n σ H ->
   ((Ite K m a).stop i H/\D.nx σ H)\/((Ite K m a).go i H/\∃N:St->Hp->Prop,(∀σ' H',N σ' H'->∃m',m'<n/\W (i+1) m' σ' H')/\∀x H',(Ite K m a).yld i H x H'->g x σ H' fun σ2 H2=>tb { D with nx:=N,ct:=N,bk:=D.nx } σ2 H2):=by
 refine⟨fun i n σ H=>n=xs.length-i/\i<=xs.length/\Pv i σ H,⟨_,rfl,wY _,h0⟩,?_⟩
 rintro i n σ H ⟨rfl,hi,p⟩
 have q1:=hl i σ H hi p
 by_cases hlt:i<xs.length
 .refine .inr ⟨⟨xs,xs[i],q1,by simp[hlt]⟩,Pv (i+1),fun σ' H' p'=>⟨xs.length-(i+1),Om,rfl,hlt,p'⟩,fun x H' y=>?_⟩
  obtain⟨T,u,rfl,hT,rfl,y1⟩:=y
  exact hs i u σ H T (y1 xs q1) p hT
 .have e:i=xs.length:=Om
  subst e
  exact .inl ⟨⟨xs,q1,jW _⟩,hd σ H p⟩
end L2
namespace L2
open PySem PySem.Spec PySem.Calls PyProof.Rows PySem.W
def Big(i:Int):Prop:=i.natAbs<2 ^ 4000
section
variable{X:Cx}
theorem Qbm:OpR X (binaryOp .FloorDiv) (rI (fun _ j=>j≠0/\Big j) fun i j=>.int (i.fdiv j)):=opI fun i j _ _ _ _ _ hc q=>floordiv_int hc.1 q (.inl (PyProof.noPylong_of_log2 (xK ((Nat.log2_lt (by have:=hc.1;lia)).mpr hc.2) Dc)))
end
end L2
namespace L2
open PySem PySem.W PyProof.Rows
end L2
namespace Nb
open PySem L2
structure Mg(mg:Str->Option Value):Prop where
 len:mg "len"=none
 min:mg "min"=none
 max:mg "max"=none
 sum:mg "sum"=none
 all:mg "all"=none
 any:mg "any"=none
 abs:mg "abs"=none
 isinstance:mg "isinstance"=none
 sorted:mg "sorted"=none
 range_:mg "range"=none
 zip_:mg "zip"=none
 tuple_:mg "tuple"=none
 list_:mg "list"=none
 int_:mg "int"=none
 bool_:mg "bool"=none
 dict_:mg "dict"=none
 enumerate_:mg "enumerate"=none
 reversed_:mg "reversed"=none
 ValueError_:mg "ValueError"=none
 set_:mg "set"=none
 str_:mg "str"=none
theorem atNs{ns:List Int}{k:Int}(h0:0<=k)(h:k<(((ns.map V.int).length:Nat):Int)):∃v:Int,atI (ns.map V.int) k=some (.int v):=by
 have hk:k.toNat<ns.length:=by rw[jX]at h;lia
 have ek:k=((k.toNat:Nat):Int):=Om
 have q:atI (ns.map V.int) ((k.toNat:Nat):Int)=some (.int ns[k.toNat]):=Ky (by rw[jV,gE hk]<;>rfl)
 rw[<-ek]at q
 exact⟨_,q⟩
def Qgy(K:Fg):Sp:=fun vs H Q _=>∃(a:Addr) (ns:List Int) (k:Int),vs=[.ref a,.int k]/\SqL K H a (ns.map V.int)/\0<=k/\∀z:Int,Q (.int z) H
def Qli:Sp:=fun vs H Q _=>∃z:Int,vs=[.int z]/\Q (.bl true) H
theorem Jy{K:Fg}{H:Hp}{D a:Addr}{ys zs xs:List V}(hD:H D=some (.lst ys))(h:SqT K H a xs):SqT K (upd H D (.lst zs)) a xs:=by
 rcases h with(h | ⟨o,h⟩) | h
 .exact .inl (.inl (by rw[Qk (Qjs h hD (by intro z;cases z))];exact h))
 .exact .inl (.inr ⟨o,by rw[Qk (Qjs h hD (by intro z;cases z))];exact h⟩)
 .exact .inr h
def RowAt(K:Fg)(H:Hp)(t:Addr)(r:List Int×Int):Prop:=∃p,SqT K H t [.ref p,.int r.2]/\SqT K H p (r.1.map V.int)
theorem RowAt.same{K:Fg}{H H':Hp}{t:Addr}{r:List Int×Int}(e:Same H H')(h:RowAt K H t r):RowAt K H' t r:=by obtain⟨p,h1,h2⟩:=h;exact⟨p,e.tup h1,e.tup h2⟩
theorem RowAt.upd{K:Fg}{H:Hp}{D t:Addr}{ys zs:List V}{r:List Int×Int}(hD:H D=some (.lst ys))(h:RowAt K H t r):RowAt K (upd H D (.lst zs)) t r:=by obtain⟨p,h1,h2⟩:=h;exact⟨p,Jy hD h1,Jy hD h2⟩
def RowsAre(K:Fg)(H:Hp):List V->List (List Int×Int)->Prop:=Paired fun v r=>∃t,v=.ref t/\RowAt K H t r
theorem RowsAre.imp{K:Fg}{H H':Hp}{vs:List V}{rs:List (List Int×Int)}(f:∀t r,RowAt K H t r->RowAt K H' t r)(h:RowsAre K H vs rs):RowsAre K H' vs rs:=by
 induction h with
 |nil=>exact .nil
 |cons r t ih=>obtain⟨a,e,z⟩:=r;exact .cons ⟨a,e,f _ _ z⟩ ih
theorem RowsAre.snoc{K:Fg}{H:Hp}{vs:List V}{rs:List (List Int×Int)}{t:Addr}{r:List Int×Int}(h:RowsAre K H vs rs)(z:RowAt K H t r):RowsAre K H (vs++[.ref t]) (rs++[r]):=by
 induction h with
 |nil=>exact .cons ⟨t,rfl,z⟩ .nil
 |cons q t ih=>exact .cons q ih
theorem RowsAre.get{K:Fg}{H:Hp}{vs:List V}{rs:List (List Int×Int)}(h:RowsAre K H vs rs):∀{i:Nat} {v:V},vs[i]?=some v->∃t r,v=.ref t/\rs[i]?=some r/\RowAt K H t r:=by
 induction h with
 |nil=>intro i v e;simp at e
 |cons q t ih=>
  intro i v e
  cases i with
  |zero=>obtain⟨a,e1,z⟩:=q;simp at e;subst e;exact⟨a,_,e1,rfl,z⟩
  |succ i=>obtain⟨a,r,e1,e2,z⟩:=ih (i:=i) (v:=v) (by simpa using e);exact⟨a,r,e1,by simpa using e2,z⟩
theorem RowsAre.length{K:Fg}{H:Hp}{vs:List V}{rs:List (List Int×Int)}(h:RowsAre K H vs rs):vs.length=rs.length:=Paired.length h
def ProbAt(K:Fg)(H:Hp)(t:Addr)(rs:List (List Int×Int))(cs:List Int):Prop:=∃l c vs,SqT K H t [.ref l,.ref c]/\SqL K H l vs/\RowsAre K H vs rs/\SqT K H c (cs.map V.int)
theorem ProbAt.same{K:Fg}{H H':Hp}{t:Addr}{rs:List (List Int×Int)}{cs:List Int}(e:Same H H')(h:ProbAt K H t rs cs):ProbAt K H' t rs cs:=by
 obtain⟨l,c,vs,h1,h2,h3,h4⟩:=h;exact⟨l,c,vs,e.tup h1,e.seq h2,h3.imp fun _ _ z=>z.same e,e.tup h4⟩
theorem at0{x y:V}:atI [x,y] 0=some x:=by rfl
theorem at1{x y:V}:atI [x,y] 1=some y:=by rfl
theorem Qbn{α:Type}{l:List α}{i:Nat}{x:α}(h:l[i]?=some x):l.take (i+1)=l.take i++[x]:=by rw[List.take_succ,h];rfl
theorem Ze{ns:List Int}{i:Nat}{v:V}(h:(ns.map V.int)[i]?=some v):∃n,ns[i]?=some n/\v=.int n:=by
 rw[jV]at h
 cases e:ns[i]? with
 |none=>rw[e]at h;cases h
 |some n=>rw[e]at h;exact⟨n,rfl,(Option.some.inj h).symm⟩
def rowD(r:List Int×Int):D:=.tup [.tup (r.1.map .int),.int r.2]
def Qte(rs:List (List Int×Int))(cs:List Int):D:=.tup [.lst (rs.map rowD),.tup (cs.map .int)]
theorem intsD{K:Fg}{H:Hp}{a:Addr}{ns:List Int}(h:SqT K H a (ns.map V.int)):HasD K H (.ref a) (.tup (ns.map .int)):=by
 refine .tup h (by rw[jX,jX]) fun i v x e1 e2=>?_
 obtain⟨n,en,rfl⟩:=Ze e1
 rw[jV,en]at e2
 cases e2
 exact .int n
theorem pairD{K:Fg}{H:Hp}{a:Addr}{v w:V}{d e:D}(h:SqT K H a [v,w])(h1:HasD K H v d)(h2:HasD K H w e):HasD K H (.ref a) (.tup [d,e]):=by
 refine .tup h rfl fun i v x e1 e2=>?_
 match i with
 |0=>simp at e1 e2;subst e1 e2;exact h1
 |1=>simp at e1 e2;subst e1 e2;exact h2
 |i+2=>simp at e1
theorem RowAt.hasD{K:Fg}{H:Hp}{t:Addr}{r:List Int×Int}(h:RowAt K H t r):HasD K H (.ref t) (rowD r):=by
 obtain⟨p,h1,h2⟩:=h
 exact pairD h1 (intsD h2) (.int _)
theorem RowsAre.hasD{K:Fg}{H:Hp}{l:Addr}{vs:List V}{rs:List (List Int×Int)}(hl:SqL K H l vs)(h:RowsAre K H vs rs):HasD K H (.ref l) (.lst (rs.map rowD)):=by
 refine .lst hl (by rw[jX];exact h.length) fun i v x e1 e2=>?_
 obtain⟨t,r,rfl,er,hr⟩:=h.get e1
 rw[jV,er]at e2
 cases e2
 exact hr.hasD
theorem ProbAt.hasD{K:Fg}{H:Hp}{t:Addr}{rs:List (List Int×Int)}{cs:List Int}(h:ProbAt K H t rs cs):HasD K H (.ref t) (Qte rs cs):=by
 obtain⟨l,c,vs,h1,h2,h3,h4⟩:=h
 exact pairD h1 (RowsAre.hasD h2 h3) (intsD h4)
theorem Qdf{n:Nat}(ns ms:List Int):Alike (n+1) (.tup (ns.map .int)) (.tup (ms.map .int)):=by
 refine .tup fun i x y e1 e2=>?_
 rw[jV]at e1 e2
 obtain⟨a,_,rfl⟩:=zV.mp e1
 obtain⟨b,_,rfl⟩:=zV.mp e2
 exact .int a b
theorem Qdg{n:Nat}{a b c d:D}(h1:Alike n a c)(h2:Alike n b d):Alike (n+1) (.tup [a,b]) (.tup [c,d]):=by
 refine .tup fun i x y e1 e2=>?_
 match i with
 |0=>simp at e1 e2;subst e1 e2;exact h1
 |1=>simp at e1 e2;subst e1 e2;exact h2
 |i+2=>simp at e1
theorem Qgz{n:Nat}(r r':List Int×Int):Alike (n+2) (rowD r) (rowD r'):=Qdg (Qdf _ _) (.int _ _)
theorem We{n:Nat}(rs rs':List (List Int×Int)):Alike (n+3) (.lst (rs.map rowD)) (.lst (rs'.map rowD)):=by
 refine .lst fun i x y e1 e2=>?_
 rw[jV]at e1 e2
 obtain⟨a,_,rfl⟩:=zV.mp e1
 obtain⟨b,_,rfl⟩:=zV.mp e2
 exact Qgz a b
theorem Qdh{n:Nat}(rs rs':List (List Int×Int))(cs cs':List Int):Alike (n+4) (Qte rs cs) (Qte rs' cs'):=Qdg (We rs rs') (Qdf _ _)
def put(ns:List Int)(t:List Nat):Nat->List Int
 |0=>List.replicate t.length 0
 |m+1=>(put ns t m).set (t.getD m 0) (ns.getD m 0)
theorem Yz(ns:List Int)(t:List Nat):∀m,(put ns t m).length=t.length
 |0=>yYa
 |m+1=>by show((put ns t m).set _ _).length=_;rw[kJf,Yz ns t m]
structure IsTurn(n:Nat)(t:List Nat):Prop where
 perm:t.Perm (List.range n)
theorem IsTurn.length{n:Nat}{t:List Nat}(h:IsTurn n t):t.length=n:=by rw[h.perm.length_eq,kQ]
theorem IsTurn.nodup{n:Nat}{t:List Nat}(h:IsTurn n t):t.Nodup:=h.perm.nodup_iff.mpr List.nodup_range
theorem IsTurn.mem{n:Nat}{t:List Nat}(h:IsTurn n t){k:Nat}:k∈t↔k<n:=by rw[h.perm.mem_iff,yQ]
theorem IsTurn.lt{n:Nat}{t:List Nat}(h:IsTurn n t){i k:Nat}(e:t[i]?=some k):k<n:=h.mem.mp (kY e)
theorem IsTurn.inj{n:Nat}{t:List Nat}(h:IsTurn n t){i j k:Nat}(e1:t[i]?=some k)(e2:t[j]?=some k):i=j:=by
 obtain⟨h1,z1⟩:=jK.mp e1
 obtain⟨h2,z2⟩:=jK.mp e2
 exact(List.getElem_inj h.nodup).mp (z1.trans z2.symm)
theorem IsTurn.sur{n:Nat}{t:List Nat}(h:IsTurn n t){k:Nat}(hk:k<n):∃i:Nat,t[i]?=some k:=by
 obtain⟨i,hi,e⟩:=jXc (h.mem.mpr hk)
 exact⟨i,by rw[gE hi,e]⟩
theorem Qha{n:Nat}{ns:List Int}{t:List Nat}(h:IsTurn n t)(hl:ns.length=n):∀m,m<=n->∀i k,i<m->t[i]?=some k->(put ns t m)[k]?=ns[i]?
 |0,_,i,k,hi,_=>absurd hi (kZa _)
 |m+1,hm,i,k,hi,e=>by
  have lm:m<t.length:=by rw[h.length];lia
  show((put ns t m).set (t.getD m 0) (ns.getD m 0))[k]?=_
  have ed:t.getD m 0=t[m]:=by simp[List.getD,lm]
  rw[ed]
  by_cases hk:t[m]=k
  .have:i=m:=h.inj e (by rw[gE lm,hk])
   subst this
   rw[hk,yKd (by rw[Yz,h.length];exact h.lt e),gE Om]
   simp[List.getD,show i<ns.length by lia]
  .rw[zXb hk]
   refine Qha h hl m Om i k ?_ e
   have:i≠m:=by
    rintro rfl
    rw[gE lm]at e
    exact hk (Option.some.inj e)
   lia
theorem Qhb{n:Nat}{ns:List Int}{t:List Nat}(h:IsTurn n t)(hl:ns.length=n){i k:Nat}(e:t[i]?=some k):(put ns t n)[k]?=ns[i]? :=
 Qha h hl n (jW n) i k (by rw[<-h.length];exact(jK.mp e).1) e
theorem Qru{n:Nat}{ns xs:List Int}{t:List Nat}(h:IsTurn n t)(hl:ns.length=n)(hx:xs.length=n)(hh:∀i k:Nat,t[i]?=some k->xs[k]?=ns[i]?):put ns t n=xs:=by
 refine jKd fun k=>?_
 by_cases hk:k<n
 .obtain⟨i,e⟩:=h.sur hk
  rw[Qhb h hl e,hh i k e]
 .rw[jQf (by rw[Yz,h.length];lia),jQf Om]
theorem Qfe{n:Nat}{ns:List Int}{t:List Nat}(h:IsTurn n t):(put ns t n).length=n:=by rw[Yz,h.length]
def after(one other:List Nat):List Nat:=one.map fun p=>other.getD p 0
theorem Qtf{l:List Nat}{i k:Nat}(h:l[i]?=some k):l.getD i 0=k:=by simp[List.getD,h]
theorem map_getD(l:List Nat):(List.range l.length).map (fun i=>l.getD i 0)=l:=by
 refine jKd fun i=>?_
 rw[jV]
 by_cases hi:i<l.length
 .rw[xY hi,gE hi]
  simp[List.getD,hi]
 .rw[jQf (by simpa using hi),jQf Om];rfl
theorem Qaq{n:Nat}{one other:List Nat}(h1:IsTurn n one)(h2:IsTurn n other):IsTurn n (after one other):=by
 refine⟨(h1.perm.map _).trans ?_⟩
 have:=map_getD other
 rw[h2.length]at this
 rw[this]
 exact h2.perm
theorem Qpg{one other:List Nat}{i k:Nat}(h:(after one other)[i]?=some k):∃p:Nat,one[i]?=some p/\k=other.getD p 0:=by
 unfold after at h
 rw[jV]at h
 obtain⟨p,e,rfl⟩:=zV.mp h
 exact⟨p,e,rfl⟩
theorem Qtg{n:Nat}{ns:List Int}{one other:List Nat}(h1:IsTurn n one)(h2:IsTurn n other)(hl:ns.length=n):put ns (after one other) n=put (put ns one n) other n:=by
 refine Qru (Qaq h1 h2) hl (Qfe h2) fun i k e=>?_
 obtain⟨p,e1,rfl⟩:=Qpg e
 have hp:p<other.length:=by rw[h2.length];exact h1.lt e1
 have e2:other[p]?=some (other.getD p 0):=by simp[List.getD,hp]
 rw[Qhb h2 (Qfe h1) e2,Qhb h1 hl e1]
theorem Qar(n:Nat):IsTurn n (List.range n):=⟨.refl _⟩
theorem Wf{n:Nat}{ns:List Int}(hl:ns.length=n):put ns (List.range n) n=ns:=by
 refine Qru (Qar n) hl hl fun i k e=>?_
 obtain⟨hi,rfl⟩:=jK.mp e
 rw[kXf]
theorem Qph{n:Nat}{t:List Nat}(h:IsTurn n t)(k:Nat):IsTurn (n+1) (t.take k++n::t.drop k):=by
 refine⟨List.perm_middle.trans ?_⟩
 rw[jZb,kZb]
 exact(h.perm.cons n).trans (List.perm_append_singleton n (List.range n)).symm
def tI(t:List Nat):List Int:=t.map (fun k:Nat=>(k:Int))
theorem Yk(t:List Nat):(tI t).length=t.length:=jX _
theorem Qrv{t:List Nat}{i k:Nat}(h:t[i]?=some k):(tI t)[i]?=some (k:Int):=by unfold tI;rw[jV,h];rfl
theorem Qth{t:List Nat}{i:Nat}{z:Int}(h:(tI t)[i]?=some z):∃k,t[i]?=some k/\z=(k:Int):=by
 unfold tI at h
 rw[jV]at h
 obtain⟨k,e,rfl⟩:=zV.mp h
 exact⟨k,e,rfl⟩
theorem rep1(n:Nat)(x:V):(List.replicate n [x]).flatten=List.replicate n x:=by
 induction n with
 |zero=>rfl
 |succ n ih=>rw[kQf,jKb,ih,kQf];rfl
theorem Qpi{n k:Nat}(h:k<n):ixN n (k:Int)=some k:=by
 unfold ixN
 rw[if_pos Om,if_pos Om]
 simp
theorem Qpj{α:Type}{xs:List α}{k:Nat}{x:α}(h:xs[k]?=some x):atI xs (k:Int)=some x:=Ky h
theorem lstD{K:Fg}{H:Hp}{a:Addr}{ns:List Int}(h:SqL K H a (ns.map V.int)):HasD K H (.ref a) (.lst (ns.map .int)):=by
 refine .lst h (by rw[jX,jX]) fun i v x e1 e2=>?_
 obtain⟨n,en,rfl⟩:=Ze e1
 rw[jV,en]at e2
 cases e2
 exact .int n
theorem Qhc{n:Nat}(ns ms:List Int):Alike (n+1) (.lst (ns.map .int)) (.lst (ms.map .int)):=by
 refine .lst fun i x y e1 e2=>?_
 rw[jV]at e1 e2
 obtain⟨a,_,rfl⟩:=zV.mp e1
 obtain⟨b,_,rfl⟩:=zV.mp e2
 exact .int a b
theorem Qhd{ns:List Int}{t:List Nat}{i k:Nat}{x:Int}(e1:ns[i]?=some x)(e2:t[i]?=some k):put ns t (i+1)=(put ns t i).set k x:=by
 show(put ns t i).set (t.getD i 0) (ns.getD i 0)=_
 rw[Qtf e2]
 simp[List.getD,e1]
def Kk(K:Fg):Sp:=fun vs H Q _=>∃(r u:Addr) (row:List Int×Int) (n:Nat) (t:List Nat),vs=[.ref r,.ref u]/\RowAt K H r row/\SqL K H u ((tI t).map V.int)/\IsTurn n t/\row.1.length=n/\n<=1000/\∀(r':Addr) (H':Hp),Same H H'->RowAt K H' r' (put row.1 t n,row.2)->Q (.ref r') H'
end Nb
namespace L2
open PySem PySem.Spec PySem.W PyProof.Rows
open PySem.SeqAt
theorem Va{a b:Int}{as bs:List Int}:decide (a::as<b::bs)=if a=b then decide (as<bs)else decide (a<b):=by
 rw[jKf]
 by_cases e:a=b
 .subst e
  rw[if_pos rfl,decide_eq_true_iff,decide_eq_true_iff,List.cons_lt_cons_iff]
  constructor
  .rintro(h | ⟨_,h⟩)
   .omega
   .exact h
  .intro h;exact .inr ⟨rfl,h⟩
 .rw[if_neg e,decide_eq_true_iff,decide_eq_true_iff,List.cons_lt_cons_iff]
  constructor
  .rintro(h | ⟨h,_⟩)
   .exact h
   .exact absurd h e
  .intro h;exact .inl h
abbrev Row:=List Int×Int
def Kl(r q:Row):Bool:=if r.1=q.1 then decide (r.2<q.2)else decide (r.1<q.1)
theorem Qlj{r q:Row}:Kl r q=true↔r.1<q.1\/(r.1=q.1/\r.2<q.2):=by
 unfold Kl
 by_cases e:r.1=q.1
 .rw[if_pos e,decide_eq_true_iff]
  constructor
  .intro h;exact .inr ⟨e,h⟩
  .rintro(h | ⟨_,h⟩)
   .rw[e]at h;exact absurd h (List.lt_irrefl _)
   .exact h
 .rw[if_neg e,decide_eq_true_iff]
  constructor
  .intro h;exact .inl h
  .rintro(h | ⟨h,_⟩)
   .exact h
   .exact absurd h e
theorem Qff{a b:Row}(h1:Kl a b=false)(h2:Kl b a=false):a=b:=by
 rw[<-Bool.not_eq_true,Qlj]at h1 h2
 have e:a.1=b.1:=List.le_antisymm (zXc.mp fun z=>h2 (.inl z)) (zXc.mp fun z=>h1 (.inl z))
 have e2:a.2=b.2:=by
  have:¬a.2<b.2:=fun z=>h1 (.inr ⟨e,z⟩)
  have:¬b.2<a.2:=fun z=>h2 (.inr ⟨e.symm,z⟩)
  lia
 exact Prod.ext e e2
theorem Paired.getR{α β:Type}{R:α->β->Prop}{xs:List α}{ys:List β}(h:Paired R xs ys):∀{i:Nat} {x:α},xs[i]?=some x->∃y,ys[i]?=some y/\R x y:=by
 induction h with
 |nil=>intro i x e;simp at e
 |cons r t ih=>
  intro i x e
  cases i with
  |zero=>simp at e;subst e;exact⟨_,rfl,r⟩
  |succ i=>obtain⟨y,e1,e2⟩:=ih (i:=i) (by simpa using e);exact⟨y,by simpa using e1,e2⟩
theorem Paired.pick{α β:Type}{R:α->β->Prop}{xs:List α}{ys:List β}(h:Paired R xs ys)(a:α)(b:β):∀(is:List Nat),(∀i∈is,i<xs.length)->Paired R (is.map fun i=>xs.getD i a) (is.map fun i=>ys.getD i b)
 |[],_=>.nil
 |i::is,hi=>by
  have hlt:=hi i zJ
  obtain⟨y,e1,e2⟩:=Paired.getR h (gE hlt)
  have f1:xs.getD i a=xs[i]:=by rw[jY,gE hlt];rfl
  have f2:ys.getD i b=y:=by rw[jY,e1];rfl
  refine .cons ?_ (Paired.pick h a b is fun j hj=>hi j (zY _ hj))
  show R (xs.getD i a) (ys.getD i b)
  rw[f1,f2];exact e2
theorem Xb{α:Type}(l:List α)(d:α):(List.range l.length).map (fun i=>l.getD i d)=l:=by
 refine jKd fun i=>?_
 rw[jV]
 by_cases hi:i<l.length
 .rw[xY hi,gE hi]
  show some (l.getD i d)=_
  rw[jY,gE hi];rfl
 .rw[jQf (by rw[kQ];lia),jQf Om];rfl
end L2
namespace Nb
def pw(n:Nat)(t:List Nat):Nat->List Nat
 |0=>List.range n
 |m+1=>after (pw n t m) t
theorem Wg{n:Nat}{t:List Nat}(T:IsTurn n t):∀m,IsTurn n (pw n t m)
 |0=>Qar n
 |m+1=>Qaq (Wg T m) T
def itF(f:Nat->Nat):Nat->Nat->Nat
 |0,i=>i
 |m+1,i=>f (itF f m i)
theorem Jb(f:Nat->Nat)(a b i:Nat):itF f (a+b) i=itF f a (itF f b i):=by
 induction a with
 |zero=>rw[kKf];rfl
 |succ a ih=>rw[Nat.succ_add];show f _=f _;rw[ih]
theorem Qbo{f:Nat->Nat}{k i:Nat}(h:itF f k i=i):∀m,itF f (k*m) i=i
 |0=>rfl
 |m+1=>by rw[Nat.mul_succ,yXd,Jb,Qbo h m,h]
theorem Km:∀{A S:List Nat},A.Nodup->(∀a∈A,a∈S)->A.length<=S.length
 |[],S,_,_=>wY _
 |a::A,S,h,s=>by
  obtain⟨h1,h2⟩:=jZe.mp h
  have ha:=s a (zJ ..)
  have:=Km h2 fun b hb=>(yYf (fun e=>by rw[e]at hb;exact h1 hb)).mpr (s b (zY _ hb))
  rw[yQe ha]at this
  have pos:=yKe ha
  rw[yW]
  lia
def prodF:Nat->Nat:=fun n=>[1,1,2,3,4,6,9,12,18,27,36].getD n 0
theorem Qlk:∀n,n<11->∀k,k<11->1<=k->k<=n->k*prodF (n-k)<=prodF n:=Dk
theorem Qpk(n:Nat)(h:n<=10)(k:Nat)(h1:1<=k)(h2:k<=n):k*prodF (n-k)<=prodF n:=Qlk n Om k Om h1 h2
theorem Qll:∀n,n<11->prodF n<=36:=Dk
theorem Qpl(n:Nat)(h:n<=10):prodF n<=36:=Qll n Om
theorem ord_le(f:Nat->Nat):∀(c:Nat) (S:List Nat),S.length=c->c<=10->S.Nodup->(∀i∈S,f i∈S)->(∀i∈S,∀j∈S,f i=f j->i=j)->∃m,1<=m/\m<=prodF c/\∀i∈S,itF f m i=i:=by
 intro c
 induction c using Nat.strongRecOn with
 |ind c ih=>
  intro S hl hc hn hf hi
  cases S with
  |nil=>
   refine⟨1,jW _,?_,fun i h=>nomatch h⟩
   rw[<-hl]
   decide
  |cons i S'=>
   have hin:i∈i::S':=zJ ..
   generalize i::S'=S at *
   have st:∀m,∀j∈S,itF f m j∈S:=fun m=>by
    induction m with
    |zero=>exact fun j h=>h
    |succ m ihm=>exact fun j h=>hf _ (ihm j h)
   have inj:∀m,∀j∈S,∀k∈S,itF f m j=itF f m k->j=k:=fun m=>by
    induction m with
    |zero=>exact fun j _ k _ h=>h
    |succ m ihm=>exact fun j hj k hk h=>ihm j hj k hk (hi _ (st m j hj) _ (st m k hk) h)
   -- some power brings i back
   have back:∃k,1<=k/\itF f k i=i:=Classical.byContradiction fun no=>by
    have nd:((List.range (c+1)).map fun m=>itF f m i).Nodup:=by
     rw[List.nodup_iff_pairwise_ne,jYb]
     refine List.Pairwise.imp ?_ (yXe (n:=c+1))
     intro a b hab e
     refine no ⟨b-a,Om,?_⟩
     have e2:itF f (a+(b-a)) i=itF f a (itF f (b-a) i):=Jb f a (b-a) i
     rw[show a+(b-a)=b by lia,<-e]at e2
     exact(inj a _ hin _ (st _ _ hin) e2).symm
    have:=Km nd fun x hx=>by
     obtain⟨m,_,rfl⟩:=zQ.mp hx
     exact st m i hin
    rw[jX,kQ]at this
    lia
   obtain⟨k,⟨k1,ke⟩,kmin⟩:∃k,(1<=k/\itF f k i=i)/\∀j,j<k->¬(1<=j/\itF f j i=i):=by
    obtain⟨k,hk⟩:=back
    clear ih
    induction k using Nat.strongRecOn with
    |ind k ihk=>
     by_cases h:∃j,j<k/\1<=j/\itF f j i=i
     .obtain⟨j,h1,h2⟩:=h
      exact ihk j h1 h2
     .exact⟨k,hk,fun j hj hz=>h ⟨j,hj,hz⟩⟩
   have ndO:((List.range k).map fun m=>itF f m i).Nodup:=by
    rw[List.nodup_iff_pairwise_ne,jYb]
    rw[jZf]
    intro a b ha hb hab e
    rw[kQ]at ha hb
    rw[kXf,kXf]at e
    refine kmin (b-a) Om ⟨Om,?_⟩
    have e2:itF f (a+(b-a)) i=itF f a (itF f (b-a) i):=Jb f a (b-a) i
    rw[show a+(b-a)=b by lia,<-e]at e2
    exact(inj a _ hin _ (st _ _ hin) e2).symm
   have memO:∀x,x∈((List.range k).map fun m=>itF f m i)↔∃m,m<k/\itF f m i=x:=fun x=>by
    rw[zQ]
    constructor
    .rintro⟨m,h1,h2⟩;exact⟨m,yQ.mp h1,h2⟩
    .rintro⟨m,h1,h2⟩;exact⟨m,yQ.mpr h1,h2⟩
   generalize hO:((List.range k).map fun m=>itF f m i)=O at ndO memO
   have lO:O.length=k:=by rw[<-hO,jX,kQ]
   have subO:∀x∈O,x∈S:=fun x hx=>by
    obtain⟨m,_,rfl⟩:=(memO x).mp hx
    exact st m i hin
   have ndR:(S.filter fun x=>decide (x∉O)).Nodup:=hn.filter _
   have lR:(S.filter fun x=>decide (x∉O)).length+k<=c:=by
    have h1:(O++S.filter fun x=>decide (x∉O)).Nodup:=by
     rw[yKb]
     refine⟨ndO,ndR,fun a ha b hb e=>?_⟩
     have:=(wK.mp hb).2
     exact jJb this (e▸ha)
    have:=Km h1 fun a ha=>by
     rcases wX.mp ha with h | h
     .exact subO a h
     .exact(wK.mp h).1
    rw[yV,lO,hl]at this
    lia
   have lR2:c<=(S.filter fun x=>decide (x∉O)).length+k:=by
    have:=Km hn (S:=O++S.filter fun x=>decide (x∉O)) fun a ha=>by
     by_cases h:a∈O
     .exact jYc _ h
     .exact wJ _ (wK.mpr ⟨ha,xW h⟩)
    rw[yV,lO,hl]at this
    lia
   obtain⟨m,m1,m2,mk⟩:=ih (c-k) Om (S.filter fun x=>decide (x∉O)) Om Om ndR (fun x hx=>by
    obtain⟨xS,xO⟩:=wK.mp hx
    have xO:=jJb xO
    refine wK.mpr ⟨hf x xS,xW fun h=>xO ?_⟩
    obtain⟨j,hj,ej⟩:=(memO _).mp h
    cases j with
    |zero=>
     have e2:f (itF f (k-1) i)=f x:=by
      rw[<-ej]
      show itF f (k-1+1) i=i
      rw[show k-1+1=k by lia]
      exact ke
     have:=hi _ (st _ _ hin) _ xS e2
     exact(memO _).mpr ⟨k-1,Om,this⟩
    |succ j=>
     have:=hi _ (st j i hin) _ xS ej
     exact(memO _).mpr ⟨j,Om,this⟩) (fun a ha b hb e=>hi a (wK.mp ha).1 b (wK.mp hb).1 e)
   refine⟨k*m,jQd m1 (Nat.le_mul_of_pos_left m Om),?_,fun x hx=>?_⟩
   .exact jQd (Nat.mul_le_mul_left k m2) (Qpk c hc k k1 Om)
   .by_cases h:x∈O
    .obtain⟨j,hj,rfl⟩:=(memO x).mp h
     refine Qbo ?_ m
     rw[<-Jb,yXd,Jb,ke]
    .rw[yJa]
     exact Qbo (mk x (wK.mpr ⟨hx,xW h⟩)) k
theorem Qti{n:Nat}{t:List Nat}(T:IsTurn n t){i:Nat}(hi:i<n):∀m,(pw n t m)[i]?=some (itF (fun j=>t.getD j 0) m i)
 |0=>by show(List.range n)[i]?=some i;rw[xY hi]
 |m+1=>by
  show(after (pw n t m) t)[i]?=_
  unfold after
  rw[jV,Qti T hi m]
  rfl
theorem Qhe{n:Nat}{t:List Nat}(T:IsTurn n t)(hn:n<=10):∃m,1<=m/\m<=36/\pw n t m=List.range n:=by
 have at':∀{i},i<n->t[i]?=some (t.getD i 0):=fun{i} hi=>by
  have:i<t.length:=by rw[T.length];exact hi
  rw[jY,gE this];rfl
 obtain⟨m,m1,m2,h⟩:=ord_le (fun j=>t.getD j 0) n (List.range n) kQ hn List.nodup_range
  (fun i hi=>yQ.mpr (T.lt (at' (yQ.mp hi))))
  (fun i hi j hj e=>T.inj (at' (yQ.mp hi)) (by rw[at' (yQ.mp hj)];exact congrArg some e.symm))
 refine⟨m,m1,jQd m2 (Qpl n hn),jKd fun i=>?_⟩
 by_cases hi:i<n
 .rw[Qti T hi m,xY hi,h i (yQ.mpr hi)]
 .rw[jQf (by rw[(Wg T m).length];lia),jQf (by rw[kQ];lia)]
end Nb
namespace L2
open PySem PySem.Spec PyProof.Rows
def Itr3(lo c:Int)(n:Nat):It:=⟨fun i _=>i<n,fun i H x H'=>H'=H/\x=.int (lo+(i:Nat)*c),fun i _=>n<=i⟩
theorem Qfg{P:Program}{w:World}{K:Fg}{tg:Expr}(it:Addr)(lo c:Int)(n:Nat):Turn P w K tg (Itr3 lo c n) [it] it (fun i h=>IsRangeIter h it (lo+(i:Nat)*c) ((n:Int)-(i:Nat)) c) where
 mem:=by simp
 obj:=fun i h st b hb=>by
  have e:b=it:=by simpa using hb
  subst e
  exact⟨_,st,fun v z=>by
   have z':Data.fields _=Data.cell v:=z
   cases z'⟩
 keep:=fun i h h' st k=>k it (by simp) _ st
 item:=by
  intro X hP hw hK hc i pins s σ H E I hf st hg
  subst hP hw hK
  obtain⟨f0,f1,f2,f3,f4,f5⟩:=hf it (by simp)
  have W:=Walks.range (prog:=X.prog) (w:=X.w) (I.ok.hd hc) it lo c n
  refine W.item i s _ _ hg st fun v h' tk hv st' kk=>?_
  obtain⟨t,rfl⟩:=hv
  have I1:Inv X pins σ H { s with heap:=h',toks:=tk }:=I.turned (fun b o hb e=>kk b o (by simpa using hb) e) f0 f1 f3 f4 f5
  exact⟨_,rfl,Qom (s:={ s with heap:=h',toks:=tk }) (n:="range_iterator") st' rfl rfl Dc ⟨.int (lo+(i:Nat)*c),H,I1,⟨t,rfl⟩,⟨rfl,rfl⟩,st',fun b hb=>(hf b hb).1⟩⟩
 done:=by
  intro X hP hw hK hc i pins s σ H E I hf st hg
  subst hP hw hK
  obtain⟨f0,f1,f2,f3,f4,f5⟩:=hf it (by simp)
  exact wpAny_pyNext_range_end (I.ok.hd hc) st (by have:n<=i:=hg;lia) fun h' eb=>⟨rfl,I.turned (t':=s.toks) (fun b o hb e=>eb b o hb e) f0 f1 f3 f4 f5⟩
 self:=fun _ _ _ _ _ st h=>wpAny_pyIter_rangeiter st h
theorem Wh(a b c:Int)(hc:c≠0):0<=Builtin.Range.rangeSize a b c:=by
 unfold Builtin.Range.rangeSize
 split
 .split
  .have:=Int.ediv_nonneg (a:=b-a-1) (b:=c) Om Om;lia
  .exact Int.le_refl 0
 .split
  .have:=Int.ediv_nonneg (a:=a-b-1) (b:=-c) Om Om;lia
  .exact Int.le_refl 0
section
variable{X:Cx}{tg:Expr}
def iRng3(ta:TA):TI:=fun σ H R=>ta σ H fun vs H1=>∃i j c:Int,vs=[.int i,.int j,.int c]/\(c≠0/\c.natAbs<1073741824/\Builtin.Range.small i j c=true)/\R (Itr3 i c (Builtin.Range.rangeSize i j c).toNat) H1
theorem Qlm{a b c:Expr}{ta:TA}{p pos:Pos}(hg:Gl X "range")(hm:X.mg "range"=none)(ha:PA X [a,b,c] ta)(hs:autoParam (starEach [a,b,c] X.env=[(false,eval a X.env),(false,eval b X.env),(false,eval c X.env)]) L2.aRfl._auto_1)(hs2:autoParam (starEach [b,c] X.env=[(false,eval b X.env),(false,eval c X.env)]) L2.aRfl._auto_1) :
  PI X tg (.Call (.Name "range" p) [a,b,c] [] pos) (iRng3 ta):=by
 intro pins s σ H R I h
 refine Call_ (Jt I hg hm boot_range (PyProof.Rows.callWith_type1 (thn (ha pos pins s σ H _ I h) fun us s1 hqP=>?_) (by rw[hs,hs2]) (by rw[hs2];rfl)))
 obtain⟨vs,H1,I1,r1,q1⟩:=hqP
 obtain⟨i,j,k,e,⟨h1,h2,h3⟩,q⟩:=q1
 subst e
 cases r1 with
 |cons r rr=>
  cases rr with
  |cons r' rr=>
   cases rr with
   |cons r'' rr=>
    cases rr
    obtain⟨t,rfl⟩:=r
    obtain⟨t',rfl⟩:=r'
    obtain⟨t'',rfl⟩:=r''
    refine call_range_3 h1 ?_ (.inl (PyProof.noPylong_small h2))
    refine wpAny_pyIter_range (IsRange.new ..) h3 ?_
    have I2:Inv X pins σ H1 { s1 with heap:=s1.heap.push { cls:=.type "range",data:=.fields #[.int i t,.int j t',.int k t''] },toks:=s1.toks }:=I1.kept fun b o e=>jZ _ e
    refine⟨(s1.heap.push { cls:=.type "range",data:=.fields #[.int i t,.int j t',.int k t''] }).objs.size,[(s1.heap.push { cls:=.type "range",data:=.fields #[.int i t,.int j t',.int k t''] }).objs.size],_,_,H1,rfl,
     I2.kept (t':=s1.toks) fun b o e=>jZ _ e,Qfg _ i k (Builtin.Range.rangeSize i j k).toNat,?_,fun b hb=>?_,q⟩
    .have e1:i+((0:Nat):Int)*k=i:=by simp
     have e2:(((Builtin.Range.rangeSize i j k).toNat:Nat):Int)-((0:Nat):Int)=Builtin.Range.rangeSize i j k:=by have:=Wh i j k h1;lia
     show IsRangeIter _ _ (i+((0:Nat):Int)*k) ((((Builtin.Range.rangeSize i j k).toNat:Nat):Int)-((0:Nat):Int)) k
     rw[e1,e2]
     exact kX _ rfl
    .have e:b=(s1.heap.push { cls:=.type "range",data:=.fields #[.int i t,.int j t',.int k t''] }).objs.size:=by simpa using hb
     subst e
     exact I2.fpOk (jW _) (I2.hok.fresh (jW _))
end
theorem Qir{lo c:Int}{n:Nat}{g:TG}{tb:TS}{D:Ends}{σ:St}{H:Hp}(Pv:Nat->St->Hp->Prop)(h0:Pv 0 σ H)
  (hs:∀i σ H,i<n->Pv i σ H->g (.int (lo+(i:Nat)*c)) σ H fun σ2 H2=>tb { D with nx:=Pv (i+1),ct:=Pv (i+1),bk:=D.nx } σ2 H2) (hd:∀σ H,Pv n σ H->D.nx σ H) :
  ∃W:Nat->Nat->St->Hp->Prop,(∃m,W 0 m σ H)/\∀i m σ H,W i m σ H ->
   ((Itr3 lo c n).stop i H/\D.nx σ H)\/((Itr3 lo c n).go i H/\∃N:St->Hp->Prop,(∀σ' H',N σ' H'->∃m',m'<m/\W (i+1) m' σ' H')/\∀x H',(Itr3 lo c n).yld i H x H'->g x σ H' fun σ2 H2=>tb { D with nx:=N,ct:=N,bk:=D.nx } σ2 H2):=by
 refine⟨fun i m σ H=>m=n-i/\i<=n/\Pv i σ H,⟨n,by simp,wY _,h0⟩,?_⟩
 rintro i m σ H ⟨rfl,hi,p⟩
 by_cases hlt:i<n
 .refine .inr ⟨hlt,Pv (i+1),fun σ' H' p'=>⟨n-(i+1),Om,rfl,hlt,p'⟩,fun x H' y=>?_⟩
  obtain⟨e,y⟩:=y
  subst e y
  exact hs i σ _ hlt p
 .have e:i=n:=Om
  subst e
  exact .inl ⟨jW _,hd σ H p⟩
theorem Qln{a b c:Int}{i:Nat}(hc:0<c)(h:i<(Builtin.Range.rangeSize a b c).toNat):a+(i:Nat)*c<b:=by
 unfold Builtin.Range.rangeSize at h
 rw[if_pos hc]at h
 split at h
 .have h0:=Int.ediv_nonneg (a:=b-a-1) (b:=c) Om Om
  have h1:(i:Int)<=(b-a-1) / c:=Om
  have h2:=Int.mul_le_mul_of_nonneg_right h1 (Int.le_of_lt hc)
  have h3:=Int.ediv_mul_le (b-a-1) (Int.ne_of_gt hc)
  lia
 .simp at h
theorem small3{a b c:Int}(ha:-1000000<=a)(ha':a<=1000000)(hb:-1000000<=b)(hb':b<=1000000)(hc:0<c)(hc':c<=1000000):Builtin.Range.small a b c=true:=by
 have h0:Builtin.Range.rangeSize a b c<=2000001:=by
  unfold Builtin.Range.rangeSize
  rw[if_pos hc]
  split
  .have h3:=Int.ediv_le_self (a:=b-a-1) c Om
   lia
  .decide
 have h1:=Wh a b c (Int.ne_of_gt hc)
 unfold Builtin.Range.small
 simp only[Builtin.Range.rangeFitsLong,jKa,zQd,decide_eq_true_eq,beq_iff_eq,hc,if_true]
 lia
end L2
namespace L2
open PySem PySem.Spec PyProof.Rows PySem.W
inductive IsT:String->Prop
 |int:IsT "int"
 |bool:IsT "bool"
 |tuple:IsT "tuple"
 |list:IsT "list"
 |str:IsT "str"
def isiW(K:Fg)(H:Hp):V->String->Bool->Prop
 |.non,_,b=>b=false
 |.int _,T,b=>b=decide (T="int")
 |.bl _,T,b=>b=decide (T="int"\/T="bool")
 |.str _,T,b=>b=decide (T="str")
 |.ref a,T,b=>((∃xs,SqT K H a xs)/\b=decide (T="tuple"))\/((∃xs,SqL K H a xs)/\b=decide (T="list"))
 |_,_,_=>False
theorem Qlo{X:Cx}:Yc X (.builtin "isinstance") (fun xs H Q=>∃x T b,xs=[x,.ty T]/\IsT T/\isiW X.K H x T b/\Q (.bl b) H):=by
 intro pins s σ H xs us Q I rv h
 obtain⟨x,T,b,rfl,hT,hi,q⟩:=h
 obtain⟨u,v,rfl,ru,rT⟩:=rv.two
 cases rT
 have fin:∀(tk:Nat),EP X pins σ Q (.bool b) { s with toks:=tk }:=fun tk=>⟨.bl b,H,I.tok tk,rfl,q⟩
 cases x with
 |int n=>
  obtain⟨t,rfl⟩:=ru
  cases hT<;>(subst hi)
  .exact IsiPair.int_int (fin s.toks)
  .exact IsiPair.int_bool (fin _)
  .exact IsiPair.int_tuple (fin _)
  .exact IsiPair.int_list (fin _)
  .exact IsiPair.int_str (fin _)
 |bl n=>
  cases ru
  cases hT<;>(subst hi)
  .exact IsiPair.bool_int (fin s.toks)
  .exact IsiPair.bool_bool (fin s.toks)
  .exact IsiPair.bool_tuple (fin _)
  .exact IsiPair.bool_list (fin _)
  .exact IsiPair.bool_str (fin _)
 |str n=>
  obtain⟨t,rfl⟩:=ru
  cases hT<;>(subst hi)
  .exact IsiPair.str_int (fin _)
  .exact IsiPair.str_bool (fin _)
  .exact IsiPair.str_tuple (fin _)
  .exact IsiPair.str_list (fin _)
  .exact IsiPair.str_str (fin s.toks)
 |non=>
  cases ru
  cases hT<;>(subst hi)
  .exact IsiPair.NoneType_int (fin _)
  .exact IsiPair.NoneType_bool (fin _)
  .exact IsiPair.NoneType_tuple (fin _)
  .exact IsiPair.NoneType_list (fin _)
  .exact IsiPair.NoneType_str (fin _)
 |ref a=>
  cases ru
  rcases hi with⟨⟨xs,hq⟩,hi⟩ | ⟨⟨xs,hq⟩,hi⟩
  .obtain⟨its,r,⟨o,e,c,_⟩,_⟩:=I.tuple hq
   cases hT<;>(subst hi)
   .exact IsiPair.tuple_int e c (fin _)
   .exact IsiPair.tuple_bool e c (fin _)
   .exact IsiPair.tuple_tuple e c (fin s.toks)
   .exact IsiPair.tuple_list e c (fin _)
   .exact IsiPair.tuple_str e c (fin _)
  .obtain⟨its,r,pl,_⟩:=I.list hq
   obtain⟨o,e,c,_⟩:=pl.isList
   cases hT<;>(subst hi)
   .exact IsiPair.list_int e c (fin _)
   .exact IsiPair.list_bool e c (fin _)
   .exact IsiPair.list_tuple e c (fin _)
   .exact IsiPair.list_list e c (fin s.toks)
   .exact IsiPair.list_str e c (fin _)
 |byt _=>exact hi.elim
 |flt _=>exact hi.elim
 |ty _=>exact hi.elim
theorem Qfh{ns:List Int}(h:WData.layableAll [WData.list (ns.map WData.int)]=true):∀n∈ns,Builtin.Int.intBits n<=2 ^ 20:=by
 intro n hn
 have h0:=layableW_arg h _ (kW.mpr rfl)
 obtain⟨h1,h2,h3⟩:=layableW_iff.mp h0
 simp only[WData.canLay]at h1
 simp only[WData.weight]at h3
 obtain⟨_,_,c⟩:=items_part (d:=WData.int n) (zQ.mpr ⟨n,hn,rfl⟩) h1
 have h4:(WData.int n).weight<=2 ^ 20:=jQd c h3
 simpa only[WData.weight,Builtin.Int.intBits]using h4
section
variable{X:Cx}
theorem Qlp(hc:X.calm=true):Yc X (.builtin "min") (fun xs H Q=>∃(a:Addr) (ns:List Int),xs=[.ref a]/\SqL X.K H a (ns.map V.int)/\ns≠[]/\∀m,m∈ns->(∀x∈ns,m<=x)->Q (.int m) H):=by
 intro pins s σ H xs us Q I rv h
 obtain⟨a,ns,rfl,hq,hne,q⟩:=h
 obtain⟨u,rfl,ru⟩:=rv.one
 cases ru
 obtain⟨its,r,p,hz⟩:=I.list hq
 have hi:IntsAre its.toArray.toList ns:=intsAre_of r
 obtain⟨xs,hx⟩:=hi.allInts.items
 have hl':s.heap.IsList a (intItems xs):=hx▸p.isList
 have e1:ns=xs.toList.map (·.1):=by rw[<-nums_intItems,<-hx];exact(show numsOf its.toArray.toList=ns from hi.numsOf).symm
 have ls:xs.size=ns.length:=by rw[e1];simp
 have hp:0<xs.size:=by rw[ls];exact List.length_pos_iff.mpr hne
 have at':∀i,i<xs.size->ns[i]?=some (numAt xs i):=fun i hi=>by rw[e1];simp[numAt,hi]
 obtain⟨b1,b2⟩:=argBest_lt (numAt xs) (xs.size-1)
 refine min_intList (I.ok.hd hc) hl' hp fun v h' tk hv hk=>?_
 obtain⟨t,rfl⟩:=intItems_at hv
 refine⟨.int _,H,I.kept hk,⟨_,rfl⟩,q _ (kY (at' _ Om)) fun x hx=>?_⟩
 obtain⟨i,hi,rfl⟩:=yZa.mp hx
 have h2:=at' i Om
 rw[gE hi]at h2
 have h3:ns[i]=numAt xs i:=Option.some.inj h2
 rw[h3]
 exact b2 i Om
end
end L2
namespace L2
open PySem PySem.Spec PyProof.Rows PySem.SeqAt
section
variable{e:Expr}
theorem Qlq{κ:Type}[DecidableEq κ]{kvs:List (κ×V)}{k:κ}{v:V}(nd:(kvs.map (·.1)).Nodup):((putK kvs k v).map (·.1)).Nodup:=by
 unfold putK
 split
 .rw[jQb]
  rw[show kvs.map ((fun x=>x.1)∘fun kv=>if kv.1=k then(kv.1,v)else kv)=kvs.map (·.1)from kXa fun p _=>by show(if p.1=k then(p.1,v)else p).1=p.1;split<;>rfl]
  exact nd
 .rename_i a
  rw[zK]
  refine yKb.mpr ⟨nd,jZe.mpr ⟨fun z=>(nomatch z),List.nodup_nil⟩,fun x hx y hy e=>a ?_⟩
  obtain⟨p,hp,ep⟩:=zQ.mp hx
  exact yYd.mpr ⟨p,hp,xW (ep.trans (e.trans (kW.mp hy)))⟩
end
def Vb:Bool->Keyed->Array Keyed->Nat->Nat->Nat->StateT SortSt Sem (Option Nat):=sortPriv% PySem.Builtin.gallop
def Qhf:Array Keyed->Array Keyed->StateT SortSt Sem (Array Keyed):=sortPriv% PySem.Builtin.mergeLo
def Qhg:Array Keyed->Array Keyed->StateT SortSt Sem (Array Keyed):=sortPriv% PySem.Builtin.mergeHi
section
variable{κ:KeyKind}
def HasK(κ:KeyKind)(x:Keyed):Prop:=∃a,κ.keyOf x.1=some a
end
end L2
namespace L2
open PySem PyProof.Rows
end L2
namespace L2
open PySem PySem.Spec PyProof.Rows PySem.W
section
variable{X:Cx}
theorem Wi(hc:X.calm=true):Yc X (.type "set") (fun xs H Q=>∃(l:Addr) (ns:List Int),xs=[.ref l]/\SqL X.K H l (ns.map V.int)/\ns.length<4000/\∀(d:Addr) (S:Int->Bool),H d=none->Q (.ref d) (upd H d (.set S (ns.foldl step_dedup []).length))):=by
 intro pins s σ H xs us Q I rv h
 obtain⟨l,ns,rfl,hl,hz,q⟩:=h
 obtain⟨u,rfl,ru⟩:=rv.one
 cases ru
 obtain⟨its,r,pl,_⟩:=I.list hl
 have lr:=r.length
 rw[jX]at lr
 have e1:(List.range its.toArray.size).map (fun i=>ns.getD i 0)=ns:=by
  rw[kJ,<-lr]
  apply jKd
  intro i
  by_cases hi:i<ns.length
  .rw[jV,xY hi,gE hi]
   show some (ns.getD i 0)=_
   rw[jY,gE hi];rfl
  .rw[kYc.mpr (by rw[jX,kQ];lia),kYc.mpr Om]
 refine call_set_list (I.ok.hd hc) pl.isList (ns:=ns) (by simpa using intsAre_of r) (by rw[kJ];show its.length+1<4096;lia) fun h' tk hS hk=>?_
 have e2:(firstMet (fun i=>ns.getD i 0) its.toArray.size).length=(ns.foldl step_dedup []).length:=by unfold firstMet;rw[e1]
 refine⟨.ref _,_,I.laid (o:=.set (fun k'=>(firstMet (fun i=>ns.getD i 0) its.toArray.size).any (· == k')) (ns.foldl step_dedup []).length) (fun b o e=>hk b o (kK e) e) (jW _) ?_,rfl,q _ _ (I.hok.fresh (jW _))⟩
 rw[<-e2]
 exact hS
theorem Kn:Yc X (.builtin "len") (fun xs H Q=>∃(d:Addr) (S:Int->Bool) (n:Nat),xs=[.ref d]/\H d=some (.set S n)/\Q (.int (n:Nat)) H):=by
 intro pins s σ H xs us Q I rv h
 obtain⟨d,S,n,rfl,hd,q⟩:=h
 obtain⟨u,rfl,ru⟩:=rv.one
 cases ru
 obtain⟨o,es,ep,t,ho,hex,hdt,_,_,hb,hf,hn⟩:=I.hok d _ hd
 subst hn
 refine call_len_set ho hex hdt hf ?_ ⟨.int _,H,I.tok _,⟨_,rfl⟩,q⟩
 have:es.size<4096:=hb
 lia
theorem Qdi:∀{ns:List Int} {us:List Value},IntsAre us ns->Vals (ns.map V.int) us:=by
 intro ns us h
 induction h with
 |nil=>exact .nil
 |cons=>rename_i ih;exact .cons ⟨_,rfl⟩ ih
theorem Qdj{K:Frag}(hK:X.K=K):Yc X (.builtin "sorted") (fun xs H Q=>∃(l:Addr) (ns:List Int),xs=[.ref l]/\SqL K H l (ns.map V.int)/\ns.length<64 /\
  ∀(D:Addr) (qs:List Int),H D=none->qs.Perm ns->qs.Pairwise (·<=·)->Q (.ref D) (upd H D (.lst (qs.map V.int)))):=by
 subst hK
 intro pins s σ H xs us Q I rv h
 obtain⟨l,ns,rfl,hq,h64,q⟩:=h
 obtain⟨u,rfl,ru⟩:=rv.one
 cases ru
 obtain⟨its,r,p,hz⟩:=I.list hq
 have lv:=r.length
 rw[jX]at lv
 refine sorted_ints p.isList (intsAre_of r) Om fun out ns' h1 h2 h3=>?_
 obtain⟨e,he⟩:=sortedAll_at s.heap its out
 have hv:=Qdi h1
 have lo:ns'.length=ns.length:=h2.length_eq
 have hz64:(64:Nat)<sizeLine:=Dc
 have hlen:(ns'.map V.int).length<=sizeLine:=by rw[jX];lia
 exact⟨.ref (s.heap.objs.size+1),_,I.laid (t':=s.toks) (o:=.lst (ns'.map V.int)) (fun b ob z=>sortedAll_old z) (kQe _) ⟨hlen,out.toList,e,hv,by simpa using he⟩,rfl,q _ ns' (I.hok.fresh (kQe _)) h2 h3⟩
end
theorem Qlr:bootBuiltins "set"=some (.type "set"):=Dk
theorem Qls(ns:List Int):(ns.foldl step_dedup []).length=ns.length↔ns.Nodup:=by
 have key:∀(l acc:List Int),(l.foldl step_dedup acc).length<=acc.length+l.length/\((l.foldl step_dedup acc).length=acc.length+l.length↔l.Nodup/\∀x∈l,x∉acc):=by
  intro l
  induction l with
  |nil=>intro acc;exact⟨jW _,by simp⟩
  |cons a t ih=>
   intro acc
   rw[kKa]
   by_cases h:a∈acc
   .have e:step_dedup acc a=acc:=by
     unfold step_dedup
     rw[if_pos (by simpa using h)]
    rw[e]
    obtain⟨h1,h2⟩:=ih acc
    refine⟨by rw[yW];lia,⟨fun z=>by rw[yW]at z;lia,fun z=>absurd h (z.2 a zJ)⟩⟩
   .have e:step_dedup acc a=acc++[a]:=by
     unfold step_dedup
     rw[if_neg (by simpa using h)]
    rw[e]
    obtain⟨h1,h2⟩:=ih (acc++[a])
    rw[yV,yYb]at h1 h2
    refine⟨by rw[yW];lia,?_⟩
    rw[yW,show acc.length+(t.length+1)=acc.length+1+t.length by lia,h2,jZe]
    constructor
    .rintro⟨n1,n2⟩
     refine⟨⟨fun ha=>n2 a ha (by simp),n1⟩,fun x hx=>?_⟩
     rcases yY.mp hx with rfl | hx
     .exact h
     .exact fun z=>n2 x hx (jYc _ z)
    .rintro⟨⟨n0,n1⟩,n2⟩
     refine⟨n1,fun x hx z=>?_⟩
     rcases wX.mp z with z | z
     .exact n2 x (zY _ hx) z
     .have:x=a:=by simpa using z
      exact n0 (this▸hx)
 have:=(key ns []).2
 simpa using this
end L2
namespace L2
open PySem PySem.Spec PySem.W PyProof.Rows
open PySem.SeqAt
def PrAt(K:Fg)(H:Hp)(v:V)(p:Int×Int):Prop:=∃a,v=.ref a/\SqT K H a [.int p.1,.int p.2]
abbrev Qlt(K:Fg)(H:Hp):List V->List (Int×Int)->Prop:=Paired (PrAt K H)
def prR(p:Int×Int):Row:=([p.1],p.2)
theorem Qtj{p q:Int×Int}(h:prR p=prR q):p=q:=by
 have h1:(prR p).1=(prR q).1:=by rw[h]
 have h2:(prR p).2=(prR q).2:=by rw[h]
 unfold prR at h1 h2
 exact Prod.ext (List.cons.inj h1).1 h2
end L2
namespace HT
open PySem PySem.Spec PyProof.Rows
end HT
namespace L2
open PySem PySem.Spec PySem.W PyProof.Rows
open PySem.SeqAt
end L2
namespace L2
open PySem
section
theorem lenS{α:Type}{l:List α}{n:Nat}(h:l.length=n+1):∃a t,l=a::t/\t.length=n:=by
 cases l with
 |nil=>exact absurd h (Nat.succ_ne_zero n).symm
 |cons a t=>exact⟨a,t,rfl,Nat.succ.inj h⟩
theorem len1{α:Type}{l:List α}(h:l.length=1):∃a,l=[a]:=by
 obtain⟨a,t,rfl,h'⟩:=lenS h
 exact⟨a,congrArg _ (List.length_eq_zero_iff.mp h')⟩
theorem len2{α:Type}{l:List α}(h:l.length=2):∃a b,l=[a,b]:=by
 obtain⟨a,t,rfl,h'⟩:=lenS h
 obtain⟨b,rfl⟩:=len1 h'
 exact⟨a,b,rfl⟩
theorem len3{α:Type}{l:List α}(h:l.length=3):∃a b c,l=[a,b,c]:=by
 obtain⟨a,t,rfl,h'⟩:=lenS h
 obtain⟨b,c,rfl⟩:=len2 h'
 exact⟨a,b,c,rfl⟩
theorem len4{α:Type}{l:List α}(h:l.length=4):∃a b c d,l=[a,b,c,d]:=by
 obtain⟨a,t,rfl,h'⟩:=lenS h
 obtain⟨b,c,d,rfl⟩:=len3 h'
 exact⟨a,b,c,d,rfl⟩
theorem len5{α:Type}{l:List α}(h:l.length=5):∃a b c d e,l=[a,b,c,d,e]:=by
 obtain⟨a,t,rfl,h'⟩:=lenS h
 obtain⟨b,c,d,e,rfl⟩:=len4 h'
 exact⟨a,b,c,d,e,rfl⟩
theorem bind1{F:List Value->Prop}(h:∀a,F [a]):∀us:List Value,us.length=1->F us:=fun us hl=>by
 obtain⟨a,rfl⟩:=len1 hl
 exact h a
theorem Vn{F:List Value->Prop}(h:∀a b,F [a,b]):∀us:List Value,us.length=2->F us:=fun us hl=>by
 obtain⟨a,b,rfl⟩:=len2 hl
 exact h a b
theorem Qis{F:List Value->Prop}(h:∀a b c,F [a,b,c]):∀us:List Value,us.length=3->F us:=fun us hl=>by
 obtain⟨a,b,c,rfl⟩:=len3 hl
 exact h a b c
theorem Qtk{F:List Value->Prop}(h:∀a b c d,F [a,b,c,d]):∀us:List Value,us.length=4->F us:=fun us hl=>by
 obtain⟨a,b,c,d,rfl⟩:=len4 hl
 exact h a b c d
theorem bind5{F:List Value->Prop}(h:∀a b c d e,F [a,b,c,d,e]):∀us:List Value,us.length=5->F us:=fun us hl=>by
 obtain⟨a,b,c,d,e,rfl⟩:=len5 hl
 exact h a b c d e
theorem Yu{s1 s2 s3:TS}{D:Ends}{σ:St}{H:Hp}(h:let r3:TS:=s3;let r2:TS:=tSeq s2 r3;tSeq s1 r2 D σ H):(tSeq s1 (tSeq s2 (s3))) D σ H:=h
theorem Qpm{s1 s2 s3 s4:TS}{D:Ends}{σ:St}{H:Hp}(h:let r4:TS:=s4;let r3:TS:=tSeq s3 r4;let r2:TS:=tSeq s2 r3;tSeq s1 r2 D σ H):(tSeq s1 (tSeq s2 (tSeq s3 (s4)))) D σ H:=h
theorem Qpn{s1 s2 s3 s4 s5:TS}{D:Ends}{σ:St}{H:Hp}(h:let r5:TS:=s5;let r4:TS:=tSeq s4 r5;let r3:TS:=tSeq s3 r4;let r2:TS:=tSeq s2 r3;tSeq s1 r2 D σ H):(tSeq s1 (tSeq s2 (tSeq s3 (tSeq s4 (s5))))) D σ H:=h
theorem Qpo{s1 s2 s3 s4 s5 s6:TS}{D:Ends}{σ:St}{H:Hp}(h:let r6:TS:=s6;let r5:TS:=tSeq s5 r6;let r4:TS:=tSeq s4 r5;let r3:TS:=tSeq s3 r4;let r2:TS:=tSeq s2 r3;tSeq s1 r2 D σ H):(tSeq s1 (tSeq s2 (tSeq s3 (tSeq s4 (tSeq s5 (s6)))))) D σ H:=h
end
end L2
namespace L2
open PySem PySem.Spec PyProof.Rows PySem.SeqAt
end L2
namespace Nb
open PySem L2
abbrev Row:=L2.Row
def ledR(t:List Nat)(n:Nat)(r:Row):Row:=(put r.1 t n,r.2)
def Qdk(cs:List Int)(t:List Nat)(n:Nat):Prop:=∀i,i<n->cs.getD i 0=cs.getD (t.getD i 0) 0
def Yp(rs:List Row)(cs:List Int)(t:List Nat)(n:Nat):Prop:=Qdk cs t n/\(rs.map (ledR t n)).Perm rs
theorem Jk:∀{xs ys:List Row},xs.Perm ys->xs.Pairwise (fun x y=>Kl y x=false)->ys.Pairwise (fun x y=>Kl y x=false)->xs=ys
 |[],ys,p,_,_=>(List.nil_perm.mp p).symm
 |x::xs,[],p,_,_=>absurd (List.perm_nil.mp p) (by simp)
 |x::xs,y::ys,p,h1,h2=>by
  obtain⟨a1,a2⟩:=yXb.mp h1
  obtain⟨b1,b2⟩:=yXb.mp h2
  have exy:x=y:=by
   have mx:x∈y::ys:=p.mem_iff.mp zJ
   have my:y∈x::xs:=p.mem_iff.mpr zJ
   rcases yY.mp mx with e | mx
   .exact e
   .rcases yY.mp my with e | my
    .exact e.symm
    .exact Qff (b1 x mx) (a1 y my) |>.symm▸rfl
  subst exy
  rw[Jk (p.cons_inv) a2 b2]
theorem Ko{α β:Type}{f:α->β}(hf:∀a b,f a=f b->a=b):∀{xs ys:List α},xs.map f=ys.map f->xs=ys
 |[],[],_=>rfl
 |[],y::ys,h=>by simp at h
 |x::xs,[],h=>by simp at h
 |x::xs,y::ys,h=>by
  rw[zW,zW]at h
  injection h with h1 h2
  rw[hf _ _ h1,Ko hf h2]
theorem Qhh{r q:Row}(h:rowD r=rowD q):r=q:=by
 unfold rowD at h
 injection h with h
 injection h with h1 h2
 injection h1 with h1
 injection h2 with h2 _
 injection h2 with h2
 exact Prod.ext (Ko (fun a b e=>by injection e) h1) h2
theorem Qdl{xs ys:List Row}:(D.lst (xs.map rowD)=D.lst (ys.map rowD))↔xs=ys:=by
 constructor
 .intro h
  injection h with h
  exact Ko (fun a b e=>Qhh e) h
 .rintro rfl;rfl
theorem Qdm{x y:Int}[i:Decidable (V.int x=V.int y)]:decide (V.int x=V.int y)=decide (x=y):=decide_eq_decide.mpr ⟨fun h=>V.int.inj h,fun h=>congrArg V.int h⟩
theorem Qpp{ns:List Int}{i:Nat}{n:Int}(e:ns[i]?=some n):ns.getD i 0=n:=by rw[jY,e];rfl
theorem Qhi{ns:List Nat}{i:Nat}{n:Nat}(e:ns[i]?=some n):ns.getD i 0=n:=by rw[jY,e];rfl
theorem atK6{cs:List Int}{k:Nat}(h:k<cs.length):atI (cs.map V.int) ((k:Nat):Int)=some (.int (cs.getD k 0)) :=
 Qpj (by rw[jV,jY,gE h];rfl)
theorem getT{n:Nat}{t:List Nat}(T:IsTurn n t){i:Nat}(h:i<n):t[i]?=some (t.getD i 0)/\t.getD i 0<n:=by
 have hl:i<t.length:=by rw[T.length];exact h
 have e:t[i]?=some (t.getD i 0):=by rw[jY,gE hl];rfl
 exact⟨e,T.lt e⟩
theorem Qbp{n:Nat}{t:List Nat}(T:IsTurn n t)(r:Row):(ledR t n r).1.length=n:=Qfe T
theorem any_no{cs:List Int}{t:List Nat}{n:Nat}:(((List.range n).map fun j=>!decide (cs.getD j 0=cs.getD (t.getD j 0) 0)).any id)=true↔¬Qdk cs t n:=by
 rw[yYd]
 constructor
 .rintro⟨b,hb,e⟩ h
  obtain⟨j,hj,rfl⟩:=zQ.mp hb
  have e':(!decide (cs.getD j 0=cs.getD (t.getD j 0) 0))=true:=e
  rw[xW (h j (yQ.mp hj))]at e'
  cases e'
 .intro h
  refine Classical.byContradiction fun z=>h fun i hi=>Classical.byContradiction fun y=>z ⟨_,zQ.mpr ⟨i,yQ.mpr hi,rfl⟩,?_⟩
  show(!decide (cs.getD i 0=cs.getD (t.getD i 0) 0))=true
  rw[wQ y];rfl
def ledM(t:List Nat)(n:Nat)(r:Row):Nat->Row
 |0=>r
 |m+1=>ledR t n (ledM t n r m)
theorem Qlu{n:Nat}{t:List Nat}(T:IsTurn n t){r:Row}(hl:r.1.length=n):∀m,ledM t n r m=(put r.1 (pw n t m) n,r.2)
 |0=>by show r=(put r.1 (List.range n) n,r.2);rw[Wf hl]
 |m+1=>by
  show ledR t n (ledM t n r m)=_
  rw[Qlu T hl m]
  show(put (put r.1 (pw n t m) n) t n,r.2)=(put r.1 (after (pw n t m) t) n,r.2)
  rw[Qtg (Wg T m) T hl]
theorem Qbq{n:Nat}{t:List Nat}(T:IsTurn n t){r:Row}(hl:r.1.length=n):∀m,(ledM t n r m).1.length=n
 |0=>hl
 |m+1=>Qbp T _
theorem Wj{K:Fg}{H:Hp}{vs:List V}{rs:List Row}{t:Addr}{r:Row}(h:RowsAre K H vs rs)(z:RowAt K H t r):RowsAre K H (vs++[.ref t]) (rs++[r]):=RowsAre.snoc h z
theorem Qlv{K:Fg}{H:Hp}{vs ws:List V}{rs qs:List Row}(h1:RowsAre K H vs rs)(h2:RowsAre K H ws qs):RowsAre K H (vs++ws) (rs++qs):=by
 unfold RowsAre at *
 induction h1 with
 |nil=>exact h2
 |cons a b ih=>exact .cons a ih
theorem Xg{K:Fg}{H H':Hp}{vs:List V}{rs:List Row}(e:Same H H')(h:RowsAre K H vs rs):RowsAre K H' vs rs:=h.imp fun _ _ z=>z.same e
theorem Wl{K:Fg}{H:Hp}{D:Addr}{ys zs vs:List V}{rs:List Row}(hD:H D=some (.lst ys))(h:RowsAre K H vs rs):RowsAre K (upd H D (.lst zs)) vs rs:=h.imp fun _ _ z=>z.upd hD
theorem Qpq{K:Fg}{H:Hp}{t:Addr}{r:Row}(z:RowAt K H t r):RowsAre K H [.ref t] [r]:=.cons ⟨t,rfl,z⟩ .nil
theorem Qlw{K:Fg}{H:Hp}{a:Addr}{ns:List Int}(h:SqL K H a (ns.map V.int)):HasD K H (.ref a) (.lst (ns.map .int)):=by
 refine .lst h (by rw[jX,jX]) fun i v x e1 e2=>?_
 obtain⟨n,en,rfl⟩:=Ze e1
 rw[jV,en]at e2
 cases e2
 exact .int n
theorem Qhj{t1 t2:TS}{D:Ends}{i:Nat}{x:V}{σ:St}{H:Hp}(Pv:St->Hp->Prop)(h2:∀σ' H',Pv σ' H'->t2 D σ' H')(h1:(∀σ' H',Pv σ' H'->t2 D σ' H')->t1 { D with nx:=t2 D } (σ.set i (some x)) H):Qag i x σ H ({ D with nx:=tSeq t1 t2 D }:Ends).nx:=h1 h2
def spKT(K:Fg):Sp:=fun vs H Q _=>∃(p u:Addr) (rs:List Row) (cs:List Int) (n:Nat) (t:List Nat),vs=[.ref p,.ref u]/\ProbAt K H p rs cs/\SqL K H u ((tI t).map V.int)/\IsTurn n t/\n<=100/\(∀r∈rs,r.1.length=n)/\cs.length=n/\rs.length<=1000 /\
 ∀(c:Bool) (H':Hp),Same H H'->(c=true↔Yp rs cs t n)->Q (.bl c) H'
theorem Qhk{ws:List V}{v:V}(h:ws[ws.length-1]?=some v)(h0:0<ws.length):atI ws (-1)=some v:=by
 unfold atI ixN
 rw[if_neg Om,if_pos Om]
 show ws[((-1:Int)+(ws.length:Int)).toNat]?=_
 rw[show((-1:Int)+(ws.length:Int)).toNat=ws.length-1 by lia]
 exact h
theorem Qpr{a b:List Int}(hl:a.length=b.length)(h:∀p,p<a.length->a.getD p 0=b.getD p 0):a=b:=by
 refine yQa hl fun p h1 h2=>?_
 have:=h p h1
 rw[jY,jY,gE h1,gE h2]at this
 exact this
theorem Qfi{xs ys:List (Int×Int)}(p:xs.Perm ys)(h1:xs.Pairwise (fun x y=>Kl (prR y) (prR x)=false))(h2:ys.Pairwise (fun x y=>Kl (prR y) (prR x)=false)):xs=ys :=
 Ko (fun _ _=>Qtj) (Jk (p.map prR) (jYb.mpr h1) (jYb.mpr h2))
def prD(p:Int×Int):D:=.tup [.int p.1,.int p.2]
def top(i:Nat):Stmt:=PySem.Challenge.pw_nonebetter_k28_whole_turns_from_choices.main.body.getD i (.Pass ⟨0,0,0,0⟩)
abbrev Qhl:Stmt:=top 12
abbrev Qps:Stmt:=top 13
abbrev Qpt:Stmt:=top 14
abbrev Qpu:Stmt:=top 15
abbrev Qhm:Stmt:=top 16
abbrev Kp:Stmt:=top 17
abbrev Qpv:Stmt:=top 18
def Qrw:Sp:=fun vs H Q _=>∃c k:Int,vs=[.int c,.int k]/\0<=k/\k<=1000000/\∀z:Int,0<=z->z<2147483587->Q (.int z) H
def Qrx(K:Fg):Sp:=fun vs H Q _=>∃(a:Addr) (ns:List Int) (k n:Int),vs=[.ref a,.int k,.int n]/\SqL K H a (ns.map V.int)/\0<=k/\k<=1000/\1<=n/\n<=1000/\∀z:Int,Q (.int z) H
def Qlx(K:Fg):Sp:=fun vs H Q _=>∃(x many:Int) (g:Bool),vs=[.int x,.int many,.bl g]/\0<=many/\many<=1000 /\
 ∀(t:Addr) (r:List Int×Int) (H':Hp),Same H H'->RowAt K H' t r->(r.1.length:Int)=many->Q (.ref t) H'
def Wm(K:Fg):Sp:=fun vs H Q _=>∃(a:Addr) (ns:List Int) (many count:Int),vs=[.ref a,.int many,.int count]/\SqL K H a (ns.map V.int)/\0<=many/\many<=100/\0<=count/\count<=100 /\
 ∀(t:Addr) (rs:List (List Int×Int)) (cs:List Int) (H':Hp),Same H H'->ProbAt K H' t rs cs->(∀r∈rs,(r.1.length:Int)=many)->(cs.length:Int)=many->(rs.length:Int)=count->Q (.ref t) H'
def Qry(K:Fg):Sp:=fun vs H Q _=>∃(t:Addr) (rs:List (List Int×Int)) (cs:List Int),vs=[.ref t]/\ProbAt K H t rs cs/\rs.length<=1000/\∀t' H',Same H H'->ProbAt K H' t' rs cs->Q (.ref t') H'
theorem p18:(10:Int) ^ (18:Int).toNat=1000000000000000000:=Dk
theorem bigB{b:Int}(h0:0<b)(h1:b<=2000000000000000000):b≠0/\Big b:=⟨Om,xX (show b.natAbs<=2000000000000000000 by lia) Dk⟩
theorem Qrz(x:Int)(hx:0<x)(hx2:x<=100)(g:Bool):∃b:Int,atI [V.int x,V.int (2*(10:Int) ^ (18:Int).toNat-1)] (if g=true then 1 else 0)=some (.int b)/\0<b/\b<=2000000000000000000:=by
 rw[p18]
 cases g
 .exact⟨x,rfl,hx,Om⟩
 .exact⟨2*1000000000000000000-1,rfl,Dc,Dc⟩
def Qsa(K:Fg):Sp:=fun vs H Q _=>∃(many z:Int),vs=[.int many,.int z]/\0<=many/\many<=1000/\∀(u:Addr) (t:List Nat) (H':Hp),Same H H'->H' u=some (.lst ((tI t).map V.int))->IsTurn many.toNat t->Q (.ref u) H'
def Qly(K:Fg):Sp:=fun vs H Q _=>∃(p u:Addr) (rs:List Row) (cs:List Int) (n:Nat) (t:List Nat),vs=[.ref p,.ref u]/\ProbAt K H p rs cs/\SqL K H u ((tI t).map V.int)/\IsTurn n t/\n<=10/\(∀r∈rs,r.1.length=n)/\cs.length=n/\rs.length<=3 /\
 ∀(p':Addr) (rs':List Row) (cs':List Int) (H':Hp),Same H H'->ProbAt K H' p' rs' cs'->(∀r∈rs',r.1.length=n)->cs'.length=n->rs'.length<=108->Yp rs' cs' t n->Q (.ref p') H'
section
variable{P:Program}{w:World}{K:Fg}{mg:Str->Option Value}{base:Heap}
theorem Qtl:FnScope ["_law_found"] ["_law_found"] (Qh Qhl):=⟨rfl,rfl,rfl,Dk,rfl,Dk,Dk⟩
theorem Qtm(F:Fn K mg "_law_whole" Qhl)(M:Mg mg):Cal P w K mg base 1 "_law_whole" ["_law_found"] (Qli):=by
 refine Xy F Qtl (fun _ _ _ _ _ _=>bind1 (fun _=>rfl)) (fun vs H Q E h=>?_) (fun f cdv A outer s H vs Q E hr h=>?_)
 .obtain⟨z,rfl,_⟩:=h
  rfl
 obtain⟨z,rfl,q⟩:=h
 refine⟨_,(Qm (Qs (Qch (Qn Qgr rfl M.isinstance Zq (Qa (pv 0) (Qa (Qsz M.int_ Qla) Qf))) (Qcg (Qjw (Qn Qgr rfl M.isinstance Zq (Qa (pv 0) (Qa (Qsz M.bool_ Qta) Qf)))))))),?_⟩
 refine⟨_,rfl,_,"int",true,rfl,.inl ⟨rfl,rfl⟩,true,rfl,?_⟩
 refine iteT ⟨_,rfl,_,"bool",false,rfl,.inr (.inl ⟨rfl,rfl⟩),false,rfl,q⟩
theorem scCell:FnScope ["_law_script","_law_k"] ["_law_script","_law_k"] (Qh Qps):=⟨rfl,rfl,rfl,Dk,rfl,Dk,Dk⟩
theorem okCell(F:Fn K mg "_law_cell_at" Qps)(M:Mg mg):Cal P w K mg base 1 "_law_cell_at" ["_law_script","_law_k"] (Qgy K):=by
 refine Xy F scCell (fun _ _ _ _ _ _=>Vn (fun _ _=>rfl)) (fun vs H Q E h=>?_) (fun f cdv A outer s H vs Q E hr h=>?_)
 .obtain⟨a,ns,k,rfl,_⟩:=h
  rfl
 obtain⟨a,ns,k,rfl,hS,h0,q⟩:=h
 refine⟨_,(Qg (Zn (Xc op_lt (pv 1) (Qn Xa rfl M.len Zj (Qa (pv 0) Qf)) (Xf _)) (Qm (Qs (Qu Xn (pv 0) (pv 1) (fun _ _=>rfl)))) Xi)
  (Qm (Qs Qj))),?_⟩
 refine⟨_,rfl,_,rfl,a,_,rfl,.inl hS,_,_,rfl,rfl,_,rfl,?_⟩
 refine ite2 (fun c=>?_) (fun c=>?_)
 .obtain⟨v,hv⟩:=atNs h0 (jJb c)
  exact⟨_,rfl,_,rfl,a,_,_,_,rfl,rfl,hS,hv,q v⟩
 .exact q 0
theorem scMix2:FnScope ["_law_cell","_law_k","_law_number"] ["_law_cell","_law_k"] (Qh Qpt):=⟨rfl,rfl,rfl,Dk,rfl,Dk,Dk⟩
theorem okMix2(F:Fn K mg "_law_mixed" Qpt)(M:Mg mg):Cal P w K mg base 1 "_law_mixed" ["_law_cell","_law_k"] (Qrw):=by
 refine Xy F scMix2 (fun _ _ _ _ _ _=>Vn (fun _ _=>rfl)) (fun vs H Q E h=>?_) (fun f cdv A outer s H vs Q E hr h=>?_)
 .obtain⟨c,k,rfl,_⟩:=h
  rfl
 obtain⟨c,k,rfl,h0,h1,q⟩:=h
 refine⟨_,(Qg (Qo (i:=2) scMix2.nd rfl (Or.inl rfl) (Qx Zc (Qx Yi (Qx Yi (Qx Ke (pv 0) Qj) (Qx Ke (Qx Ke (pv 1) (pv 1)) Qj)) Qj) Qj))
  (Qg (Qo (i:=2) scMix2.nd rfl (Or.inl rfl) (Qx Zc (Qx Ke (pv 2) (pv 2)) Qj))
  (Qm (Qs (Qx Zc (Qx Ke (pv 2) (pv 2)) Qj))))),?_⟩
 refine Yu ?_
 intro rT3 rT2
 have b1:∀x:Int,-(2 ^ 64)<x % 2147483647/\x % 2147483647<2 ^ 64:=fun x=>⟨Om,Om⟩
 have b2:∀x:Int,-(2 ^ 64)<x % 2147483629/\x % 2147483629<2 ^ 64:=fun x=>⟨Om,Om⟩
 refine⟨_,rfl,_,_,rfl,rfl,.inr ⟨Dc,Dc⟩,_,rfl,_,rfl,_,_,rfl,rfl,.inl ⟨Om,Om⟩,_,_,rfl,rfl,.inr ⟨Dc,Dc⟩,_,_,rfl,rfl,_,_,rfl,rfl,_,_,rfl,rfl,(by show(0:Int)<_;decide +kernel),?_⟩
 refine⟨_,rfl,_,rfl,_,_,rfl,rfl,.inl (b1 _),_,_,rfl,rfl,(by show(0:Int)<_;decide +kernel),?_⟩
 refine⟨_,rfl,_,rfl,_,_,rfl,rfl,.inl (b2 _),_,_,rfl,rfl,(by show(0:Int)<_;decide +kernel),q _ (yXa _ Dc) (kJb _ Dc)⟩
theorem scLeft:FnScope ["_law_script","_law_k","_law_count","_law_left_here","_law_j","_law_found"] ["_law_script","_law_k","_law_count"] (Qh Qpu):=⟨rfl,rfl,rfl,Dk,rfl,Dk,Dk⟩
theorem okLeft(F:Fn K mg "_law_left" Qpu)(M:Mg mg)(cl_cell_at:Cal P w K mg base 1 "_law_cell_at" ["_law_script","_law_k"] (Qgy K))(cl_mixed:Cal P w K mg base 1 "_law_mixed" ["_law_cell","_law_k"] (Qrw)):Cal P w K mg base 2 "_law_left" ["_law_script","_law_k","_law_count"] (Qrx K):=by
 refine Xy F scLeft (fun _ _ _ _ _ _=>Qis (fun _ _ _=>rfl)) (fun vs H Q E h=>?_) (fun f cdv A outer s H vs Q E hr h=>?_)
 .obtain⟨a,ns,k,n,rfl,_⟩:=h
  rfl
 obtain⟨a,ns,k,n,rfl,hS,h0,h1,h2,h3,q⟩:=h
 refine⟨_,(Qg (Qo (i:=3) scLeft.nd rfl (Or.inl rfl) (Xp cl_cell_at (hr.mono Dc) (Qa (pv 0) (Qa (Qx Yi Qj (pv 1)) Qf))))
  (Qg (Yb PassesOwn.never rfl (Qlm rfl M.range_ (Qa (Qx Yi (Qx Yi Qj (pv 1)) (pv 2)) (Qa (Qn (Qkc rfl) rfl M.min Qrt (Qa Qj (Qa (Qn Xa rfl M.len Zj (Qa (pv 0) Qf)) Qf))) (Qa (pv 2) Qf)))) (Qz (i:=4) scLeft.nd rfl (Or.inl rfl) (Or.inl rfl)) (Qm (Qo (i:=3) scLeft.nd rfl (Or.inl rfl) (Qx Yi (pv 3) (Xp cl_mixed (hr.mono Dc) (Qa (Qu Xn (pv 0) (pv 4) (fun _ _=>rfl)) (Qa (pv 4) Qf)))))))
  (Qg (Zn (Xc Qeu (Qx Zc (Qx Jv (Xp cl_cell_at (hr.mono Dc) (Qa (pv 0) (Qa Qj Qf))) Qj) Qj) Qj (Xf _)) (Qm (Qs (pv 3))) Xi)
  (Qg (Qo (i:=5) scLeft.nd rfl (Or.inl rfl) Qj)
  (Qg (Yb PassesOwn.never rfl (Ya rfl M.range_ (Qa Qj Qf)) (Qz (i:=4) scLeft.nd rfl (Or.inl rfl) (Or.inl rfl)) (Qm (Qo (i:=5) scLeft.nd rfl (Or.inl rfl) (Qx Yi (Qx Ke (pv 5) Qj) (Xp cl_mixed (hr.mono Dc) (Qa (pv 3) (Qa (Qx Yi (pv 4) (Qx Ke Qj (pv 1))) Qf)))))))
  (Qm (Qs (pv 5)))))))),?_⟩
 refine Qpo ?_
 intro rT6 rT5 rT4 rT3 rT2
 refine⟨_,rfl,_,rfl,_,_,rfl,rfl,a,ns,_,rfl,hS,Om,fun z=>?_⟩
 have mx:(if (((ns.map V.int).length:Nat):Int)<63 then(((ns.map V.int).length:Nat):Int)else 63)<=63/\0<=(if (((ns.map V.int).length:Nat):Int)<63 then(((ns.map V.int).length:Nat):Int)else 63)/\(if (((ns.map V.int).length:Nat):Int)<63 then(((ns.map V.int).length:Nat):Int)else 63)<=(((ns.map V.int).length:Nat):Int):=by
  split<;>lia
 refine⟨_,rfl,_,_,rfl,rfl,_,rfl,_,_,rfl,rfl,_,rfl,_,_,rfl,.inl hS,_,_,rfl,_,rfl,?_⟩
 generalize (if (((ns.map V.int).length:Nat):Int)<63 then(((ns.map V.int).length:Nat):Int)else 63)=e at mx⊢
 obtain⟨m1,m2,m3⟩:=mx
 refine⟨_,_,_,rfl,⟨Om,Om,small3 Om Om Om Om Om Om⟩,Qir (lo:=3+k+n) (c:=n) (n:=(Builtin.Range.rangeSize (3+k+n) e n).toNat) (fun i σ H1=>H1=H/\∃(y:Int) (u:Option V),σ=[some (.ref a),some (.int k),some (.int n),some (.int y),u,none]) ⟨rfl,z,none,rfl⟩ ?_ ?_⟩
 .rintro i σ H1 hi ⟨rfl,y,u,rfl⟩
  have lt:=Qln (show 0<n by lia) hi
  have pn:0<=(i:Int)*n:=Int.mul_nonneg Om Om
  obtain⟨v,hv⟩:=atNs (ns:=ns) (k:=3+k+n+(i:Int)*n) Om Om
  exact⟨_,rfl,_,rfl,_,rfl,a,_,_,_,rfl,rfl,hS,hv,_,rfl,v,_,rfl,Om,Om,fun x _ _=>⟨_,_,rfl,rfl,rfl,_,_,rfl⟩⟩
 .rintro σ H1 ⟨rfl,y,u,rfl⟩
  refine⟨_,rfl,a,ns,1,rfl,hS,Dc,fun c=>⟨_,_,rfl,rfl,⟨Dc,Dc⟩,_,_,rfl,rfl,(by show(0:Int)<_;decide +kernel),rfl,_,rfl,ite2 (fun _=>⟨_,rfl,q y⟩) (fun _=>?_)⟩⟩
  let Pv1:Nat->St->Hp->Prop:=fun i σ H2=>H2=H1/\∃(f:Int) (u:Option V),σ=[some (.ref a),some (.int k),some (.int n),some (.int y),u,some (.int f)]
  refine⟨5,rfl,Dc,Dc,Yn (lo:=0) (n:=(5:Int).toNat) Pv1 ⟨rfl,0,_,rfl⟩ ?_ ?_⟩
  .rintro i σ H2 hi ⟨rfl,f,u,rfl⟩
   have hi':i<5:=hi
   exact⟨_,rfl,_,_,rfl,rfl,.inr ⟨Dc,Dc⟩,_,rfl,_,rfl,_,rfl,_,_,rfl,rfl,.inl ⟨Dc,Dc⟩,_,_,rfl,rfl,y,_,rfl,Om,Om,fun x _ _=>⟨_,_,rfl,rfl,rfl,_,_,rfl⟩⟩
  .rintro σ H2 ⟨rfl,f,u,rfl⟩
   exact⟨_,rfl,q f⟩
theorem scRow22:FnScope ["_law_left_here","_law_many","_law_great","_law_numbers","_law_base","_law_k"] ["_law_left_here","_law_many","_law_great"] (Qh Qhm):=⟨rfl,rfl,rfl,Dk,rfl,Dk,Dk⟩
theorem Qtn(F:Fn K mg "_law_row" Qhm)(M:Mg mg):Cal P w K mg base 1 "_law_row" ["_law_left_here","_law_many","_law_great"] (Qlx K):=by
 refine Xy F scRow22 (fun _ _ _ _ _ _=>Qis (fun _ _ _=>rfl)) (fun vs H Q E h=>?_) (fun f cdv A outer s H vs Q E hr h=>?_)
 .obtain⟨x,many,g,rfl,_⟩:=h
  rfl
 obtain⟨x,many,g,rfl,h0,h1,q⟩:=h
 refine⟨_,(Qg (Qo (i:=3) scRow22.nd rfl (Or.inl rfl) (Yj Qf))
  (Qg (Qo (i:=4) scRow22.nd rfl (Or.inl rfl) (Qu Xn (Yj (Qa Qj (Qa (Qx Qgm (Qx Ke Qj (Qx Qrn Qj Qj)) Qj) Qf))) (Qt Qck rfl M.int_ Qla (Qa (pv 2) Qf)) (fun _ _=>rfl)))
  (Qg (Yb PassesOwn.never rfl (Ya rfl M.range_ (Qa (pv 1) Qf)) (Qz (i:=5) scRow22.nd rfl (Or.inl rfl) (Or.inl rfl)) (Qg (Zb (Vm PySem.F.plainAttrs_list PySem.F.slot_list_append PySem.F.type_list_append Xo (pv 3) (Qa (Qx Qgm (Qx Zc (pv 0) (pv 4)) (Qx Jv (pv 4) Qj)) Qf)))
  (Qm (Qo (i:=0) scRow22.nd rfl (Or.inl rfl) (Qx Qbm (pv 0) (pv 4))))))
  (Qg (Qo (i:=4) scRow22.nd rfl (Or.inl rfl) (Qu Xn (Yj (Qa Qj (Qa (Qx Qgm (Qx Ke Qj (Qx Qrn Qj Qj)) Qj) Qf))) (Qt Qck rfl M.int_ Qla (Qa (pv 2) Qf)) (fun _ _=>rfl)))
  (Qm (Qs (Yd (Qa (Qt Xd rfl M.tuple_ Yt (Qa (pv 3) Qf)) (Qa (Qx Qgm (Qx Zc (pv 0) (pv 4)) (Qx Jv (pv 4) Qj)) Qf))))))))),?_⟩
 refine Qpn ?_
 intro rT5 rT4 rT3 rT2
 have hz:(1000:Nat)<sizeLine:=Dc
 refine⟨by show 0<=sizeLine;decide,fun g0 hg0=>?_⟩
 obtain⟨b,hb,b0,b1⟩:=Qrz 9 Dc Dc g
 obtain⟨b',hb',b0',b1'⟩:=Qrz 15 Dc Dc g
 have hd:=bigB b0 b1
 refine⟨_,_,rfl,rfl,⟨Dc,Dc,Dc⟩,_,_,rfl,rfl,.inl ⟨Dc,Dc⟩,_,_,rfl,rfl,by show 2<=sizeLine;decide,fun p hp=>?_⟩
 have s1:Same H (upd (upd H g0 (.lst [])) p (.lst [V.int 9,V.int (2*(10:Int) ^ (18:Int).toNat-1)])):=(Qc hg0 _).trans (Qc hp _)
 refine⟨_,rfl,.inr ⟨g,rfl,?_⟩⟩
 refine⟨p,_,_,_,rfl,rfl,Qi Qb,hb,?_⟩
 let Pv2:Nat->St->Hp->Prop:=fun i σ H1=>∃(y:Int) (ms:List Int) (u:Option V),σ=[some (.int y),some (.int many),some (.bl g),some (.ref g0),some (.int b),u]/\ms.length=i/\H1 g0=some (.lst (ms.map V.int))/\∀c o,H c=some o->H1 c=some o
 refine⟨_,rfl,many,rfl,Om,Om,Yn (lo:=0) (n:=many.toNat) Pv2
  ⟨x,[],none,rfl,rfl,by rw[Qk (Ql Qb hp)];exact Qb,s1⟩ ?_ ?_⟩
 .rintro i σ H1 hi ⟨y,ms,u,rfl,rfl,hg,s2⟩
  refine⟨_,rfl,.inl ⟨rfl,_,Qi hg⟩,_,rfl,_,rfl,_,_,rfl,rfl,b0,_,rfl,_,_,rfl,rfl,⟨Dc,Dc⟩,_,_,rfl,rfl,g0,_,_,rfl,rfl,hg,by rw[jX];lia,?_⟩
  refine⟨_,rfl,_,rfl,_,_,rfl,rfl,hd,_,ms++[y % b-b / 2],_,rfl,by rw[yV];rfl,by rw[Qb,zK];rfl,fun c o e=>?_⟩
  rw[Qk (Ql e hg0)]
  exact s2 c o e
 .rintro σ H1 ⟨y,ms,u,rfl,hl,hg,s2⟩
  refine⟨_,_,rfl,rfl,⟨Dc,Dc,Dc⟩,_,_,rfl,rfl,.inl ⟨Dc,Dc⟩,_,_,rfl,rfl,by show 2<=sizeLine;decide,fun p2 hp2=>?_⟩
  have s3:=(show Same H H1 from s2).trans (Qc hp2 (.lst [V.int 15,V.int (2*(10:Int) ^ (18:Int).toNat-1)]))
  refine⟨_,rfl,.inr ⟨g,rfl,?_⟩⟩
  refine⟨p2,_,_,_,rfl,rfl,Qi Qb,hb',?_⟩
  refine⟨_,rfl,g0,_,rfl,.inl ⟨Qi (by rw[Qk (Ql hg hp2)];exact hg),fun l2 hl2=>?_⟩⟩
  refine⟨_,rfl,_,rfl,_,_,rfl,rfl,b0',_,rfl,_,_,rfl,rfl,⟨Dc,Dc⟩,_,_,rfl,rfl,by show 2<=sizeLine;decide,fun t ht=>?_⟩
  have nt:l2≠t:=Ql Qb ht
  exact q t (ms,_) _ ((s3.trans (Qc hl2 _)).trans (Qc ht _)) ⟨l2,Qr Qb,Qr (by rw[Qk nt];exact Qb)⟩ (by show(ms.length:Int)=many;lia)
theorem scProblem:FnScope ["_law_script","_law_many","_law_count","_law_great","_law_rows"] ["_law_script","_law_many","_law_count"] (Qh Kp):=⟨rfl,rfl,rfl,Dk,rfl,Dk,Dk⟩
theorem Qlz(F:Fn K mg "_law_problem" Kp)(M:Mg mg)(cl_cell_at:Cal P w K mg base 1 "_law_cell_at" ["_law_script","_law_k"] (Qgy K))(cl_row:Cal P w K mg base 1 "_law_row" ["_law_left_here","_law_many","_law_great"] (Qlx K))(cl_left:Cal P w K mg base 2 "_law_left" ["_law_script","_law_k","_law_count"] (Qrx K)):Cal P w K mg base 3 "_law_problem" ["_law_script","_law_many","_law_count"] (Wm K):=by
 refine Xy F scProblem (fun _ _ _ _ _ _=>Qis (fun _ _ _=>rfl)) (fun vs H Q E h=>?_) (fun f cdv A outer s H vs Q E hr h=>?_)
 .obtain⟨a,ns,many,count,rfl,_⟩:=h
  rfl
 obtain⟨a,ns,many,count,rfl,hS,h2,h3,h4,h5,q⟩:=h
 have hu:(A.deeper (PyProof.Rows.envOfC "_law_problem" (Qh Kp) s.heap.objs.size f cdv)).units+1<cLine:=xX (xZ Dc _) hr.un
 refine⟨_,(Qg (Qo (i:=3) scProblem.nd rfl (Or.inr rfl) (Zz Qeu (Qx Zc (Qx Jv (Xp cl_cell_at (hr.mono Dc) (Qa (pv 0) (Qa Qj Qf))) Qj) Qj) Qj (Xf _)))
  (Qg (Qbd (i:=4) ["_law_k","_law_script","_law_many","_law_count","_law_great"] [none,some 0,some 1,some 2,some 3] rfl scProblem.nd rfl (Or.inl rfl) (Ya rfl M.range_ (Qa (pv 2) Qf)) (fun _ _ _=>(Qz (i:=0) (show(["_law_k","_law_script","_law_many","_law_count","_law_great"]:List Str).Nodup by decide +kernel) rfl (Or.inl rfl) (Or.inr rfl))) (fun _ _ _=>Ye) (fun _ _ _=>(Xp cl_row (hr.mono Dc) (Qa (Xp cl_left (hr.mono Dc) (Qa (pv 1) (Qa (Qx Yi Qj (pv 0)) (Qa (Qx Yi (pv 3) Qj) Qf)))) (Qa (pv 2) (Qa (pv 4) Qf))))))
  (Qm (Qs (Yd (Qa (pv 4) (Qa (Qu Qy (Xp cl_row (hr.mono Dc) (Qa (Xp cl_left (hr.mono Dc) (Qa (pv 0) (Qa Qj (Qa (Qx Yi (pv 2) Qj) Qf)))) (Qa (pv 1) (Qa (pv 3) Qf)))) Qj (fun _ _=>rfl)) Qf))))))),?_⟩
 refine Yu ?_
 intro rT3 rT2
 have hz:(1000:Nat)<sizeLine:=Dc
 refine⟨_,rfl,a,ns,0,rfl,hS,Dc,fun z=>⟨_,_,rfl,rfl,⟨Dc,Dc⟩,_,_,rfl,rfl,(by show(0:Int)<_;decide +kernel),rfl,?_⟩⟩
 refine⟨_,rfl,count,rfl,Om,Om,fun D hD=>?_⟩
 let Pv3:Nat->St->List V->Hp->Prop:=fun i τ ys H1=>∃(rs:List (List Int×Int)) (v:Option V),τ=[v,some (.ref a),some (.int many),some (.int count),some (.bl (decide (V.int (z / 64 % 8)=V.int 1)))]/\RowsAre K H1 ys rs/\(∀r∈rs,(r.1.length:Int)=many)/\rs.length=i/\H1 D=some (.lst ys)/\Same H H1
 refine Zx (n:=count.toNat) Pv3
  ?_ (fun i τ ys H1 hi h=>?_) (fun i τ ys H1 hi h=>hi) (fun τ ys H1 h=>jW _) ?_ ?_
 .exact⟨[],none,rfl,.nil,(fun r hr=>nomatch hr),rfl,Qb,Qc hD _⟩
 .obtain⟨rs,v,rfl,hr',hm,rfl,hD1,s1⟩:=h
  exact⟨hD1,by rw[hr'.length];lia⟩
 .rintro i τ ys H1 x H2 hi ⟨rs,v,rfl,hr',hm,rfl,hD1,s1⟩ ⟨rfl,rfl⟩
  refine⟨_,rfl,_,rfl,_,_,rfl,rfl,_,rfl,_,_,rfl,rfl,a,ns,_,_,rfl,s1.seq hS,Om,Om,Om,Om,fun y=>?_⟩
  refine⟨_,rfl,_,rfl,y,many,decide (V.int (z / 64 % 8)=V.int 1),rfl,h2,Om,fun t r H3 s3 rt hl=>⟨s3 _ _ hD1,rs++[r],_,rfl,?_,?_,by rw[yV];rfl,Qb,fun b o e=>?_⟩⟩
  .exact RowsAre.snoc (hr'.imp fun _ _ z=>(z.same s3).upd (s3 _ _ hD1)) (rt.upd (s3 _ _ hD1))
  .intro r' hr2
   rcases wX.mp hr2 with z | z
   .exact hm r' z
   .rw[kW.mp z];exact hl
  .rw[Qk (Ql e hD)]
   exact s3 _ _ (s1 b o e)
 .rintro τ ys H1 ⟨rs,v,rfl,hr',hm,hl,hD1,s1⟩
  refine⟨_,rfl,_,rfl,_,rfl,_,_,rfl,rfl,a,ns,_,_,rfl,s1.seq hS,Dc,Dc,Om,Om,fun y=>?_⟩
  refine⟨_,rfl,_,rfl,y,many,decide (V.int (z / 64 % 8)=V.int 1),rfl,h2,Om,fun t r H3 s3 rt hl'=>?_⟩
  obtain⟨p,rt1,rt2⟩:=rt
  refine⟨t,_,_,_,rfl,rfl,rt1,at0,by show 2<=sizeLine;decide,fun u hu'=>?_⟩
  have s4:Same H3 (upd H3 u (.tup [.ref D,.ref p])):=Qc hu' _
  exact q u rs r.1 _ (s1.trans (s3.trans s4)) ⟨D,p,ys,Qr Qb,s4.seq (Qi (s3 _ _ hD1)),hr'.imp fun _ _ z=>(z.same s3).same s4,s4.tup rt2⟩ hm hl' Om
theorem scCopy:FnScope ["_law_problem_here"] ["_law_problem_here"] (Qh Qpv):=⟨rfl,rfl,rfl,Dk,rfl,Dk,Dk⟩
theorem okCopy(F:Fn K mg "_law_copy" Qpv)(M:Mg mg):Cal P w K mg base 1 "_law_copy" ["_law_problem_here"] (Qry K):=by
 refine Xy F scCopy (fun _ _ _ _ _ _=>bind1 (fun _=>rfl)) (fun vs H Q E h=>?_) (fun f cdv A outer s H vs Q E hr h=>?_)
 .obtain⟨t,rs,cs,rfl,_⟩:=h
  rfl
 obtain⟨t,rs,cs,rfl,⟨l,c,vs,ht,hl,hrw,hc⟩,hn,q⟩:=h
 refine⟨_,(Qm (Qs (Yd (Qa (Zy ["_law_row_here"] [none] rfl (Xj (Qu Qy (pv 0) Qj (fun _ _=>rfl))) (fun _ _ _=>(Qz (i:=0) (show(["_law_row_here"]:List Str).Nodup by decide +kernel) rfl (Or.inl rfl) (Or.inr rfl))) (fun _ _ _=>Ye) (fun _ _ _=>(Yd (Qa (Qt (Qai (K:=K) rfl) rfl M.tuple_ Yt (Qa (Qt (Qbj (K:=K) rfl) rfl M.list_ Ja (Qa (Qu (Zr (K:=K) rfl) (pv 0) Qj (fun _ _=>rfl)) Qf)) Qf)) (Qa (Qu (Zr (K:=K) rfl) (pv 0) Qj (fun _ _=>rfl)) Qf))))) (Qa (Qt Xd rfl M.tuple_ Yt (Qa (Qt Yo rfl M.list_ Ja (Qa (Qu Qy (pv 0) Qj (fun _ _=>rfl)) Qf)) Qf)) Qf))))),?_⟩
 have hz:(1000:Nat)<sizeLine:=Dc
 have lv:=hrw.length
 refine⟨_,rfl,t,_,_,_,rfl,rfl,ht,at0,l,rfl,⟨_,hl⟩,fun D hD=>?_⟩
 let Pv4:Nat->St->List V->Hp->Prop:=fun i τ ys H1=>∃v:Option V,τ=[v]/\RowsAre K H1 ys (rs.take i)/\H1 D=some (.lst ys)/\Same H H1
 refine Zx (n:=rs.length) Pv4 ?_ (fun i τ ys H1 hi h=>?_) (fun i τ ys H1 hi h=>?_) (fun τ ys H1 h=>?_) ?_ ?_
 .exact⟨none,rfl,.nil,Qb,Qc hD _⟩
 .obtain⟨v,rfl,hr1,hD1,s1⟩:=h
  exact⟨hD1,by rw[hr1.length,wZ];lia⟩
 .obtain⟨v,rfl,hr1,hD1,s1⟩:=h
  exact⟨vs,vs[i]'Om,s1.seq hl,gE Om⟩
 .obtain⟨v,rfl,hr1,hD1,s1⟩:=h
  exact⟨vs,s1.seq hl,Om⟩
 .rintro i τ ys H1 x H2 hi ⟨v,rfl,hr1,hD1,s1⟩ ⟨rfl,e1⟩
  obtain⟨t',r,rfl,er,p,rt1,rt2⟩:=hrw.get (e1 _ (s1.seq hl))
  refine⟨_,rfl,t',_,_,_,rfl,rfl,s1.tup rt1,at0,p,_,rfl,.inr (s1.tup rt2),fun l2 hl2=>?_⟩
  refine⟨l2,_,rfl,.inl ⟨Qi Qb,fun l3 hl3=>?_⟩⟩
  have s2:Same H2 (upd (upd H2 l2 (.lst (r.1.map V.int))) l3 (.tup (r.1.map V.int))):=(Qc hl2 _).trans (Qc hl3 _)
  refine⟨_,rfl,t',_,_,_,rfl,rfl,(s1.trans s2).tup rt1,at1,by show 2<=sizeLine;decide,fun t2 ht2=>?_⟩
  have s3:=s2.trans (Qc ht2 (.tup [.ref l3,.int r.2]))
  have n3:l3≠t2:=Ql Qb ht2
  refine⟨s3 _ _ hD1,_,rfl,?_,Qb,fun b o e=>?_⟩
  .rw[Qbn er]
   exact RowsAre.snoc (hr1.imp fun _ _ z=>(z.same s3).upd (s3 _ _ hD1)) (RowAt.upd (s3 _ _ hD1) ⟨l3,Qr Qb,Qr (by rw[Qk n3];exact Qb)⟩)
  .rw[Qk (Ql e hD)];exact s3 _ _ (s1 _ _ e)
 .rintro τ ys H1 ⟨v,rfl,hr1,hD1,s1⟩
  rw[wW]at hr1
  refine⟨_,rfl,t,_,_,_,rfl,rfl,s1.tup ht,at1,c,_,rfl,.inr (s1.tup hc),fun l2 hl2=>?_⟩
  refine⟨l2,_,rfl,.inl ⟨Qi Qb,fun l3 hl3=>?_⟩⟩
  have s2:Same H1 (upd (upd H1 l2 (.lst (cs.map V.int))) l3 (.tup (cs.map V.int))):=(Qc hl2 _).trans (Qc hl3 _)
  refine⟨by show 2<=sizeLine;decide,fun t2 ht2=>?_⟩
  have s3:=s2.trans (Qc ht2 (.tup [.ref D,.ref l3]))
  have n3:l3≠t2:=Ql Qb ht2
  exact q t2 _ (s1.trans s3) ⟨D,l3,ys,Qr Qb,s3.seq (Qi hD1),hr1.imp fun _ _ z=>z.same s3,Qr (by rw[Qk n3];exact Qb)⟩
abbrev Qpw:Stmt:=top 19
abbrev sLed:Stmt:=top 20
theorem scNumb:FnScope ["_law_many","_law_left_here","_law_order","_law_k"] ["_law_many","_law_left_here"] (Qh Qpw):=⟨rfl,rfl,rfl,Dk,rfl,Dk,Dk⟩
theorem okNumb(F:Fn K mg "_law_numbered" Qpw)(M:Mg mg):Cal P w K mg base 1 "_law_numbered" ["_law_many","_law_left_here"] (Qsa K):=by
 refine Xy F scNumb (fun _ _ _ _ _ _=>Vn (fun _ _=>rfl)) (fun vs H Q E h=>?_) (fun f cdv A outer s H vs Q E hr h=>?_)
 .obtain⟨many,z,rfl,_⟩:=h
  rfl
 obtain⟨many,z,rfl,h2,h3,q⟩:=h
 refine⟨_,(Qg (Qo (i:=2) scNumb.nd rfl (Or.inl rfl) (Yj Qf))
  (Qg (Yb PassesOwn.never rfl (Ya rfl M.range_ (Qa (pv 0) Qf)) (Qz (i:=3) scNumb.nd rfl (Or.inl rfl) (Or.inl rfl)) (Qg (Zb (Vm PySem.F.plainAttrs_list PySem.F.slot_list_insert PySem.F.type_list_insert Qlb (pv 2) (Qa (Qx Zc (pv 1) (Qx Yi (pv 3) Qj)) (Qa (pv 3) Qf))))
  (Qm (Qo (i:=1) scNumb.nd rfl (Or.inl rfl) (Qx Qbm (pv 1) (Qx Yi (pv 3) Qj))))))
  (Qm (Qs (pv 2))))),?_⟩
 refine Yu ?_
 intro rT3 rT2
 have hz:(1000:Nat)<sizeLine:=Dc
 refine⟨by show 0<=sizeLine;decide,fun p hp=>?_⟩
 let Pv5:Nat->St->Hp->Prop:=fun i σ H1=>∃(t:List Nat) (z:Int) (v:Option V),σ=[some (.int many),some (.int z),some (.ref p),v]/\IsTurn i t/\H1 p=some (.lst ((tI t).map V.int))/\Same H H1
 refine⟨_,rfl,many,rfl,Om,Om,Yn (lo:=0) (n:=many.toNat) Pv5 ⟨[],z,none,rfl,⟨.refl _⟩,Qb,Qc hp _⟩ ?_ ?_⟩
 .rintro i σ H1 hi ⟨t,z,v,rfl,T,hp1,s1⟩
  have lt:=T.length
  have pz:(0:Int)<0+(i:Int)+1:=Om
  have n0:=yXa z (Int.ne_of_gt pz)
  have n1:=kJb z pz
  refine⟨_,rfl,.inl ⟨rfl,_,Qi hp1⟩,_,rfl,_,rfl,_,_,rfl,rfl,_,_,rfl,rfl,pz,_,rfl,p,_,_,_,rfl,rfl,hp1,n0,by rw[jX,Yk];lia,by rw[jX,Yk];lia,?_⟩
  refine⟨_,rfl,_,rfl,_,_,rfl,rfl,_,_,rfl,rfl,bigB pz Om,?_⟩
  refine⟨t.take (z % (0+(i:Int)+1)).toNat++i::t.drop (z % (0+(i:Int)+1)).toNat,_,_,rfl,Qph T _,?_,fun b o e=>?_⟩
  .rw[Qb]
   unfold insV tI
   rw[zK,zW,zK,zW,List.map_take,List.map_take,List.map_drop,List.map_drop]
   simp
  .rw[Qk (Ql e hp)];exact s1 _ _ e
 .rintro σ H1 ⟨t,z,v,rfl,T,hp1,s1⟩
  exact⟨_,rfl,q p t H1 s1 hp1 T⟩
theorem scLed:FnScope ["_law_row_here","_law_turn","_law_numbers","_law_i"] ["_law_row_here","_law_turn"] (Qh sLed):=⟨rfl,rfl,rfl,Dk,rfl,Dk,Dk⟩
theorem okLed(F:Fn K mg "_law_led" sLed)(M:Mg mg):Cal P w K mg base 1 "_law_led" ["_law_row_here","_law_turn"] (Kk K):=by
 refine Xy F scLed (fun _ _ _ _ _ _=>Vn (fun _ _=>rfl)) (fun vs H Q E h=>?_) (fun f cdv A outer s H vs Q E hr h=>?_)
 .obtain⟨r,u,row,n,t,rfl,_⟩:=h
  rfl
 obtain⟨r,u,row,n,t,rfl,⟨p,hr1,hr2⟩,hu1,T,hl,hn,q⟩:=h
 refine⟨_,(Qg (Qo (i:=2) scLed.nd rfl (Or.inl rfl) (Qx Qrp (Yj (Qa Qj Qf)) (Qn Xa rfl M.len Zj (Qa (pv 1) Qf))))
  (Qg (Yb PassesOwn.never rfl (Ya rfl M.range_ (Qa (Qn Xa rfl M.len Zj (Qa (pv 1) Qf)) Qf)) (Qz (i:=3) scLed.nd rfl (Or.inl rfl) (Or.inl rfl)) (Qm (Qgl (Qu Qy (Qu Qy (pv 0) Qj (fun _ _=>rfl)) (pv 3) (fun _ _=>rfl)) (Qgk (pv 2) (Qu Xn (pv 1) (pv 3) (fun _ _=>rfl)) set_list))))
  (Qm (Qs (Yd (Qa (Qt Xd rfl M.tuple_ Yt (Qa (pv 2) Qf)) (Qa (Qu Qy (pv 0) Qj (fun _ _=>rfl)) Qf))))))),?_⟩
 refine Yu ?_
 intro rT3 rT2
 have hz:(1000:Nat)<sizeLine:=Dc
 have lt:=T.length
 have lT:((tI t).map V.int).length=n:=by rw[jX,Yk];exact lt
 refine⟨by show 1<=sizeLine;decide,fun p1 hp1=>?_⟩
 have s1:Same H (upd H p1 (.lst [.int 0])):=Qc hp1 _
 refine⟨_,rfl,u,_,rfl,.inl (s1.seq hu1),p1,_,_,rfl,rfl,Qb,Om,?_,?_,fun p2 hp2=>?_⟩
 .rw[jX,Yk];lia
 .rw[jX,Yk,yYb];lia
 have s2:=s1.trans (Qc hp2 (.lst (List.replicate (Int.toNat ((((tI t).map V.int).length:Nat):Int)) [V.int 0]).flatten))
 have e0:(List.replicate (Int.toNat ((((tI t).map V.int).length:Nat):Int)) [V.int 0]).flatten=(put row.1 t 0).map V.int:=by
  rw[rep1,jX,Yk]
  show _=(List.replicate t.length 0).map V.int
  rw[List.map_replicate]
  rfl
 refine⟨_,rfl,u,_,rfl,.inl (s2.seq hu1),_,rfl,Om,by rw[lT];lia,Yn (lo:=0) (n:=Int.toNat ((((tI t).map V.int).length:Nat):Int)) (fun i σ H3=>∃v:Option V,σ=[some (.ref r),some (.ref u),some (.ref p2),v]/\H3 p2=some (.lst ((put row.1 t i).map V.int))/\Same H H3) ⟨none,rfl,?_,s2⟩ ?_ ?_⟩
 .rw[Qb,e0]
 .rintro i σ H3 hi ⟨v,rfl,hD3,s3⟩
  have hi':i<n:=by rw[lT]at hi;lia
  have i1:i<row.1.length:=Om
  have i2:i<t.length:=Om
  have g1:(row.1.map V.int)[i]?=some (V.int row.1[i]):=by rw[jV,gE i1];rfl
  have g2:((tI t).map V.int)[i]?=some (V.int (t[i]:Nat)):=by rw[jV,Qrv (gE i2)];rfl
  have z1:(0:Int)+(i:Int)=((i:Nat):Int):=Om
  refine⟨_,rfl,r,_,_,_,rfl,rfl,s3.tup hr1,at0,_,rfl,p,_,_,_,rfl,rfl,s3.tup hr2,by rw[z1];exact Qpj g1,?_⟩
  refine⟨_,rfl,_,rfl,_,rfl,u,_,_,_,rfl,rfl,s3.seq hu1,by rw[z1];exact Qpj g2,p2,_,_,t[i],rfl,rfl,hD3,Qpi (by rw[jX,Yz,lt];exact T.lt (gE i2)),_,rfl,?_,fun b o e=>?_⟩
  .rw[Qb,Qhd (gE i1) (gE i2),List.map_set]
  .have nb:b≠p2:=fun z=>by subst z;rw[s1 _ _ e]at hp2;cases hp2
   rw[Qk nb];exact s3 _ _ e
 .rintro σ H3 ⟨v,rfl,hD3,s3⟩
  have en:Int.toNat ((((tI t).map V.int).length:Nat):Int)=n:=by rw[lT];lia
  rw[en]at hD3
  refine⟨_,rfl,p2,_,rfl,.inl ⟨Qi hD3,fun w hw=>?_⟩⟩
  have s4:=s3.trans (Qc hw (.tup ((put row.1 t n).map V.int)))
  refine⟨_,rfl,r,_,_,_,rfl,rfl,s4.tup hr1,at1,by show 2<=sizeLine;decide,fun r' hr'=>?_⟩
  exact q r' _ (s4.trans (Qc hr' _)) ⟨w,Qr Qb,Qr (by rw[Qk (Ql Qb hr')];exact Qb)⟩
end
end Nb
namespace L2
open PySem PySem.Spec PyProof.Rows
end L2
namespace Nb
open PySem
def lc(x:Nat):Nat->Nat
 |0=>x
 |n+1=>5*lc x n+1
theorem Qma(x m:Nat):∀n,lc x (m+n)=lc (lc x m) n
 |0=>rfl
 |n+1=>by rw[<-kQc];show 5*lc x (m+n)+1=_;rw[Qma x m n];rfl
theorem Qsb:∀k,∃a b,∀x,lc x (2 ^ k)=x+2 ^ k*(4*a*x)+2 ^ k*(2*b+1)
 |0=>⟨1,0,fun x=>by show 5*x+1=_;lia⟩
 |k+1=>by
  obtain⟨a,b,h⟩:=Qsb k
  refine⟨a+2*2 ^ k*(a*a),b+2 ^ k*(a*(2*b+1)),fun x=>?_⟩
  rw[show 2 ^ (k+1)=2 ^ k+2 ^ k by rw[yXf];lia,Qma,h,h]
  generalize 2 ^ k=p
  grind
theorem Qmb:∀k x e,∃n,n<2 ^ k/\lc x n % 2 ^ k=e % 2 ^ k
 |0,x,e=>⟨0,Dc,by rw[Nat.pow_zero,Nat.mod_one,Nat.mod_one]⟩
 |k+1,x,e=>by
  obtain⟨n,hn,h⟩:=Qmb k x e
  obtain⟨a,b,g⟩:=Qsb k
  have hp:0<2 ^ k:=Nat.pow_pos Dc
  have h1:=g (lc x n)
  rw[<-Qma]at h1
  rw[show 2 ^ (k+1)=2*2 ^ k by rw[yXf];lia]
  have d1:lc x n % (2*2 ^ k)=lc x n % 2 ^ k+2 ^ k*(lc x n / 2 ^ k % 2):=by rw[yJa,Nat.mod_mul]
  have d2:e % (2*2 ^ k)=e % 2 ^ k+2 ^ k*(e / 2 ^ k % 2):=by rw[yJa,Nat.mod_mul]
  have d3:lc x (n+2 ^ k) % (2*2 ^ k)=lc x (n+2 ^ k) % 2 ^ k+2 ^ k*(lc x (n+2 ^ k) / 2 ^ k % 2):=by rw[yJa,Nat.mod_mul]
  have h2:lc x (n+2 ^ k)=lc x n+2 ^ k*(4*a*lc x n+(2*b+1)):=by rw[h1,kQc,<-Nat.mul_add]
  have m1:lc x (n+2 ^ k) % 2 ^ k=lc x n % 2 ^ k:=by rw[h2,Nat.add_mul_mod_self_left]
  have q1:lc x (n+2 ^ k) / 2 ^ k=lc x n / 2 ^ k+(4*a*lc x n+(2*b+1)):=by rw[h2,Nat.add_mul_div_left _ _ hp]
  by_cases c:lc x n / 2 ^ k % 2=e / 2 ^ k % 2
  .exact⟨n,Om,by rw[d1,d2,h,c]⟩
  .refine⟨n+2 ^ k,Om,?_⟩
   rw[d3,d2,m1,h,q1]
   have:(lc x n / 2 ^ k+(4*a*lc x n+(2*b+1))) % 2=e / 2 ^ k % 2:=by
    rw[Nat.mul_assoc]
    generalize a*lc x n=z
    lia
   rw[this]
def lp(mask:Nat)(i r:Nat):Nat->Nat×Nat
 |0=>(i,r)
 |n+1=>SetTable.leap mask (lp mask i r n).1 (lp mask i r n).2
theorem Qmc(mask i r m:Nat):∀n,lp mask i r (m+n)=lp mask (lp mask i r m).1 (lp mask i r m).2 n
 |0=>rfl
 |n+1=>by rw[<-kQc];show SetTable.leap mask (lp mask i r (m+n)).1 (lp mask i r (m+n)).2=_;rw[Qmc mask i r m n];rfl
theorem Qfj(mask i r:Nat):∀n,(lp mask i r n).2=r / 32 ^ n
 |0=>by show r=_;rw[Nat.pow_zero,Nat.div_one]
 |n+1=>by show(lp mask i r n).2 / 32=_;rw[Qfj mask i r n,Nat.div_div_eq_div_mul,yXf]
theorem Qmd(mask i:Nat):∀n,(lp mask i 0 n).1 % (mask+1)=lc i n % (mask+1)
 |0=>rfl
 |n+1=>by
  show((lp mask i 0 n).1*5+1+(lp mask i 0 n).2 / 32) % (mask+1) % (mask+1)=(5*lc i n+1) % (mask+1)
  have e:(lp mask i 0 n).2=0:=by rw[Qfj,Nat.zero_div]
  rw[e,Nat.zero_div,Nat.mod_mod,Nat.add_zero,Nat.add_mod,Nat.mul_mod,Qmd mask i n,<-Nat.mul_mod,<-Nat.add_mod,yJa]
theorem Qto{mask i:Nat}(r:Nat)(h:i<=mask):∀n,(lp mask i r n).1<=mask
 |0=>h
 |n+1=>by
  show((lp mask i r n).1*5+1+(lp mask i r n).2 / 32) % (mask+1)<=mask
  exact kKb (yJd _ (yKf _))
theorem Qme(h:Int):SetTable.bits h<2 ^ 64:=by
 unfold SetTable.bits
 have:=kJb h (show(0:Int)<2 ^ 64 by decide)
 have:=yXa h (show(2 ^ 64:Int)≠0 by decide)
 lia
theorem Qmf{mask k i r e:Nat}(hm:mask+1=2 ^ k)(hi:i<=mask)(hr:r<2 ^ 64)(he:e<=mask):∃n,n<=mask+13/\(lp mask i r n).1=e:=by
 have r0:(lp mask i r 13).2=0:=by
  rw[Qfj]
  exact Nat.div_eq_of_lt (xK hr Dc)
 obtain⟨n,hn,h⟩:=Qmb k (lp mask i r 13).1 e
 refine⟨13+n,Om,?_⟩
 rw[Qmc,r0]
 have z:=Qmd mask (lp mask i r 13).1 n
 rw[hm,h,Nat.mod_eq_of_lt (show e<2 ^ k by lia)]at z
 have l:=Qto (mask:=mask) 0 (Qto r hi 13) n
 rw[Nat.mod_eq_of_lt Om]at z
 exact z
abbrev Pr:=SetTable.Probe
def st(t:SetTable)(p:Pr):Nat->Pr
 |0=>p
 |n+1=>t.advance (st t p n)
theorem Qas(t:SetTable)(p:Pr)(m:Nat):∀n,st t p (m+n)=st t (st t p m) n
 |0=>rfl
 |n+1=>by rw[<-kQc];show t.advance (st t p (m+n))=_;rw[Qas t p m n];rfl
theorem Qsc(t:SetTable)(p:Pr):∀n,n<=p.more->st t p n={ p with j:=p.j+n,more:=p.more-n }
 |0,_=>rfl
 |n+1,h=>by
  show t.advance (st t p n)=_
  rw[Qsc t p n Om]
  unfold SetTable.advance
  rw[if_pos (show p.more-n > 0 by lia)]
  rfl
theorem Qtp(t:SetTable)(p:Pr)(h:p.more=SetTable.runEnd t.mask p.i-p.i):∃n,n<=10/\st t p n={ p with j:=(SetTable.leap t.mask p.i p.perturb).1,more:=SetTable.runEnd t.mask (SetTable.leap t.mask p.i p.perturb).1-(SetTable.leap t.mask p.i p.perturb).1,i:=(SetTable.leap t.mask p.i p.perturb).1,perturb:=(SetTable.leap t.mask p.i p.perturb).2 }:=by
 have hm:p.more<=9:=by rw[h];unfold SetTable.runEnd;split<;>lia
 refine⟨p.more+1,Om,?_⟩
 show t.advance (st t p p.more)=_
 rw[Qsc t p p.more (jW _)]
 unfold SetTable.advance
 rw[if_neg (show ¬(p.more-p.more > 0)by lia)]
theorem st_lp(t:SetTable)(h:Int):∀n,∃m,m<=10*n/\st t (t.probeStart h) m={ j:=(lp t.mask (SetTable.bits h % (t.mask+1)) (SetTable.bits h) n).1,more:=SetTable.runEnd t.mask (lp t.mask (SetTable.bits h % (t.mask+1)) (SetTable.bits h) n).1-(lp t.mask (SetTable.bits h % (t.mask+1)) (SetTable.bits h) n).1,i:=(lp t.mask (SetTable.bits h % (t.mask+1)) (SetTable.bits h) n).1,perturb:=(lp t.mask (SetTable.bits h % (t.mask+1)) (SetTable.bits h) n).2,dummy:=none }
 |0=>⟨0,jW _,rfl⟩
 |n+1=>by
  obtain⟨m,hm,e⟩:=st_lp t h n
  obtain⟨m',hm',e'⟩:=Qtp t (st t (t.probeStart h) m) (by rw[e])
  refine⟨m+m',Om,?_⟩
  rw[Qas,e',e]
  rfl
structure TOk(t:SetTable)(n:Nat):Prop where
 size:t.place.size=n
 dum:t.dummies=#[]
 pow:∃k,3<=k/\t.mask+1=2 ^ k
 full:n*5<t.mask*3
theorem Qmg(j:Nat):SetTable.has #[] j=false:=by
 unfold SetTable.has
 rw[kJc (by simp)]
 rfl
theorem Qmh{t:SetTable}(hd:t.dummies=#[])(j:Nat):t.slot j=.empty\/∃i,t.slot j=.live i/\t.place[i]?=some j:=by
 unfold SetTable.slot
 dsimp only
 by_cases c:(t.place[SetTable.below t.place j]? == some j)=true
 .rw[if_pos c];exact .inr ⟨_,rfl,by simpa using c⟩
 .rw[if_neg c,hd,Qmg,if_neg xQ];exact .inl rfl
theorem Qmi:∀(n:Nat) (xs:List Nat),(∀j<n,j∈xs)->n<=xs.length
 |0,_,_=>wY _
 |n+1,xs,h=>by
  have hn:=h n (kQb _)
  have:=Qmi n (xs.erase n) fun j hj=>(yYf Om).mpr (h j Om)
  rw[yQe hn]at this
  have:0<xs.length:=yKe hn
  lia
theorem Qit{t:SetTable}{n:Nat}(h:TOk t n):∃e,e<=t.mask/\t.slot e=.empty:=by
 refine Classical.byContradiction fun c=>?_
 have:=Qmi (t.mask+1) t.place.toList fun j hj=>by
  rcases Qmh h.dum j with e | ⟨i,_,e⟩
  .exact absurd ⟨j,Om,e⟩ c
  .rw[<-yX]at e;exact kY e
 rw[zX,h.size]at this
 have:=h.full
 lia
theorem Qfk{t:SetTable}{n:Nat}(h:TOk t n)(x:Int):∃m,m<10*SetTable.turns t.mask/\t.slot (st t (t.probeStart x) m).j=.empty:=by
 obtain⟨e,he,hs⟩:=Qit h
 obtain⟨k,_,hk⟩:=h.pow
 obtain⟨n',hn',e'⟩:=Qmf (i:=SetTable.bits x % (t.mask+1)) hk (kKb (yJd _ (yKf _))) (Qme x) he
 obtain⟨m,hm,e2⟩:=st_lp t x n'
 refine⟨m,by unfold SetTable.turns;lia,?_⟩
 rw[e2]
 show t.slot (lp t.mask (SetTable.bits x % (t.mask+1)) (SetTable.bits x) n').1=_
 rw[e'];exact hs
theorem Qdn(t:SetTable)(p:Pr):(t.advance p).dummy=p.dummy:=by unfold SetTable.advance;split<;>rfl
theorem Qhn(t:SetTable)(p:Pr):∀n,(st t p n).dummy=p.dummy
 |0=>rfl
 |n+1=>by show(t.advance (st t p n)).dummy=_;rw[Qdn,Qhn t p n]
theorem Wn{α:Type}(xs:Array α)(p:Nat)(x:α):(SetTable.insertAt xs p x).size=xs.size+1:=by
 rw[<-zX,(SetTable.insertAt_perm xs p x).length_eq,zX,Array.size_push]
theorem Qmj(t:SetTable)(j:Nat):(t.put j).1.place.size=t.place.size+1:=by
 show(SetTable.insertAt t.place _ j).size=_
 exact Wn ..
theorem Qtq{t:SetTable}(hd:t.dummies=#[])(j:Nat):(t.put j).1.dummies=#[]:=by
 show(if SetTable.has t.dummies j then _ else t.dummies)=_
 rw[hd,Qmg,if_neg xQ]
theorem Qho(n:Nat):∀(fuel k:Nat),3<=k->n<2 ^ (k+fuel)->∃k',3<=k'/\SetTable.sizeAbove.go n fuel (2 ^ k)=2 ^ k'/\n<2 ^ k'/\(2 ^ k'=2 ^ k\/2 ^ k'<=2*n)
 |0,k,h,hn=>⟨k,h,rfl,hn,.inl rfl⟩
 |fuel+1,k,h,hn=>by
  unfold SetTable.sizeAbove.go
  by_cases c:2 ^ k<=n
  .rw[if_pos c,<-yXf]
   obtain⟨k',a,b,d,e⟩:=Qho n fuel (k+1) Om (by rw[show k+1+fuel=k+(fuel+1)by lia];exact hn)
   refine⟨k',a,b,d,.inr ?_⟩
   rcases e with e | e
   .rw[e,yXf];lia
   .exact e
  .rw[if_neg c];exact⟨k,h,rfl,Om,.inl rfl⟩
theorem above(n:Nat)(h:n<2 ^ 60):∃k,3<=k/\SetTable.sizeAbove n=2 ^ k/\n<2 ^ k/\(2 ^ k=8\/2 ^ k<=2*n):=Qho n 64 3 Dc (Nat.lt_trans h Dc)
abbrev own(o:Array (Option Nat)):Nat:=(o.toList.filter (·.isSome)).length
theorem Qat{mask:Nat}{owner:Array (Option Nat)}(hs:owner.size=mask+1):∀(n fuel i r e:Nat),n<fuel->(lp mask i r n).1=e->i<=mask->e<=mask->owner[e]?=some none->∃j,SetTable.layClean.free mask owner fuel i r=some j/\owner[j]?=some none
 |n,0,_,_,_,h,_,_,_,_=>absurd h (kZa _)
 |n,fuel+1,i,r,e,h,he,hi,hem,ho=>by
  unfold SetTable.layClean.free
  cases c:(List.range (SetTable.runEnd mask i+1-i)).find? fun k=>(owner.getD (i+k) (some 0)).isNone with
  |some k=>
   refine⟨i+k,rfl,?_⟩
   have:=List.find?_some c
   rw[jXa]at this
   cases g:owner[i+k]? with
   |none=>rw[g]at this;cases this
   |some v=>
    rw[g]at this
    cases v with
    |none=>rfl
    |some _=>cases this
  |none=>
   dsimp only
   cases n with
   |zero=>
    have e0:i=e:=he
    subst e0
    have:=List.find?_eq_none.mp c 0 (yQ.mpr (by unfold SetTable.runEnd;split<;>lia))
    rw[Nat.add_zero,jXa,ho]at this
    exact absurd rfl this
   |succ n=>
    refine Qat hs n fuel _ _ e Om ?_ (Qto r hi 1) hem ho
    rw[<-he,yXd,Qmc]
    rfl
theorem Qtr{o:Array (Option Nat)}{j k:Nat}(h:o[j]?=some none):own (o.setIfInBounds j (some k))=own o+1:=by
 unfold own
 rw[kYa]
 rw[<-yX]at h
 generalize o.toList=l at h
 induction l generalizing j with
 |nil=>simp at h
 |cons a l ih=>
  cases j with
  |zero=>
   simp at h;subst h
   rw[List.set_cons_zero,jZd rfl,jYa (by simp)];rfl
  |succ j=>
   rw[List.set_cons_succ]
   have:=ih (j:=j) (by simpa using h)
   cases a with
   |none=>rw[jYa (by simp),jYa (by simp)];exact this
   |some b=>rw[jZd rfl,jZd rfl,yW,yW,this]
theorem Qpx{mask:Nat}{o:Array (Option Nat)}(hs:o.size=mask+1)(h:own o<=mask):∃e,e<=mask/\o[e]?=some none:=by
 refine Classical.byContradiction fun c=>?_
 have:o.toList.filter (·.isSome)=o.toList:=yQc.mpr fun v hv=>by
  cases v with
  |some _=>rfl
  |none=>
   obtain⟨e,he⟩:=jZc.mp hv
   have l:=(jK.mp he).1
   rw[zX,hs]at l
   exact absurd ⟨e,Om,by rw[<-yX];exact he⟩ c
 unfold own at h
 rw[this,zX,hs]at h
 lia
abbrev Qfl(mask:Nat):Option (Array (Option Nat)×Nat)->Int->Option (Array (Option Nat)×Nat):=fun acc h=>do
  let (owner,k) ← acc
  let j ← SetTable.layClean.free mask owner (SetTable.turns mask) (SetTable.bits h % (mask+1)) (SetTable.bits h)
  pure (owner.setIfInBounds j (some k),k+1)
theorem Qpy(o:Array (Option Nat)):((List.range o.size).filterMap fun j=>(o.getD j none).map (j,·)).length=own o:=by
 unfold own
 obtain⟨l⟩:=o
 show((List.range l.length).filterMap fun j=>((Array.mk l).getD j none).map (j,·)).length=(l.filter (·.isSome)).length
 have:∀(l:List (Option Nat)) (g:Nat->Nat),((List.range l.length).filterMap fun j=>(l[j]?.getD none).map (g j,·)).length=(l.filter (·.isSome)).length:=by
  intro l
  induction l with
  |nil=>intro g;rfl
  |cons a l ih=>
   intro g
   rw[yW,List.range_succ_eq_map]
   have e:=ih (fun j=>g (j+1))
   cases a with
   |none=>
    rw[List.filterMap_cons_none (by rfl),List.filterMap_map,jYa (by simp)]
    exact e
   |some b=>
    rw[List.filterMap_cons_some (b:=(g 0,b)) (by rfl),List.filterMap_map,jZd rfl,yW,yW]
    exact congrArg (· + 1) e
 have h:=this l id
 rw[<-h]
 have e:(fun j=>((Array.mk l).getD j none).map (j,·))=fun j=>(l[j]?.getD none).map (id j,·):=by
  funext j
  rw[jXa,List.getElem?_toArray]
  rfl
 rw[e]
theorem Qhp{α:Type}(es:Array α):∀order:List Nat,(∀v∈order,v<es.size)->(order.filterMap (fun i=>es[i]?)).length=order.length
 |[],_=>rfl
 |v::order,h=>by
  have hv:=h v zJ
  rw[List.filterMap_cons_some (b:=es[v]) (by rw[jXd hv]),yW,yW,Qhp es order fun u hu=>h u (zY _ hu)]
end Nb
namespace L2
open PySem PySem.Spec PyProof.Rows PySem.SeqAt
section
variable{prog:Program}{w:World}
theorem Kq{t:SetTable}{n:Nat}(h:Nb.TOk t n):t.fits n=true:=by
 unfold SetTable.fits SetTable.fill
 rw[h.size,h.dum]
 have:=h.full
 simp
 lia
theorem Qmk{n:Nat}{v:Value}{k:Int}(hv:(intKind prog w).is k v=true):hashByValue n v=pure true:=by
 have hc:=(intKind prog w).byValue _ _ hv
 cases v<;>first | (cases n<;>(unfold hashByValue;rfl)) | exact nomatch hv
variable{d:Addr}{o:Obj}{es:Array (Int×Value)}{ep:Nat}{t:SetTable}
theorem Qpz{n:Nat}(h:Nb.TOk t n):t.gaveWay=false:=by
 obtain⟨k,hk,e⟩:=h.pow
 unfold SetTable.gaveWay
 have:2 ^ k=2*2 ^ (k-1):=by rw[show k=k-1+1 by lia,yXf,Nat.add_sub_cancel];lia
 rw[show t.mask % 2=1 by lia]
 rfl
theorem Vo{h h':Heap}(ho:h.get? d=some o)(hd:o.data=.set es ep t)(hs:Heap.SameBut d h h'):∀b ob,h.get? b=some ob->(∃items n,ob.data=.seq items n)->h'.get? b=some ob:=fun b ob e ⟨items,n,z⟩=>by
 have ne:b≠d:=by
  rintro rfl
  rw[ho]at e;cases e
  rw[hd]at z;cases z
 rw[hs.2 b ne];exact e
end
section
variable{prog:Program}{w:World}
def TrA(prog:Program)(w:World)(h:Heap):Nat->D->Value->Prop
 |_,.int k,v=>(intKind prog w).is k v=true
 |n+1,.tup xs,v=>∃a o items m,v=.ref a/\h.get? a=some o/\o.cls=.type "tuple"/\o.data=.seq items m/\Paired (TrA prog w h n) xs items.toList
 |_,_,_=>False
theorem trA_int{h:Heap}{n:Nat}{k:Int}{v:Value}:TrA prog w h n (.int k) v↔(intKind prog w).is k v=true:=by cases n<;>exact Iff.rfl
theorem Qp{h:Heap}{n:Nat}{x:D}{v:Value}(z:TrA prog w h n x v):(∃k,x=.int k/\(intKind prog w).is k v=true)\/∃m xs,n=m+1/\x=.tup xs/\∃a o items k,v=.ref a/\h.get? a=some o/\o.cls=.type "tuple"/\o.data=.seq items k/\Paired (TrA prog w h m) xs items.toList:=by
 cases x with
 |int k=>exact .inl ⟨k,rfl,trA_int.mp z⟩
 |tup xs=>
  cases n with
  |zero=>exact z.elim
  |succ m=>exact .inr ⟨m,xs,rfl,rfl,z⟩
 |non=>cases n<;>exact z.elim
 |bl b=>cases n<;>exact z.elim
 |lst xs=>cases n<;>exact z.elim
theorem TrA.same{h h':Heap}(hs:∀b o,h.get? b=some o->(∃items n,o.data=.seq items n)->h'.get? b=some o):∀{n:Nat} {x:D} {v:Value},TrA prog w h n x v->TrA prog w h' n x v:=by
 intro n
 induction n with
 |zero=>
  intro x v z
  rcases Qp z with⟨k,rfl,hk⟩ | ⟨m,xs,e,_⟩
  .exact hk
  .cases e
 |succ n ih=>
  intro x v z
  rcases Qp z with⟨k,rfl,hk⟩ | ⟨m,xs,e,rfl,a,o,items,k,rfl,ho,hc,hd,hp⟩
  .exact hk
  .cases e
   exact⟨a,o,items,k,rfl,hs a o ho ⟨_,_,hd⟩,hc,hd,Paired.mapP hp fun _ _ z=>ih z⟩
theorem Qau{α β:Type}{R:α->β->Prop}(hR:∀a a' b,R a b->R a' b->a=a'):∀{xs ys:List α} {us:List β},Paired R xs us->Paired R ys us->xs=ys
 |_,_,_,.nil,.nil=>rfl
 |_,_,_,.cons a r,.cons b s=>by rw[hR _ _ _ a b,Qau hR r s]
theorem Qml{k:Int}{a:Addr}(h:(intKind prog w).is k (.ref a)=true):False:=nomatch ((intKind prog w).byValue _ _ h)
theorem TrA.inj{h:Heap}:∀{n:Nat} {x y:D} {v:Value},TrA prog w h n x v->TrA prog w h n y v->x=y:=by
 intro n
 induction n with
 |zero=>
  intro x y v z z'
  rcases Qp z with⟨k,rfl,hk⟩ | ⟨m,xs,e,_⟩
  .rcases Qp z' with⟨k',rfl,hk'⟩ | ⟨m,xs,e,_⟩
   .rw[(intKind prog w).inj _ _ _ hk hk']
   .cases e
  .cases e
 |succ n ih=>
  intro x y v z z'
  rcases Qp z with⟨k,rfl,hk⟩ | ⟨m,xs,e,rfl,a,o,items,k,rfl,ho,hc,hd,hp⟩
  .rcases Qp z' with⟨k',rfl,hk'⟩ | ⟨m,xs,e,rfl,a,o,items,k,rfl,_⟩
   .rw[(intKind prog w).inj _ _ _ hk hk']
   .exact(Qml hk).elim
  .cases e
   rcases Qp z' with⟨k',rfl,hk'⟩ | ⟨m',xs',e',rfl,a',o',items',k',e2,ho',hc',hd',hp'⟩
   .exact(Qml hk').elim
   .cases e'
    cases e2
    obtain rfl:o=o':=Option.some.inj (ho.symm.trans ho')
    rw[hd]at hd'
    injection hd' with h1 _
    subst h1
    rw[Qau (R:=TrA prog w h n) (fun _ _ _ p q=>ih p q) hp hp']
def Zi(prog:Program)(w:World):Nat->D->Int
 |_,.int k=>(intKind prog w).hash k
 |n+1,.tup xs=>reduceHash (Builtin.Tuple.tupleHashOf (xs.map (Zi prog w n)))
 |_,_=>0
def Ju:Nat->D->Nat
 |_,.int _=>1
 |n+1,.tup xs=>(xs.map (Ju n)).sum+1
 |_,_=>0
variable{A:Around}{E:Value->Shared->Prop}{s:Shared}
theorem Qqa:∀{n:Nat} {x:D} {v:Value} {A:Around} {s:Shared} {Q:Int->Shared->Prop},A.units+n<cLine->TrA prog w s.heap n x v->Q (Zi prog w n x) { s with toks:=s.toks+Ju n x }->wpAny (model prog w) A (pyHash v) Q E s:=by
 intro n
 induction n with
 |zero=>
  intro x v A s Q hu z h
  rcases Qp z with⟨k,rfl,hk⟩ | ⟨m,xs,e,_⟩
  .exact(intKind prog w).pyHash hk h
  .cases e
 |succ n ih=>
  intro x v A s Q hu z h
  rcases Qp z with⟨k,rfl,hk⟩ | ⟨m,xs,e,rfl,a,o,items,k,rfl,ho,hc,hd,hp⟩
  .exact(intKind prog w).pyHash hk h
  cases e
  have hT:s.TypeIs (.ref a) "tuple":=⟨o,ho,hc⟩
  unfold pyHash
  first | unfold pyHashByItsType | skip
  first | refine jQ (wpAny_cRoomFor_or (.inr Om) ?_) | skip
  refine jQ (wpAny_specialOf hT F.slot_tuple_hash.lookup ?_)
  show wpAny _ _ (if (some (Value.builtin "tuple.__hash__") == some Value.none)=true then _ else _) Q E s
  rw[if_neg (by rw[beq_builtin_none];exact xQ)]
  refine jQ (wpAny_specialOf hT F.slot_tuple_hash.lookup ?_)
  show wpAny _ _ (callSpecialIfBoundUnlessNone? (.ref a) "__hash__" _ >>= _) Q E s
  refine jQ (wpAny_callSpecialIfBoundUnlessNone?_slot hT F.slot_tuple_hash (wpAny_call_entry F.slot_tuple_hash hT F.entry_tuple_hash ?_ (F.args_tuple_hash_1 _)))
  show wpAny _ _ (Builtin.Tuple.tupleItemsOf (.ref a) >>= _) _ _ s
  refine jQ (wpAny_tupleItemsOf ho hd ?_)
  refine jQ ?_
  rw[<-kJd]
  refine wpAny_forIn_list _
   (fun rest (b:Array Int) s'=>∃(d r:List D),xs=d++r/\Paired (TrA prog w s.heap n) r rest/\b.toList=d.map (Zi prog w n)/\s'={ s with toks:=s.toks+(d.map (Ju n)).sum })
   _ ?_ ?_ _ _ ⟨[],xs,rfl,hp,rfl,rfl⟩
  .rintro x rest b s' ⟨d,r,e,hr,hb,rfl⟩
   cases hr with
   |@cons y _ ys _ hy hr=>
    refine jQ (ih (by show A.units+1+n<cLine;lia) hy ?_)
    have key:∃(d' r':List D),xs=d'++r'/\Paired (TrA prog w s.heap n) r' rest/\(b.push (Zi prog w n y)).toList=d'.map (Zi prog w n)/\({ s with toks:=s.toks+(d.map (Ju n)).sum+Ju n y }:Shared)={ s with toks:=s.toks+(d'.map (Ju n)).sum } :=
     ⟨d++[y],ys,by rw[e,kZ];rfl,hr,by rw[wV,hb,zK];rfl,by rw[zK,List.sum_append];simp[kQc]⟩
    first
     |exact jJ key
     |exact jQ (jJ (jJ key))
  .rintro b s' ⟨d,r,e,hr,hb,rfl⟩
   cases hr
   rw[jZa]at e
   subst e
   show wpAny _ _ (retInt (Builtin.Tuple.tupleHashOf b.toList)) _ _ _
   rw[hb]
   refine wpAny_ret_mkInt ?_
   show wpAny _ _ (if (decide (-(2:Int) ^ 63<=Builtin.Tuple.tupleHashOf _)&&decide (Builtin.Tuple.tupleHashOf _<2 ^ 63))=true then _ else _) Q E _
   have h2:Q (reduceHash (Builtin.Tuple.tupleHashOf (xs.map (Zi prog w n)))) { s with toks:=s.toks+(xs.map (Ju n)).sum+1 }:=h
   unfold reduceHash at h2
   generalize Builtin.Tuple.tupleHashOf (xs.map (Zi prog w n))=T at h2⊢
   by_cases hr:(decide (-(2:Int) ^ 63<=T)&&decide (T<2 ^ 63))=true
   .rw[if_pos hr]
    rw[if_pos hr]at h2
    exact jJ (by simpa[kQc]using h2)
   .rw[if_neg hr]
    rw[if_neg hr]at h2
    exact jQ (wpAny_rule (jJ (by simpa[kQc]using h2)))
end
section
variable{prog:Program}{w:World}{E:Value->Shared->Prop}
theorem Xk{α β:Type}{R:α->β->Prop}{xs:List α}{us:List β}(h:Paired R xs us):xs.length=us.length:=Paired.length h
theorem eq_T:∀{n:Nat} {x y:D} {u v:Value} {A:Around} {s:Shared} {Q:Bool->Shared->Prop},A.units+n<cLine->TrA prog w s.heap n x u->TrA prog w s.heap n y v->Alike n x y->(∀c:Bool,(c=true↔x=y)->Q c s)->wpAny (model prog w) A (eqBool u v) Q E s:=by
 intro n
 have intsC:∀{k j:Int} {u v:Value} {A:Around} {s:Shared} {Q:Bool->Shared->Prop},(intKind prog w).is k u=true->(intKind prog w).is j v=true->(∀c:Bool,(c=true↔D.int k=D.int j)->Q c s)->wpAny (model prog w) A (eqBool u v) Q E s:=fun hk hj h=>
  (intKind prog w).eqBool hk hj (h _ (by rw[decide_eq_true_iff];exact⟨fun z=>by rw[z],fun z=>by injection z⟩))
 induction n with
 |zero=>
  intro x y u v A s Q hu z z' al h
  rcases Qp z with⟨k,rfl,hk⟩ | ⟨m,xs,e,_⟩
  .rcases Qp z' with⟨k',rfl,hk'⟩ | ⟨m,xs,e,_⟩
   .exact intsC hk hk' h
   .cases e
  .cases e
 |succ n ih=>
  intro x y u v A s Q hu z z' al h
  rcases Qp z with⟨k,rfl,hk⟩ | ⟨m,xs,e,rfl,a,oa,ia,ka,rfl,hoa,hca,hda,hpa⟩
  .rcases Qp z' with⟨k',rfl,hk'⟩ | ⟨m,xs,e,rfl,_⟩
   .exact intsC hk hk' h
   .nomatch al
  cases e
  rcases Qp z' with⟨k',rfl,hk'⟩ | ⟨m,ys,e,rfl,b,ob,ib,kb,rfl,hob,hcb,hdb,hpb⟩
  .nomatch al
  cases e
  have al':∀(i:Nat) x y,xs[i]?=some x->ys[i]?=some y->Alike n x y:=by cases al;assumption
  have hTa:s.TypeIs (.ref a) "tuple":=⟨oa,hoa,hca⟩
  have hTb:s.TypeIs (.ref b) "tuple":=⟨ob,hob,hcb⟩
  unfold eqBool
  try with_reducible refine wpAny_holding ?_
  show wpAny _ _ (if (Value.ref a == Value.ref b)=true then _ else _) Q E s
  by_cases hab:(Value.ref a == Value.ref b)=true
  .rw[if_pos hab]
   have e:a=b:=by have:=eq_of_beq hab;injection this
   subst e
   exact jQ (wpAny_rule (jJ (h true ⟨fun _=>z.inj z',fun _=>rfl⟩)))
  rw[if_neg hab]
  refine jQ (wpAny_richCompare_same_room (op:=.Eq) hTa hTb F.slot_tuple_eq
   (wpAny_call_entry F.slot_tuple_eq hTa F.entry_tuple_eq ?_ (F.args_tuple_eq_2 _ _)) Om)
  show wpAny _ _ (isInstance (.ref b) (.type "tuple") >>= _) _ _ s
  refine jQ (wpAny_isInstance hTb isSubtype_tuple_tuple ?_)
  simp only[jJf,yJ,if_false]
  refine jQ (wpAny_tupleItemsOf hoa hda ?_)
  refine jQ (wpAny_tupleItemsOf hob hdb ?_)
  refine jQ ?_
  refine wpAny_forIn_list _
   (fun rest r s'=>r.1=none/\s'=s/\∃(d p q:List D) (us vs:List Value),xs=d++p/\ys=d++q/\rest=us.zip vs/\Paired (TrA prog w s.heap n) p us/\Paired (TrA prog w s.heap n) q vs)
   _ ?_ ?_ _ _ ⟨rfl,rfl,[],xs,ys,_,_,rfl,rfl,rfl,hpa,hpb⟩
  .rintro⟨u,v⟩ rest r s' ⟨hr,rfl,d,p,q,us,vs,e1,e2,e3,hp,hq⟩
   cases hp with
   |nil=>cases e3
   |@cons x' _ p' us' hx hp=>
    cases hq with
    |nil=>cases e3
    |@cons y' _ q' vs' hy hq=>
     rw[List.zip_cons_cons]at e3
     injection e3 with e3 e4
     injection e3 with e5 e6
     subst e5 e6
     have al2:Alike n x' y':=al' d.length x' y' (by rw[e1,jQa (jW _),kZc];rfl) (by rw[e2,jQa (jW _),kZc];rfl)
     refine jQ (ih (by show A.units+1+n<cLine;lia) hx hy al2 fun c hc=>?_)
     cases c with
     |true=>
      have ex:x'=y':=hc.mp rfl
      simp only[jJf,yJ,if_false]
      exact jJ ⟨rfl,rfl,d++[x'],p',q',us',vs',by rw[e1,kZ];rfl,by rw[e2,ex,kZ];rfl,e4,hp,hq⟩
     |false=>
      have ex:¬x'=y':=fun z=>by have:=hc.mpr z;cases this
      simp only[yJe,if_true]
      refine jQ (jJ (jJ (jJ ⟨_,rfl,(fun e=>nomatch e),wpAny_truthy_bool (h false ⟨(fun z=>by cases z),fun z=>?_⟩)⟩)))
      injection z with z
      rw[e1,e2]at z
      have:=List.append_cancel_left z
      injection this with z1 _
      exact absurd z1 ex
  .rintro⟨r1,r2⟩ s' ⟨hr,rfl,d,p,q,us,vs,e1,e2,e3,hp,hq⟩
   simp only at hr
   subst hr
   refine jJ ?_
   refine⟨_,rfl,(fun e=>nomatch e),wpAny_truthy_bool (h (ia.size == ib.size) ?_)⟩
   have la:xs.length=ia.size:=by rw[Xk hpa,zX]
   have lb:ys.length=ib.size:=by rw[Xk hpb,zX]
   constructor
   .intro z
    have z:ia.size=ib.size:=by simpa using z
    have lp:=Xk hp
    have lq:=Xk hq
    have lz:=congrArg List.length e3
    rw[List.length_zip,List.length_nil]at lz
    have l1:=congrArg List.length e1
    have l2:=congrArg List.length e2
    rw[yV]at l1 l2
    have hp0:p=[]:=xJ Om
    have hq0:q=[]:=xJ Om
    rw[e1,e2,hp0,hq0]
   .intro z
    injection z with z
    rw[z]at la
    simp;lia
theorem Qfm:∀{n f:Nat} {x:D} {v:Value} {A:Around} {s:Shared} {Q:Bool->Shared->Prop},n<=f->TrA prog w s.heap n x v->Q true s->wpAny (model prog w) A (eqIsQuiet f v) Q E s:=by
 intro n
 induction n with
 |zero=>
  intro f x v A s Q hf z h
  rcases Qp z with⟨k,rfl,hk⟩ | ⟨m,xs,e,_⟩
  .rw[eqIsQuiet_byValue _ ((intKind prog w).byValue _ _ hk)];exact jJ h
  .cases e
 |succ n ih=>
  intro f x v A s Q hf z h
  rcases Qp z with⟨k,rfl,hk⟩ | ⟨m,xs,e,rfl,a,o,items,k,rfl,ho,hc,hd,hp⟩
  .rw[eqIsQuiet_byValue _ ((intKind prog w).byValue _ _ hk)];exact jJ h
  cases e
  obtain⟨f,rfl⟩:∃g,f=g+1:=⟨f-1,Om⟩
  have hT:s.TypeIs (.ref a) "tuple":=⟨o,ho,hc⟩
  unfold eqIsQuiet
  refine jQ (wpAny_specialOf hT F.slot_tuple_eq.lookup ?_)
  show wpAny _ _ (isInstance (.ref a) (.type "tuple") >>= _) _ _ s
  refine jQ (wpAny_isInstance hT isSubtype_tuple_tuple ?_)
  simp only[jJf,yJ,if_false]
  refine jQ (wpAny_seqItems ho hd ?_)
  refine jQ ?_
  show wpAny _ _ (forIn items _ _) _ _ s
  rw[<-kJd]
  refine wpAny_forIn_list _ (fun rest r s'=>r.1=none/\s'=s/\∃p,Paired (TrA prog w s.heap n) p rest) _ ?_ ?_ _ _ ⟨rfl,rfl,xs,hp⟩
  .rintro v rest r s' ⟨hr,rfl,p,hp⟩
   cases hp with
   |cons hx hp=>
    refine jQ (ih Om hx ?_)
    simp only[jJf,yJ,if_false]
    exact jJ ⟨rfl,rfl,_,hp⟩
  .rintro⟨r1,r2⟩ s' ⟨hr,rfl,_⟩
   simp only at hr
   subst hr
   exact jJ h
theorem Qmm:∀{n f:Nat} {x:D} {v:Value} {A:Around} {s:Shared} {Q:Bool->Shared->Prop},n<=f->TrA prog w s.heap n x v->Q false s->wpAny (model prog w) A (ofAClassStatement f v) Q E s:=by
 have intsC:∀{k:Int} {f:Nat} {v:Value},(intKind prog w).is k v=true->ofAClassStatement f v=pure false:=fun{k f v} hk=>by
  have hc:=(intKind prog w).byValue _ _ hk
  cases v<;>first | (unfold ofAClassStatement;rfl) | (cases f<;>(unfold ofAClassStatement;rfl)) | exact nomatch hc
 intro n
 induction n with
 |zero=>
  intro f x v A s Q hf z h
  rcases Qp z with⟨k,rfl,hk⟩ | ⟨m,xs,e,_⟩
  .rw[intsC hk];exact jJ h
  .cases e
 |succ n ih=>
  intro f x v A s Q hf z h
  rcases Qp z with⟨k,rfl,hk⟩ | ⟨m,xs,e,rfl,a,o,items,k,rfl,ho,hc,hd,hp⟩
  .rw[intsC hk];exact jJ h
  cases e
  obtain⟨f,rfl⟩:∃g,f=g+1:=⟨f-1,Om⟩
  have hT:s.TypeIs (.ref a) "tuple":=⟨o,ho,hc⟩
  unfold ofAClassStatement
  refine jQ (wpAny_typeOf hT ?_)
  dsimp only
  rw[if_pos (show(("tuple":String) == "tuple")=true from rfl)]
  refine jQ (jJ ?_)
  simp only[jJf,yJ,if_false]
  refine jQ (wpAny_seqItems ho hd ?_)
  dsimp only
  refine jQ ?_
  rw[<-kJd]
  refine wpAny_forIn_list _ (fun rest r s'=>r.1=none/\s'=s/\∃p,Paired (TrA prog w s.heap n) p rest) _ ?_ ?_ _ _ ⟨rfl,rfl,xs,hp⟩
  .rintro v rest r s' ⟨hr,rfl,p,hp⟩
   cases hp with
   |cons hx hp=>
    refine jQ (ih Om hx ?_)
    simp only[yJ,if_false]
    exact jJ ⟨rfl,rfl,_,hp⟩
  .rintro⟨r1,r2⟩ s' ⟨hr,rfl,_⟩
   simp only at hr
   subst hr
   exact jJ h
theorem hbv_T:∀{n f:Nat} {x:D} {v:Value} {A:Around} {s:Shared} {Q:Bool->Shared->Prop},n<=f->TrA prog w s.heap n x v->Q true s->wpAny (model prog w) A (hashByValue f v) Q E s:=by
 intro n
 induction n with
 |zero=>
  intro f x v A s Q hf z h
  rcases Qp z with⟨k,rfl,hk⟩ | ⟨m,xs,e,_⟩
  .rw[Qmk hk];exact jJ h
  .cases e
 |succ n ih=>
  intro f x v A s Q hf z h
  rcases Qp z with⟨k,rfl,hk⟩ | ⟨m,xs,e,rfl,a,o,items,k,rfl,ho,hc,hd,hp⟩
  .rw[Qmk hk];exact jJ h
  cases e
  obtain⟨f,rfl⟩:∃g,f=g+1:=⟨f-1,Om⟩
  have hT:s.TypeIs (.ref a) "tuple":=⟨o,ho,hc⟩
  unfold hashByValue
  refine jQ (wpAny_specialOf hT F.slot_tuple_hash.lookup ?_)
  refine jQ (wpAny_seqItems ho hd ?_)
  refine jQ ?_
  rw[yKc,<-kJd]
  refine wpAny_forIn_list _ (fun rest r s'=>r.1=none/\s'=s/\∃p,Paired (TrA prog w s.heap n) p rest) _ ?_ ?_ _ _ ⟨rfl,rfl,xs,hp⟩
  .rintro v rest r s' ⟨hr,rfl,p,hp⟩
   cases hp with
   |cons hx hp=>
    refine jQ (ih Om hx ?_)
    simp only[jJf,yJ,if_false]
    exact jJ ⟨rfl,rfl,_,hp⟩
  .rintro⟨r1,r2⟩ s' ⟨hr,rfl,_⟩
   simp only at hr
   subst hr
   exact jJ h
end
end L2
namespace L2.U
open PySem PySem.Spec PyProof.Rows L2
def LtS(prog:Program)(w:World)(A:Around)(s:Shared)(κ:KeyKind)(kd:SortKind):Prop:=∀(x y:Value) (a b:κ.α) {Q:Bool->Shared->Prop} {E:Value->Shared->Prop},κ.keyOf x=some a->κ.keyOf y=some b->Q (κ.blt a b) s->wpAny (model prog w) A (keyLt' kd x y) Q E s
section
variable{prog:Program}{w:World}{A:Around}{E:Value->Shared->Prop}{s:Shared}{κ:KeyKind}{kd:SortKind}
theorem Jc(hO:LtS prog w A s κ kd){st:SortSt}{x y:Keyed}{Q:Option Bool->SortSt->Prop}(hk:kindOf st=kd)(hx:HasK κ x)(hy:HasK κ y)
  (h:∀b,Q (some b) st):wpS (model prog w) A E s (lt' x y) Q st:=by
 obtain⟨a,ha⟩:=hx
 obtain⟨b,hb⟩:=hy
 rw[lt'_eq]
 refine wpS_bind (wpS_get ?_)
 rw[hk]
 refine wpS_bind (wpS_lift (wpAny_attempt (hO x.1 y.1 a b ha hb ⟨rfl,?_⟩)))
 exact wpS_pure (h _)
theorem Qe{st:SortSt}{arr:Array Keyed}{i:Nat}{Q:Keyed->SortSt->Prop}(hi:i<arr.size)(h:Q arr[i] st):wpS (model prog w) A E s (elem' arr i) Q st:=by
 rw[elem'_eq,getElem?_pos arr i hi]
 exact wpS_pure h
theorem Jl(hO:LtS prog w A s κ kd){st:SortSt}{left:Bool}{key:Keyed}{arr:Array Keyed}{i:Nat}{Q:Option Bool->SortSt->Prop}(hk:kindOf st=kd)
  (hkey:HasK κ key) (harr:∀x∈arr,HasK κ x) (hi:i<arr.size) (h:∀b,Q (some b) st) :
  wpS (model prog w) A E s (elem' arr i >>= fun x=>if left=true then lt' x key else lt' key x >>= fun r=>pure (r.map fun x=>!x)) Q st:=by
 refine wpS_bind (Qe hi ?_)
 have hx:=harr _ (zZ hi)
 split
 .exact Jc hO hk hx hkey h
 .exact wpS_bind (Jc hO hk hkey hx fun b=>wpS_pure (h _))
theorem Ym(hO:LtS prog w A s κ kd){st:SortSt}{left:Bool}{key:Keyed}{arr:Array Keyed}{base n hint:Nat}{Q:Option Nat->SortSt->Prop}(hk:kindOf st=kd)
  (hkey:HasK κ key) (harr:∀x∈arr,HasK κ x) (hb:base+n<=arr.size) (hh:hint<n) (h:∀k,k<=n->Q (some k) st) :
  wpS (model prog w) A E s (Vb left key arr base n hint) Q st:=by
 refine wpS_bind (Jl hO hk hkey harr Om fun right=>?_)
 dsimp only
 have fin:∀lo hi:Nat,hi<=n->wpS (model prog w) A E s (forIn [:n] ((none,lo,hi):Option (Option Nat)×Nat×Nat) fun x t=>
   if t.2.1≥t.2.2 then pure (ForInStep.done (none,t.2.1,t.2.2))else
    (elem' arr (base+(t.2.1+(t.2.2-t.2.1) / 2)) >>= fun x=>if left=true then lt' x key else lt' key x >>= fun r=>pure (r.map fun x=>!x)) >>= fun m=>match m with
     |some more=>if more=true then pure (ForInStep.yield (none,t.2.1+(t.2.2-t.2.1) / 2+1,t.2.2))else pure (ForInStep.yield (none,t.2.1,t.2.1+(t.2.2-t.2.1) / 2))
     |x=>pure (ForInStep.done (some none,t.2.1,t.2.2))) (fun t st'=>st'=st/\t.1=none/\t.2.2<=n) st:=by
  intro lo hi hn
  refine wpS_forRange (I:=fun _ (c:Option (Option Nat)×Nat×Nat) st'=>st'=st/\c.1=none/\c.2.2<=n) ?_ (fun c st' hc=>hc) ⟨rfl,rfl,hn⟩
  rintro x ⟨r,l,k⟩ st' _ _ ⟨rfl,hr,hk'⟩
  simp only at hr hk'⊢
  subst hr
  split
  .exact wpS_pure ⟨rfl,rfl,hk'⟩
  .refine wpS_bind (Jl hO hk hkey harr Om fun more=>?_)
   cases more
   .exact wpS_pure ⟨rfl,rfl,by show l+(k-l) / 2<=n;lia⟩
   .exact wpS_pure ⟨rfl,rfl,hk'⟩
 have fin2:∀(f:Option (Option Nat)×Nat×Nat->StateT SortSt Sem (Option Nat)) (lo hi:Nat),hi<=n->(∀t,t.1=none->f t=pure (some t.2.2))->wpS (model prog w) A E s (forIn [:n] ((none,lo,hi):Option (Option Nat)×Nat×Nat) (fun x t=>
   if t.2.1≥t.2.2 then pure (ForInStep.done (none,t.2.1,t.2.2))else
    (elem' arr (base+(t.2.1+(t.2.2-t.2.1) / 2)) >>= fun x=>if left=true then lt' x key else lt' key x >>= fun r=>pure (r.map fun x=>!x)) >>= fun m=>match m with
     |some more=>if more=true then pure (ForInStep.yield (none,t.2.1+(t.2.2-t.2.1) / 2+1,t.2.2))else pure (ForInStep.yield (none,t.2.1,t.2.1+(t.2.2-t.2.1) / 2))
     |x=>pure (ForInStep.done (some none,t.2.1,t.2.2))) >>= f) Q st:=by
  intro f lo hi hn hf
  refine wpS_bind (wpS_mono (fin lo hi hn) ?_)
  rintro⟨r,l,k⟩ st' ⟨rfl,hr,hk'⟩
  rw[hf _ hr]
  exact wpS_pure (h _ hk')
 cases right
 .refine wpS_bind (wpS_mono (wpS_forRange (I:=fun _ (c:Option (Option Nat)×Nat×Nat) st'=>st'=st/\c.1=none/\1<=c.2.2) (Q:=fun(c:Option (Option Nat)×Nat×Nat) st'=>st'=st/\c.1=none) ?_ (fun c st' hc=>⟨hc.1,hc.2.1⟩) ⟨rfl,rfl,jW 1⟩) ?_)
  .rintro x ⟨r,l,k⟩ st' _ _ ⟨rfl,hr,hk'⟩
   simp only at hr hk'⊢
   subst hr
   split
   .exact wpS_pure ⟨rfl,rfl⟩
   .refine wpS_bind (Jl hO hk hkey harr Om fun more=>?_)
    cases more
    .exact wpS_pure ⟨rfl,rfl,by show 1<=2*k+1;lia⟩
    .exact wpS_pure ⟨rfl,rfl⟩
  .rintro⟨r,l,k⟩ st' ⟨rfl,hr⟩
   simp only at hr
   subst hr
   exact fin2 _ _ _ Om fun t ht=>by obtain⟨a,b,c⟩:=t;simp only at ht;subst ht;rfl
 .refine wpS_bind (wpS_mono (wpS_forRange (I:=fun _ (c:Option (Option Nat)×Nat×Nat) st'=>st'=st/\c.1=none/\1<=c.2.2) (Q:=fun(c:Option (Option Nat)×Nat×Nat) st'=>st'=st/\c.1=none) ?_ (fun c st' hc=>⟨hc.1,hc.2.1⟩) ⟨rfl,rfl,jW 1⟩) ?_)
  .rintro x ⟨r,l,k⟩ st' _ _ ⟨rfl,hr,hk'⟩
   simp only at hr hk'⊢
   subst hr
   split
   .exact wpS_pure ⟨rfl,rfl⟩
   .refine wpS_bind (Jl hO hk hkey harr Om fun more=>?_)
    cases more
    .exact wpS_pure ⟨rfl,rfl⟩
    .exact wpS_pure ⟨rfl,rfl,by show 1<=2*k+1;lia⟩
  .rintro⟨r,l,k⟩ st' ⟨rfl,hr⟩
   simp only at hr
   subst hr
   exact fin2 _ _ _ (by show hint+min _ (n-hint)<=n;lia) fun t ht=>by obtain⟨a,b,c⟩:=t;simp only at ht;subst ht;rfl
end
def LoP(a b out:Array Keyed)(ia ib:Nat):Prop:=out.toList.Perm (a.toList.take ia++b.toList.take ib)
abbrev setG(st:SortSt)(g:Nat):SortSt:=SortSt.mk' (kindOf st) (arrOf st) (pendingOf st) g (failedOf st)
theorem take_snoc{α:Type}(xs:Array α){i:Nat}(hi:i<xs.size):xs.toList.take (i+1)=xs.toList.take i++[xs[i]]:=by
 rw[List.take_add_one,yX,getElem?_pos xs i hi];rfl
theorem Kr{α:Type}(xs:Array α)(i k:Nat):xs.toList.take (i+k)=xs.toList.take i++(xs.extract i (i+k)).toList:=by
 rw[kKc,kYd,show i+k-i=k by lia,List.take_add]
section
variable{a b out:Array Keyed}{ia ib k:Nat}
theorem LoP.pushB(h:LoP a b out ia ib)(hi:ib<b.size):LoP a b (out.push b[ib]) ia (ib+1):=by
 unfold LoP at *
 rw[wV,take_snoc b hi,<-kZ]
 exact h.append_right _
theorem LoP.pushA(h:LoP a b out ia ib)(hi:ia<a.size):LoP a b (out.push a[ia]) (ia+1) ib:=by
 unfold LoP at *
 rw[wV,take_snoc a hi,kZ]
 refine(h.append_right _).trans ?_
 rw[kZ]
 exact List.Perm.append_left _ jXb
theorem LoP.addB(h:LoP a b out ia ib)(k:Nat):LoP a b (out++b.extract ib (ib+k)) ia (ib+k):=by
 unfold LoP at *
 rw[yK,Kr b,<-kZ]
 exact h.append_right _
theorem LoP.addA(h:LoP a b out ia ib)(k:Nat):LoP a b (out++a.extract ia (ia+k)) (ia+k) ib:=by
 unfold LoP at *
 rw[yK,Kr a,kZ]
 refine(h.append_right _).trans ?_
 rw[kZ]
 exact List.Perm.append_left _ jXb
theorem LoP.done(h:LoP a b out ia ib):(out++a.extract ia++b.extract ib).toList.Perm (a.toList++b.toList):=by
 unfold LoP at *
 have e:∀(xs:Array Keyed) (i:Nat),xs.toList.take i++(xs.extract i).toList=xs.toList:=by
  intro xs i
  rw[kKc,kYd,show xs.size-i=(xs.toList.drop i).length by rw[kZe];rfl,wW,jZb]
 rw[yK,yK]
 refine((h.append_right _).append_right _).trans ?_
 conv=>rhs;rw[<-e a ia,<-e b ib]
 rw[kZ,kZ,kZ]
 refine List.Perm.append_left _ ?_
 rw[<-kZ,<-kZ]
 exact List.Perm.append_right _ jXb
theorem LoP.last(h:LoP a b out ia ib):(out++b.extract ib++a.extract ia).toList.Perm (a.toList++b.toList):=by
 refine List.Perm.trans ?_ h.done
 simp only[yK]
 rw[kZ,kZ]
 exact List.Perm.append_left _ jXb
end
section
variable{prog:Program}{w:World}{A:Around}{E:Value->Shared->Prop}{s:Shared}{κ:KeyKind}{kd:SortKind}
theorem Qd{σ α:Type}{M:Model}{c:Prop}[Decidable c]{m₁ m₂:StateT σ Sem α}{Q:α->σ->Prop}{st:σ}(h₁:c->wpS M A E s m₁ Q st)(h₂:¬c->wpS M A E s m₂ Q st):wpS M A E s (if c then m₁ else m₂) Q st:=by
 by_cases h:c
 .rw[if_pos h];exact h₁ h
 .rw[if_neg h];exact h₂ h
theorem Qfn(hO:LtS prog w A s κ kd){st:SortSt}{a b:Array Keyed}{Q:Array Keyed->SortSt->Prop}(hk:kindOf st=kd)
  (ha:∀x∈a,HasK κ x) (hb:∀x∈b,HasK κ x) (na:1<=a.size) (nb:1<=b.size) (h:∀out g,out.toList.Perm (a.toList++b.toList)->Q out (setG st g)) :
  wpS (model prog w) A E s (Qhf a b) Q st:=by
 refine wpS_bind (wpS_lift (wpAny_rule ⟨rfl,?_⟩))
 refine wpS_bind (Qe Om ?_)
 have l0:LoP a b #[b[0]] 0 1:=by
  unfold LoP
  rw[take_snoc b Om]
  exact List.Perm.refl _
 dsimp only
 refine Qd (fun _=>wpS_pure (h _ (gallopOf st) l0.done)) fun e1=>?_
 refine Qd (fun _=>wpS_pure (h _ (gallopOf st) l0.last)) fun e2=>?_
 rw[beq_iff_eq]at e1 e2
 refine wpS_bind (wpS_get ?_)
 refine wpS_bind (wpS_mono (wpS_forRange (I:=fun x (c:Option (Array Keyed)×Array Keyed×Nat×Nat×Nat) st'=>(∃g,st'=setG st g)/\c.1=none/\LoP a b c.2.1 c.2.2.1 c.2.2.2.1/\c.2.2.1+1<a.size/\c.2.2.2.1<b.size/\x<=c.2.2.1+c.2.2.2.1)
  (Q:=fun c st'=>(∃g,st'=setG st g)/\∃r,c.1=some r/\r.toList.Perm (a.toList++b.toList)) ?step ?fin ⟨⟨gallopOf st,rfl⟩,rfl,l0,by show 0+1<_;lia,by show 1<_;lia,wY _⟩) ?post)
 case post=>
  rintro⟨r,c⟩ st' ⟨⟨g,rfl⟩,r',hr,hp⟩
  simp only at hr
  subst hr
  exact wpS_pure (h _ _ hp)
 case fin=>
  rintro⟨r,out,ia,ib,mg⟩ st' ⟨_,_,_,h1,h2,h3⟩
  simp only at h1 h2 h3
  lia
 case step=>
  rintro x ⟨r,out,ia,ib,mg⟩ st' _ _ ⟨⟨g,rfl⟩,hr,hl,h1,h2,h3⟩
  simp only at hr hl h1 h2 h3⊢
  subst hr
  refine wpS_bind (wpS_mono (wpS_forRange (I:=fun y (c:Option (Array Keyed)×Array Keyed×Nat×Nat×Nat×Nat) st'=>st'=setG st g/\c.1=none/\LoP a b c.2.1 c.2.2.1 c.2.2.2.1/\c.2.2.1+1<a.size/\c.2.2.2.1<b.size/\x+y<=c.2.2.1+c.2.2.2.1)
   (Q:=fun c st'=>st'=setG st g/\((∃r,c.1=some r/\r.toList.Perm (a.toList++b.toList))\/c.1=none/\LoP a b c.2.1 c.2.2.1 c.2.2.2.1/\c.2.2.1+1<a.size/\c.2.2.2.1<b.size/\x+1<=c.2.2.1+c.2.2.2.1)) ?s1 ?f1 ⟨rfl,rfl,hl,h1,h2,h3⟩) ?p1)
  case f1=>
   rintro⟨r,out,ia,ib,ac,bc⟩ st' ⟨rfl,hr,hl,h1,h2,h3⟩
   simp only at h1 h2 h3
   exact⟨rfl,.inr ⟨hr,hl,h1,h2,by show x+1<=ia+ib;lia⟩⟩
  case s1=>
   rintro y ⟨r,out,ia,ib,ac,bc⟩ st' _ _ ⟨rfl,hr,hl,h1,h2,h3⟩
   simp only at hr hl h1 h2 h3⊢
   subst hr
   refine wpS_bind (Qe h2 ?_)
   refine wpS_bind (Qe Om ?_)
   refine wpS_bind (Jc hO hk (hb _ (zZ _)) (ha _ (zZ _)) fun wins=>?_)
   cases wins
   .refine wpS_bind (Qe (i:=ia) Om ?_)
    have hl':=hl.pushA (show ia<a.size by lia)
    refine Qd (fun _=>wpS_pure ⟨rfl,.inl ⟨_,rfl,hl'.last⟩⟩) fun e=>?_
    .rw[beq_iff_eq]at e
     refine Qd (fun _=>?_) fun _=>?_
     .exact wpS_pure ⟨rfl,.inr ⟨rfl,hl',by show ia+1+1<_;lia,h2,by show x+1<=ia+1+ib;lia⟩⟩
     .exact wpS_pure ⟨rfl,rfl,hl',by show ia+1+1<_;lia,h2,by show x+(y+1)<=ia+1+ib;lia⟩
   .refine wpS_bind (Qe h2 ?_)
    have hl':=hl.pushB h2
    refine Qd (fun _=>wpS_pure ⟨rfl,.inl ⟨_,rfl,hl'.done⟩⟩) fun e=>?_
    .rw[beq_iff_eq]at e
     refine Qd (fun _=>?_) fun _=>?_
     .exact wpS_pure ⟨rfl,.inr ⟨rfl,hl',h1,by show ib+1<_;lia,by show x+1<=ia+(ib+1);lia⟩⟩
     .exact wpS_pure ⟨rfl,rfl,hl',h1,by show ib+1<_;lia,by show x+(y+1)<=ia+(ib+1);lia⟩
  case p1=>
   rintro⟨r,out,ia,ib,ac,bc⟩ st' ⟨rfl,hr | ⟨hr,hl,h1,h2,h3⟩⟩
   .obtain⟨r',hr,hp⟩:=hr
    simp only at hr
    subst hr
    exact wpS_pure ⟨⟨_,rfl⟩,_,rfl,hp⟩
   simp only at hr hl h1 h2 h3⊢
   subst hr
   refine wpS_bind (wpS_lift (wpAny_rule ⟨rfl,?_⟩))
   refine wpS_bind (wpS_mono (wpS_forRange (I:=fun y (c:Option (Array Keyed)×Array Keyed×Nat×Nat×Nat×Nat×Nat) st'=>(∃g,st'=setG st g)/\c.1=none/\LoP a b c.2.1 c.2.2.1 c.2.2.2.1/\c.2.2.1+1<a.size/\c.2.2.2.1<b.size/\x+1<=c.2.2.1+c.2.2.2.1)
    (Q:=fun c st'=>(∃g,st'=setG st g)/\((∃r,c.1=some r/\r.toList.Perm (a.toList++b.toList))\/c.1=none/\LoP a b c.2.1 c.2.2.1 c.2.2.2.1/\c.2.2.1+1<a.size/\c.2.2.2.1<b.size/\x+1<=c.2.2.1+c.2.2.2.1)) ?s2 ?f2 ⟨⟨_,rfl⟩,rfl,hl,h1,h2,h3⟩) ?p2)
   case f2=>
    rintro⟨r,out,ia,ib,mg,ac,bc⟩ st' ⟨hg,hr,hl,h1,h2,h3⟩
    exact⟨hg,.inr ⟨hr,hl,h1,h2,h3⟩⟩
   case p2=>
    rintro⟨r,out,ia,ib,mg,ac,bc⟩ st' ⟨⟨g,rfl⟩,hr | ⟨hr,hl,h1,h2,h3⟩⟩
    .obtain⟨r',hr,hp⟩:=hr
     simp only at hr
     subst hr
     exact wpS_pure ⟨⟨_,rfl⟩,_,rfl,hp⟩
    .simp only at hr hl h1 h2 h3⊢
     subst hr
     exact wpS_bind (wpS_modify (wpS_pure ⟨⟨_,rfl⟩,rfl,hl,h1,h2,h3⟩))
   case s2=>
    rintro y ⟨r,out,ia,ib,mg,ac,bc⟩ st' _ _ ⟨⟨g,rfl⟩,hr,hl,h1,h2,h3⟩
    simp only at hr hl h1 h2 h3⊢
    subst hr
    have G1:∀{st':SortSt} {Q':Option Nat->SortSt->Prop},kindOf st'=kd->(∀k,ia+k<=a.size->Q' (some k) st')->wpS (model prog w) A E s (Vb false b[ib] a ia (a.size-ia) 0) Q' st':=fun hk' hq=>
     Ym hO hk' (hb _ (zZ _)) ha Om Om fun k hk2=>hq k Om
    have G2:∀{st':SortSt} {Q':Option Nat->SortSt->Prop} (i:Nat) (hi:i<a.size),ib+1<b.size->kindOf st'=kd->(∀k,ib+1+k<=b.size->Q' (some k) st')->wpS (model prog w) A E s (Vb true a[i] b (ib+1) (b.size-(ib+1)) 0) Q' st':=fun i hi hlt hk' hq=>
     Ym hO hk' (ha _ (zZ _)) hb Om Om fun k hk2=>hq k Om
    refine Qd (fun _=>?_) (fun _=>?_)
    all_goals
     refine wpS_bind (wpS_modify ?_)
     refine wpS_bind (Qe h2 ?_)
     refine wpS_bind (G1 (by exact hk) fun k hk1=>?_)
     dsimp only
     refine Qd (fun k0=>?_) (fun k0=>?_)
     .have hl1:=hl.addA k
      refine Qd (fun _=>wpS_pure ⟨⟨_,rfl⟩,.inl ⟨_,rfl,hl1.last⟩⟩) fun e1=>?_
      refine Qd (fun _=>wpS_pure ⟨⟨_,rfl⟩,.inl ⟨_,rfl,hl1.done⟩⟩) fun e2=>?_
      rw[beq_iff_eq]at e1 e2
      refine wpS_bind (Qe h2 ?_)
      have hl2:=hl1.pushB h2
      have hj:ia+k+1<a.size:=Om
      refine Qd (fun _=>wpS_pure ⟨⟨_,rfl⟩,.inl ⟨_,rfl,hl2.done⟩⟩) fun e3=>?_
      rw[beq_iff_eq]at e3
      refine wpS_bind (Qe (xV hj) ?_)
      refine wpS_bind (G2 _ _ Om (by exact hk) fun k2 hk2=>?_)
      dsimp only
      refine Qd (fun k0'=>?_) (fun k0'=>?_)
      .have hl3:=hl2.addB k2
       refine Qd (fun _=>wpS_pure ⟨⟨_,rfl⟩,.inl ⟨_,rfl,hl3.done⟩⟩) fun e4=>?_
       rw[beq_iff_eq]at e4
       refine wpS_bind (Qe (xV hj) ?_)
       have hl4:=hl3.pushA (xV hj)
       refine Qd (fun _=>wpS_pure ⟨⟨_,rfl⟩,.inl ⟨_,rfl,hl4.last⟩⟩) fun e5=>?_
       rw[beq_iff_eq]at e5
       refine Qd (fun _=>wpS_pure ⟨⟨_,rfl⟩,.inr ⟨rfl,hl4,?_,?_,?_⟩⟩) fun _=>wpS_pure ⟨⟨_,rfl⟩,rfl,hl4,?_,?_,?_⟩<;>dsimp only<;>lia
      .refine wpS_bind (Qe (xV hj) ?_)
       have hl4:=hl2.pushA (xV hj)
       refine Qd (fun _=>wpS_pure ⟨⟨_,rfl⟩,.inl ⟨_,rfl,hl4.last⟩⟩) fun e5=>?_
       rw[beq_iff_eq]at e5
       refine Qd (fun _=>wpS_pure ⟨⟨_,rfl⟩,.inr ⟨rfl,hl4,?_,?_,?_⟩⟩) fun _=>wpS_pure ⟨⟨_,rfl⟩,rfl,hl4,?_,?_,?_⟩<;>dsimp only<;>lia
     .have hl2:=hl.pushB h2
      have hj:ia+1<a.size:=h1
      refine wpS_bind (Qe h2 ?_)
      refine Qd (fun _=>wpS_pure ⟨⟨_,rfl⟩,.inl ⟨_,rfl,hl2.done⟩⟩) fun e3=>?_
      rw[beq_iff_eq]at e3
      refine wpS_bind (Qe (xV hj) ?_)
      refine wpS_bind (G2 _ _ Om (by exact hk) fun k2 hk2=>?_)
      dsimp only
      refine Qd (fun k0'=>?_) (fun k0'=>?_)
      .have hl3:=hl2.addB k2
       refine Qd (fun _=>wpS_pure ⟨⟨_,rfl⟩,.inl ⟨_,rfl,hl3.done⟩⟩) fun e4=>?_
       rw[beq_iff_eq]at e4
       refine wpS_bind (Qe (xV hj) ?_)
       have hl4:=hl3.pushA (xV hj)
       refine Qd (fun _=>wpS_pure ⟨⟨_,rfl⟩,.inl ⟨_,rfl,hl4.last⟩⟩) fun e5=>?_
       rw[beq_iff_eq]at e5
       refine Qd (fun _=>wpS_pure ⟨⟨_,rfl⟩,.inr ⟨rfl,hl4,?_,?_,?_⟩⟩) fun _=>wpS_pure ⟨⟨_,rfl⟩,rfl,hl4,?_,?_,?_⟩<;>dsimp only<;>lia
      .refine wpS_bind (Qe (xV hj) ?_)
       have hl4:=hl2.pushA (xV hj)
       refine Qd (fun _=>wpS_pure ⟨⟨_,rfl⟩,.inl ⟨_,rfl,hl4.last⟩⟩) fun e5=>?_
       rw[beq_iff_eq]at e5
       refine Qd (fun _=>wpS_pure ⟨⟨_,rfl⟩,.inr ⟨rfl,hl4,?_,?_,?_⟩⟩) fun _=>wpS_pure ⟨⟨_,rfl⟩,rfl,hl4,?_,?_,?_⟩<;>dsimp only<;>lia
end
def HiP(a b out:Array Keyed)(na nb:Nat):Prop:=(a.toList.take na++(b.toList.take nb++out.toList)).Perm (a.toList++b.toList)
theorem Jm{α:Type}(xs:Array α){i n:Nat}(h:i<=n):xs.toList.take n=xs.toList.take i++(xs.extract i n).toList:=by
 have:=Kr xs i (n-i)
 rwa [show i+(n-i)=n by lia]at this
section
variable{a b out:Array Keyed}{na nb k:Nat}
theorem HiP.popB(h:HiP a b out na (nb+1))(hi:nb<b.size):HiP a b (out.push b[nb]) na nb:=by
 unfold HiP at *
 refine List.Perm.trans (List.Perm.append_left _ ?_) h
 rw[wV,take_snoc b hi,kZ]
 exact List.Perm.append_left _ jXb
theorem HiP.popA(h:HiP a b out (na+1) nb)(hi:na<a.size):HiP a b (out.push a[na]) na nb:=by
 unfold HiP at *
 refine List.Perm.trans ?_ h
 rw[wV,take_snoc a hi,kZ]
 refine List.Perm.append_left _ ?_
 rw[<-kZ]
 exact jXb
theorem HiP.lessA(h:HiP a b out na nb)(h1:1<=na)(hi:na-1<a.size):HiP a b (out.push a[na-1]) (na-1) nb:=by
 refine HiP.popA ?_ hi
 rwa [Nat.sub_add_cancel h1]
theorem HiP.lessB(h:HiP a b out na nb)(h1:1<=nb)(hi:nb-1<b.size):HiP a b (out.push b[nb-1]) na (nb-1):=by
 refine HiP.popB ?_ hi
 rwa [Nat.sub_add_cancel h1]
theorem HiP.cutB(h:HiP a b out na nb)(hk:k<=nb):HiP a b (out++(b.extract k nb).reverse) na k:=by
 unfold HiP at *
 refine List.Perm.trans (List.Perm.append_left _ ?_) h
 rw[yK,jYd,Jm b hk,kZ]
 exact List.Perm.append_left _ (jXb.trans (List.Perm.append_right _ (List.reverse_perm _)))
theorem HiP.cutA(h:HiP a b out na nb)(hk:k<=na):HiP a b (out++(a.extract k na).reverse) k nb:=by
 unfold HiP at *
 refine List.Perm.trans ?_ h
 rw[yK,jYd,Jm a hk,kZ]
 refine List.Perm.append_left _ ?_
 rw[<-kZ]
 exact jXb.trans (List.Perm.append_right _ (List.reverse_perm _))
theorem ext0{α:Type}(xs:Array α)(n:Nat):(xs.extract 0 n).toList=xs.toList.take n:=by
 rw[kKc,kYd];rfl
theorem HiP.done(h:HiP a b out na nb):(a.extract 0 na++b.extract 0 nb++out.reverse).toList.Perm (a.toList++b.toList):=by
 unfold HiP at *
 refine List.Perm.trans ?_ h
 rw[yK,yK,ext0,ext0,jYd,kZ]
 exact List.Perm.append_left _ (List.Perm.append_left _ (List.reverse_perm _))
theorem HiP.first(h:HiP a b out na nb):(b.extract 0 nb++a.extract 0 na++out.reverse).toList.Perm (a.toList++b.toList):=by
 refine List.Perm.trans ?_ h.done
 simp only[yK]
 exact List.Perm.append_right _ jXb
end
section
variable{prog:Program}{w:World}{A:Around}{E:Value->Shared->Prop}{s:Shared}{κ:KeyKind}{kd:SortKind}
theorem Qfo(hO:LtS prog w A s κ kd){st:SortSt}{a b:Array Keyed}{Q:Array Keyed->SortSt->Prop}(hk:kindOf st=kd)
  (ha:∀x∈a,HasK κ x) (hb:∀x∈b,HasK κ x) (na:1<=a.size) (nb:1<=b.size) (h:∀out g,out.toList.Perm (a.toList++b.toList)->Q out (setG st g)) :
  wpS (model prog w) A E s (Qhg a b) Q st:=by
 refine wpS_bind (wpS_lift (wpAny_rule ⟨rfl,?_⟩))
 refine wpS_bind (Qe Om ?_)
 have l0:HiP a b #[a[a.size-1]] (a.size-1) b.size:=by
  have:HiP a b #[] (a.size-1+1) b.size:=by
   unfold HiP
   rw[show a.size-1+1=a.toList.length by show _=a.size;lia,show b.size=b.toList.length from rfl,wW,wW]
   simp
  exact this.popA Om
 dsimp only
 refine Qd (fun _=>wpS_pure (h _ (gallopOf st) l0.done)) fun e1=>?_
 refine Qd (fun _=>wpS_pure (h _ (gallopOf st) l0.first)) fun e2=>?_
 rw[beq_iff_eq]at e1 e2
 refine wpS_bind (wpS_get ?_)
 refine wpS_bind (wpS_mono (wpS_forRange (I:=fun x (c:Option (Array Keyed)×Nat×Nat×Array Keyed×Nat) st'=>(∃g,st'=setG st g)/\c.1=none/\HiP a b c.2.2.2.1 c.2.1 c.2.2.1/\1<=c.2.1/\c.2.1<=a.size/\2<=c.2.2.1/\c.2.2.1<=b.size/\x+c.2.1+c.2.2.1<=a.size+b.size)
  (Q:=fun c st'=>(∃g,st'=setG st g)/\∃r,c.1=some r/\r.toList.Perm (a.toList++b.toList)) ?step ?fin ⟨⟨gallopOf st,rfl⟩,rfl,l0,?_,?_,?_,?_,?_⟩) ?post)
 case post=>
  rintro⟨r,c⟩ st' ⟨⟨g,rfl⟩,r',hr,hp⟩
  simp only at hr
  subst hr
  exact wpS_pure (h _ _ hp)
 case fin=>
  rintro⟨r,na,nb,out,mg⟩ st' ⟨_,_,_,h1,h2,h3,h4,h5⟩
  simp only at h1 h2 h3 h5
  lia
 case step=>
  rintro x ⟨r,na,nb,out,mg⟩ st' _ _ ⟨⟨g,rfl⟩,hr,hl,h1,h2,h3,h4,h5⟩
  simp only at hr hl h1 h2 h3 h4 h5⊢
  subst hr
  refine wpS_bind (wpS_mono (wpS_forRange (I:=fun y (c:Option (Array Keyed)×Nat×Nat×Array Keyed×Nat×Nat) st'=>st'=setG st g/\c.1=none/\HiP a b c.2.2.2.1 c.2.1 c.2.2.1/\1<=c.2.1/\c.2.1<=a.size/\2<=c.2.2.1/\c.2.2.1<=b.size/\x+y+c.2.1+c.2.2.1<=a.size+b.size)
   (Q:=fun c st'=>st'=setG st g/\((∃r,c.1=some r/\r.toList.Perm (a.toList++b.toList))\/c.1=none/\HiP a b c.2.2.2.1 c.2.1 c.2.2.1/\1<=c.2.1/\c.2.1<=a.size/\2<=c.2.2.1/\c.2.2.1<=b.size/\x+1+c.2.1+c.2.2.1<=a.size+b.size)) ?s1 ?f1 ⟨rfl,rfl,hl,h1,h2,h3,h4,h5⟩) ?p1)
  case f1=>
   rintro⟨r,na,nb,out,ac,bc⟩ st' ⟨rfl,hr,hl,h1,h2,h3,h4,h5⟩
   simp only at h1 h2 h3 h4 h5
   exact⟨rfl,.inr ⟨hr,hl,h1,h2,h3,h4,by show x+1+na+nb<=_;lia⟩⟩
  case s1=>
   rintro y ⟨r,na,nb,out,ac,bc⟩ st' _ _ ⟨rfl,hr,hl,h1,h2,h3,h4,h5⟩
   simp only at hr hl h1 h2 h3 h4 h5⊢
   subst hr
   refine wpS_bind (Qe Om ?_)
   refine wpS_bind (Qe Om ?_)
   refine wpS_bind (Jc hO hk (hb _ (zZ _)) (ha _ (zZ _)) fun wins=>?_)
   cases wins
   .refine wpS_bind (Qe (i:=nb-1) Om ?_)
    have hl':=hl.lessB Om (show nb-1<b.size by lia)
    refine Qd (fun _=>wpS_pure ⟨rfl,.inl ⟨_,rfl,hl'.first⟩⟩) fun e=>?_
    rw[beq_iff_eq]at e
    refine Qd (fun _=>wpS_pure ⟨rfl,.inr ⟨rfl,hl',?_,?_,?_,?_,?_⟩⟩) fun _=>wpS_pure ⟨rfl,rfl,hl',?_,?_,?_,?_,?_⟩<;>dsimp only<;>lia
   .refine wpS_bind (Qe (i:=na-1) Om ?_)
    have hl':=hl.lessA Om (show na-1<a.size by lia)
    refine Qd (fun _=>wpS_pure ⟨rfl,.inl ⟨_,rfl,hl'.done⟩⟩) fun e=>?_
    rw[beq_iff_eq]at e
    refine Qd (fun _=>wpS_pure ⟨rfl,.inr ⟨rfl,hl',?_,?_,?_,?_,?_⟩⟩) fun _=>wpS_pure ⟨rfl,rfl,hl',?_,?_,?_,?_,?_⟩<;>dsimp only<;>lia
  case p1=>
   rintro⟨r,na,nb,out,ac,bc⟩ st' ⟨rfl,hr | ⟨hr,hl,h1,h2,h3,h4,h5⟩⟩
   .obtain⟨r',hr,hp⟩:=hr
    simp only at hr
    subst hr
    exact wpS_pure ⟨⟨_,rfl⟩,_,rfl,hp⟩
   simp only at hr hl h1 h2 h3 h4 h5⊢
   subst hr
   refine wpS_bind (wpS_lift (wpAny_rule ⟨rfl,?_⟩))
   refine wpS_bind (wpS_mono (wpS_forRange (I:=fun y (c:Option (Array Keyed)×Nat×Nat×Array Keyed×Nat×Nat×Nat) st'=>(∃g,st'=setG st g)/\c.1=none/\HiP a b c.2.2.2.1 c.2.1 c.2.2.1/\1<=c.2.1/\c.2.1<=a.size/\2<=c.2.2.1/\c.2.2.1<=b.size/\x+1+c.2.1+c.2.2.1<=a.size+b.size)
    (Q:=fun c st'=>(∃g,st'=setG st g)/\((∃r,c.1=some r/\r.toList.Perm (a.toList++b.toList))\/c.1=none/\HiP a b c.2.2.2.1 c.2.1 c.2.2.1/\1<=c.2.1/\c.2.1<=a.size/\2<=c.2.2.1/\c.2.2.1<=b.size/\x+1+c.2.1+c.2.2.1<=a.size+b.size)) ?s2 ?f2 ⟨⟨_,rfl⟩,rfl,hl,h1,h2,h3,h4,h5⟩) ?p2)
   case f2=>
    rintro⟨r,na,nb,out,mg,ac,bc⟩ st' ⟨hg,hr,hl,hh⟩
    exact⟨hg,.inr ⟨hr,hl,hh⟩⟩
   case p2=>
    rintro⟨r,na,nb,out,mg,ac,bc⟩ st' ⟨⟨g,rfl⟩,hr | ⟨hr,hl,hh⟩⟩
    .obtain⟨r',hr,hp⟩:=hr
     simp only at hr
     subst hr
     exact wpS_pure ⟨⟨_,rfl⟩,_,rfl,hp⟩
    .simp only at hr hl hh⊢
     subst hr
     exact wpS_bind (wpS_modify (wpS_pure ⟨⟨_,rfl⟩,rfl,hl,hh⟩))
   case s2=>
    rintro y ⟨r,na,nb,out,mg,ac,bc⟩ st' _ _ ⟨⟨g,rfl⟩,hr,hl,h1,h2,h3,h4,h5⟩
    simp only at hr hl h1 h2 h3 h4 h5⊢
    subst hr
    refine Qd (fun _=>?_) (fun _=>?_)
    all_goals
     refine wpS_bind (wpS_modify ?_)
     refine wpS_bind (Qe Om ?_)
     refine wpS_bind (Ym hO (by exact hk) (hb _ (zZ _)) ha Om Om fun k hk1=>?_)
     dsimp only
     refine Qd (fun k0=>?_) (fun k0=>?_)
     .have hl1:=hl.cutA hk1
      refine Qd (fun _=>wpS_pure ⟨⟨_,rfl⟩,.inl ⟨_,rfl,hl1.done⟩⟩) fun e1=>?_
      rw[beq_iff_eq]at e1
      refine wpS_bind (Qe Om ?_)
      have hl2:=hl1.lessB Om (show nb-1<b.size by lia)
      refine Qd (fun _=>wpS_pure ⟨⟨_,rfl⟩,.inl ⟨_,rfl,hl2.first⟩⟩) fun e3=>?_
      rw[beq_iff_eq]at e3
      refine wpS_bind (Qe Om ?_)
      refine wpS_bind (Ym hO (by exact hk) (ha _ (zZ _)) hb Om Om fun k2 hk2=>?_)
      dsimp only
      refine Qd (fun k0'=>?_) (fun k0'=>?_)
      .have hl3:=hl2.cutB hk2
       refine Qd (fun _=>wpS_pure ⟨⟨_,rfl⟩,.inl ⟨_,rfl,hl3.first⟩⟩) fun e4=>?_
       refine Qd (fun _=>wpS_pure ⟨⟨_,rfl⟩,.inl ⟨_,rfl,hl3.done⟩⟩) fun e6=>?_
       rw[beq_iff_eq]at e4 e6
       refine wpS_bind (Qe Om ?_)
       have hl4:=hl3.lessA Om (show k-1<a.size by lia)
       refine Qd (fun _=>wpS_pure ⟨⟨_,rfl⟩,.inl ⟨_,rfl,hl4.done⟩⟩) fun e5=>?_
       rw[beq_iff_eq]at e5
       refine Qd (fun _=>wpS_pure ⟨⟨_,rfl⟩,.inr ⟨rfl,hl4,?_,?_,?_,?_,?_⟩⟩) fun _=>wpS_pure ⟨⟨_,rfl⟩,rfl,hl4,?_,?_,?_,?_,?_⟩<;>dsimp only<;>lia
      .refine wpS_bind (Qe Om ?_)
       have hl4:=hl2.lessA Om (show k-1<a.size by lia)
       refine Qd (fun _=>wpS_pure ⟨⟨_,rfl⟩,.inl ⟨_,rfl,hl4.done⟩⟩) fun e5=>?_
       rw[beq_iff_eq]at e5
       refine Qd (fun _=>wpS_pure ⟨⟨_,rfl⟩,.inr ⟨rfl,hl4,?_,?_,?_,?_,?_⟩⟩) fun _=>wpS_pure ⟨⟨_,rfl⟩,rfl,hl4,?_,?_,?_,?_,?_⟩<;>dsimp only<;>lia
     .skip
      refine wpS_bind (Qe Om ?_)
      have hl2:=hl.lessB Om (show nb-1<b.size by lia)
      refine Qd (fun _=>wpS_pure ⟨⟨_,rfl⟩,.inl ⟨_,rfl,hl2.first⟩⟩) fun e3=>?_
      rw[beq_iff_eq]at e3
      refine wpS_bind (Qe Om ?_)
      refine wpS_bind (Ym hO (by exact hk) (ha _ (zZ _)) hb Om Om fun k2 hk2=>?_)
      dsimp only
      refine Qd (fun k0'=>?_) (fun k0'=>?_)
      .have hl3:=hl2.cutB hk2
       refine Qd (fun _=>wpS_pure ⟨⟨_,rfl⟩,.inl ⟨_,rfl,hl3.first⟩⟩) fun e4=>?_
       refine Qd (fun _=>wpS_pure ⟨⟨_,rfl⟩,.inl ⟨_,rfl,hl3.done⟩⟩) fun e6=>?_
       rw[beq_iff_eq]at e4 e6
       refine wpS_bind (Qe Om ?_)
       have hl4:=hl3.lessA Om (show na-1<a.size by lia)
       refine Qd (fun _=>wpS_pure ⟨⟨_,rfl⟩,.inl ⟨_,rfl,hl4.done⟩⟩) fun e5=>?_
       rw[beq_iff_eq]at e5
       refine Qd (fun _=>wpS_pure ⟨⟨_,rfl⟩,.inr ⟨rfl,hl4,?_,?_,?_,?_,?_⟩⟩) fun _=>wpS_pure ⟨⟨_,rfl⟩,rfl,hl4,?_,?_,?_,?_,?_⟩<;>dsimp only<;>lia
      .refine wpS_bind (Qe Om ?_)
       have hl4:=hl2.lessA Om (show na-1<a.size by lia)
       refine Qd (fun _=>wpS_pure ⟨⟨_,rfl⟩,.inl ⟨_,rfl,hl4.done⟩⟩) fun e5=>?_
       rw[beq_iff_eq]at e5
       refine Qd (fun _=>wpS_pure ⟨⟨_,rfl⟩,.inr ⟨rfl,hl4,?_,?_,?_,?_,?_⟩⟩) fun _=>wpS_pure ⟨⟨_,rfl⟩,rfl,hl4,?_,?_,?_,?_,?_⟩<;>dsimp only<;>lia
 all_goals dsimp only<;>lia
end
theorem Qmn{α:Type}{base:Nat}:∀(l:List α) (k:Nat) (arr:Array α),base+k+l.length<=arr.size ->
  ((l.zipIdx k).foldl (fun a (pj:α×Nat)=>a.setIfInBounds (base+pj.2) pj.1) arr).toList=arr.toList.take (base+k)++(l++arr.toList.drop (base+k+l.length))
 |[],k,arr,_=>by simp
 |p::t,k,arr,h=>by
  rw[yW]at h
  rw[List.zipIdx_cons,kKa,Qmn t (k+1) _ (by rw[yQf];lia),kYa]
  have hlt:base+k<arr.toList.length:=by show _<arr.size;lia
  have hlen:(arr.toList.take (base+k)).length=base+k:=by rw[wZ];lia
  have e1:(arr.toList.set (base+k) p).take (base+(k+1))=arr.toList.take (base+k)++[p]:=by
   rw[List.set_eq_take_append_cons_drop,if_pos hlt]
   conv=>lhs;rw[show base+(k+1)=(arr.toList.take (base+k)).length+1 by lia,List.take_length_add_append]
   rfl
  have e2:(arr.toList.set (base+k) p).drop (base+(k+1)+t.length)=arr.toList.drop (base+k+(t.length+1)):=by
   rw[List.drop_set_of_lt Om,show base+(k+1)+t.length=base+k+(t.length+1)by lia]
  show(arr.toList.set (base+k) p).take (base+(k+1))++(t++(arr.toList.set (base+k) p).drop (base+(k+1)+t.length))=_
  rw[e1,e2,yW]
  simp
def Runs:Nat->List (Nat×Nat×Nat)->Nat->Prop
 |a,[],b=>a=b
 |a,r::t,b=>r.1=a/\1<=r.2.1/\Runs (a+r.2.1) t b
theorem Runs.le:∀{a b:Nat} {l:List (Nat×Nat×Nat)},Runs a l b->a<=b
 |a,b,[],h=>yXc h
 |a,b,r::t,h=>by have:=Runs.le h.2.2;lia
theorem Xr:∀{a b:Nat} (l l':List (Nat×Nat×Nat)),Runs a (l++l') b↔∃m,Runs a l m/\Runs m l' b
 |a,b,[],l'=>⟨fun h=>⟨a,rfl,h⟩,fun⟨m,h1,h2⟩=>by cases h1;exact h2⟩
 |a,b,r::t,l'=>by
  constructor
  .rintro⟨h1,h2,h3⟩
   obtain⟨m,h4,h5⟩:=(Xr t l').mp h3
   exact⟨m,⟨h1,h2,h4⟩,h5⟩
  .rintro⟨m,⟨h1,h2,h4⟩,h5⟩
   exact⟨h1,h2,(Xr t l').mpr ⟨m,h4,h5⟩⟩
structure SB(kd:SortKind)(a₀:Array Keyed)(st:SortSt):Prop where
 perm:(arrOf st).Perm a₀
 kind:kindOf st=kd
 failed:failedOf st=none
 pend:pendingOf st=#[]
theorem SB.size{kd:SortKind}{a₀:Array Keyed}{st:SortSt}(h:SB kd a₀ st):(arrOf st).size=a₀.size:=h.perm.size_eq
structure PB(kd:SortKind)(a₀:Array Keyed)(lo:Nat)(st:SortSt):Prop where
 perm:(arrOf st).Perm a₀
 kind:kindOf st=kd
 failed:failedOf st=none
 pend:Runs 0 (pendingOf st).toList lo
 room:lo<=a₀.size
theorem PB.size{kd:SortKind}{a₀:Array Keyed}{lo:Nat}{st:SortSt}(h:PB kd a₀ lo st):(arrOf st).size=a₀.size:=h.perm.size_eq
theorem PB.hasK{kd:SortKind}{κ:KeyKind}{a₀:Array Keyed}{lo:Nat}{st:SortSt}(h:PB kd a₀ lo st)(h0:KeysOf κ a₀):∀x∈arrOf st,HasK κ x:=fun x hx=>
 h0 x ((kYb.mp h.perm).mem_iff.mp (Array.mem_def.mp hx))
section
variable{prog:Program}{w:World}{A:Around}{E:Value->Shared->Prop}{s:Shared}{κ:KeyKind}{kd:SortKind}{a₀:Array Keyed}
theorem Jz(hO:LtS prog w A s κ kd)(h0:KeysOf κ a₀){st:SortSt}{lo i:Nat}{Q:Bool->SortSt->Prop}(hB:PB kd a₀ lo st)(hi:i+1<(pendingOf st).size)
  (h:∀st',PB kd a₀ lo st'->Q true st'):wpS (model prog w) A E s (mergeAt' i) Q st:=by
 have hK:=hB.hasK h0
 refine wpS_bind (wpS_get ?_)
 obtain⟨⟨sa,na,pw⟩,hx⟩:∃r,(pendingOf st)[i]?=some r:=⟨_,getElem?_pos _ i Om⟩
 obtain⟨⟨sb,nb,qw⟩,hy⟩:∃r,(pendingOf st)[i+1]?=some r:=⟨_,getElem?_pos _ (i+1) hi⟩
 obtain⟨l1,l2,hl,hl1⟩:∃l1 l2,(pendingOf st).toList=l1++(sa,na,pw)::(sb,nb,qw)::l2/\l1.length=i:=by
  refine⟨(pendingOf st).toList.take i,(pendingOf st).toList.drop (i+2),?_,by rw[wZ];show min i (pendingOf st).size=i;lia⟩
  rw[<-yX]at hx hy
  obtain⟨u,hu⟩:=jK.mp hx
  obtain⟨v,hv⟩:=jK.mp hy
  rw[<-hu,<-hv,<-kYe,<-kYe,jZb]
 have hr:=hB.pend
 rw[hl,Xr]at hr
 obtain⟨m,r1,e1,n1,e2,n2,r2⟩:=hr
 dsimp only at e1 n1 e2 n2 r2
 have hle:=r2.le
 have hrm:=hB.room
 have hsz:=hB.size
 have hnew:Runs 0 (((pendingOf st).setIfInBounds i (sa,na+nb,pw)).eraseIdxIfInBounds (i+1)).toList lo:=by
  have:(((pendingOf st).setIfInBounds i (sa,na+nb,pw)).eraseIdxIfInBounds (i+1)).toList=l1++(sa,na+nb,pw)::l2:=by
   rw[Array.eraseIdxIfInBounds_eq,dif_pos (by rw[yQf];exact hi),Array.toList_eraseIdx,kYa,hl]
   rw[<-hl1,List.set_append_right _ _ (jW _),kZc,List.set_cons_zero,List.eraseIdx_append_of_length_le (kQe _)]
   simp
  rw[this,Xr]
  exact⟨m,r1,e1,by show 1<=na+nb;lia,by show Runs (m+(na+nb)) l2 lo;rwa [<-kQc]⟩
 show wpS _ _ _ _ (match ((pendingOf st)[i]?,(pendingOf st)[i+1]?)with | (some (sa,na,power),some (sb,nb,_))=>_ | x=>_) _ _
 rw[hx,hy]
 dsimp only
 refine wpS_bind (wpS_modify ?_)
 refine wpS_bind (Qe (by show _<(arrOf st).size;lia) ?_)
 refine wpS_bind (Ym hO (by exact hB.kind) (hK _ (zZ _)) hK (by show _<=(arrOf st).size;lia) Om fun k hk1=>?_)
 dsimp only
 refine Qd (fun _=>wpS_pure (h _ ⟨hB.perm,hB.kind,hB.failed,hnew,hB.room⟩)) fun e3=>?_
 rw[beq_iff_eq]at e3
 refine wpS_bind (Qe (by show _<(arrOf st).size;lia) ?_)
 refine wpS_bind (Ym hO (by exact hB.kind) (hK _ (zZ _)) hK (by show _<=(arrOf st).size;lia) Om fun nb' hk2=>?_)
 dsimp only
 refine Qd (fun _=>wpS_pure (h _ ⟨hB.perm,hB.kind,hB.failed,hnew,hB.room⟩)) fun e4=>?_
 rw[beq_iff_eq]at e4
 have kx:∀p q,∀x∈(arrOf st).extract p q,HasK κ x:=fun p q x hx=>by
  refine hK x ?_
  obtain⟨i,hi,rfl⟩:=Array.mem_iff_getElem.mp hx
  rw[kQa]
  exact zZ _
 have sx:((arrOf st).extract (sa+k) sb).size=sb-(sa+k):=by rw[kJe];lia
 have sy:((arrOf st).extract sb (sb+nb')).size=nb':=by rw[kJe];lia
 have fin:∀(merged:Array Keyed),merged.toList.Perm (((arrOf st).extract (sa+k) sb).toList++((arrOf st).extract sb (sb+nb')).toList) ->
   (merged.toList.zipIdx.foldl (fun a (x:Keyed×Nat)=>a.setIfInBounds (sa+k+x.2) x.1) (arrOf st)).Perm a₀:=by
  intro merged hm
  have hlen:merged.toList.length=sb-(sa+k)+nb':=by
   have:=hm.length_eq
   rw[yV]at this
   rw[this]
   exact congr (congrArg _ sx) sy
  refine Array.Perm.trans ?_ hB.perm
  rw[kYb,Qmn merged.toList 0 (arrOf st) Om]
  refine(List.Perm.append_left _ (List.Perm.append_right _ hm)).trans ?_
  rw[hlen,Nat.add_zero,<-kZ,<-kZ,<-Jm (arrOf st) Om,<-Kr,show sa+k+(sb-(sa+k)+nb')=sb+nb' by lia,jZb]
 refine Qd (fun _=>?_) fun _=>?_
 .refine wpS_bind (Qfn hO (by exact hB.kind) (kx _ _) (kx _ _) (by show 1<=((arrOf st).extract (sa+k) sb).size;lia) (by show 1<=((arrOf st).extract sb (sb+nb')).size;lia) fun out g hp=>?_)
  refine wpS_bind (wpS_modify (wpS_bind (wpS_get (wpS_pure ?_))))
  have:(failedOf st).isNone=true:=by rw[hB.failed];rfl
  show Q (failedOf st).isNone _
  rw[this]
  exact h _ ⟨fin out hp,hB.kind,hB.failed,hnew,hB.room⟩
 .refine wpS_bind (Qfo hO (by exact hB.kind) (kx _ _) (kx _ _) (by show 1<=((arrOf st).extract (sa+k) sb).size;lia) (by show 1<=((arrOf st).extract sb (sb+nb')).size;lia) fun out g hp=>?_)
  refine wpS_bind (wpS_modify (wpS_bind (wpS_get (wpS_pure ?_))))
  have:(failedOf st).isNone=true:=by rw[hB.failed];rfl
  show Q (failedOf st).isNone _
  rw[this]
  exact h _ ⟨fin out hp,hB.kind,hB.failed,hnew,hB.room⟩
end
section
variable{prog:Program}{w:World}{A:Around}{E:Value->Shared->Prop}{s:Shared}{κ:KeyKind}{kd:SortKind}{a₀:Array Keyed}
theorem PB.setArr{kd:SortKind}{lo:Nat}{st:SortSt}(h:PB kd a₀ lo st){xs:Array Keyed}(hp:xs.Perm (arrOf st)):PB kd a₀ lo (PyProof.Rows.setArr st xs) :=
 ⟨hp.trans h.perm,h.kind,h.failed,h.pend,h.room⟩
theorem Zf(hO:LtS prog w A s κ kd)(h0:KeysOf κ a₀){st:SortSt}{lo i j:Nat}{Q:Option Bool->SortSt->Prop}(hB:PB kd a₀ lo st)(hi:i<a₀.size)(hj:j<a₀.size)
  (h:∀b,Q (some b) st):wpS (model prog w) A E s (ltAt' i j) Q st:=by
 have hsz:=hB.size
 rw[ltAt'_eq]
 refine wpS_bind (wpS_get ?_)
 refine wpS_bind (Qe (by show i<(arrOf st).size;lia) ?_)
 refine wpS_bind (Qe (by show j<(arrOf st).size;lia) ?_)
 exact Jc hO hB.kind (hB.hasK h0 _ (zZ _)) (hB.hasK h0 _ (zZ _)) h
theorem Wo{st:SortSt}{lo i j:Nat}{Q:Unit->SortSt->Prop}(hB:PB kd a₀ lo st)(h:∀st',PB kd a₀ lo st'->Q () st'):wpS (model prog w) A E s (reverseSlice' i j) Q st :=
 wpS_reverse (h _ (hB.setArr (mirror_perm _ _ _ _)))
theorem Qdo(hO:LtS prog w A s κ kd)(h0:KeysOf κ a₀){st:SortSt}{lo nrem:Nat}{Q:Option Nat->SortSt->Prop}(hB:PB kd a₀ lo st)(hn:lo+nrem<=a₀.size)(h1:1<=nrem)
  (h:∀n st',PB kd a₀ lo st'->1<=n->n<=nrem->Q (some n) st'):wpS (model prog w) A E s (countRun' lo nrem) Q st:=by
 have asc:∀{st:SortSt} (n₀:Nat),PB kd a₀ lo st->1<=n₀->n₀<=nrem->∀{Q':Option (Option Nat)×Nat->SortSt->Prop},(∀n,1<=n->n<=nrem->Q' (none,n) st) ->
   wpS (model prog w) A E s (forIn [n₀:nrem] ((none,n₀):Option (Option Nat)×Nat) fun _ c=>ltAt' (lo+c.2) (lo+c.2-1) >>= fun x=>match x with
    |some smaller=>if smaller=true then pure (ForInStep.done (none,c.2))else pure (ForInStep.yield (none,c.2+1))
    |_=>pure (ForInStep.done (some none,c.2))) Q' st:=by
  intro st n₀ hB hn1 hn2 Q' hq
  refine wpS_forRange (I:=fun x (c:Option (Option Nat)×Nat) st'=>st'=st/\c.1=none/\1<=c.2/\c.2<=x) ?_ ?_ ⟨rfl,rfl,hn1,jW _⟩
  .rintro x ⟨r,n⟩ st' _ _ ⟨rfl,hr,h3,h4⟩
   simp only at hr h3 h4⊢
   subst hr
   refine wpS_bind (Zf hO h0 hB Om Om fun b=>?_)
   cases b
   .exact wpS_pure ⟨rfl,rfl,by show 1<=n+1;lia,by show n+1<=x+1;lia⟩
   .exact wpS_pure (hq n h3 Om)
  .rintro⟨r,n⟩ st' ⟨rfl,hr,h3,h4⟩
   simp only at hr h3 h4⊢
   subst hr
   exact hq n h3 Om
 have tail:∀{st:SortSt} (n:Nat) (f:Option (Option Nat)×Nat->StateT SortSt Sem (Option Nat)),PB kd a₀ lo st->1<=n->n<=nrem->(∀n,f (none,n)=pure (some n)) ->
   wpS (model prog w) A E s (reverseSlice' lo (lo+n) >>= fun _=>(forIn [n:nrem] ((none,n):Option (Option Nat)×Nat) fun _ c=>ltAt' (lo+c.2) (lo+c.2-1) >>= fun x=>match x with
    |some smaller=>if smaller=true then pure (ForInStep.done (none,c.2))else pure (ForInStep.yield (none,c.2+1))
    |_=>pure (ForInStep.done (some none,c.2))) >>= f) Q st:=by
  intro st n f hB hn1 hn2 hf
  refine wpS_bind (Wo hB fun st' hB'=>?_)
  refine wpS_bind (asc n hB' hn1 hn2 fun m hm1 hm2=>?_)
  rw[hf]
  exact wpS_pure (h _ _ hB' hm1 hm2)
 refine wpS_bind (asc 1 hB (jW 1) h1 fun n hn1 hn2=>?_)
 dsimp only
 refine Qd (fun _=>wpS_pure (h _ _ hB hn1 hn2)) fun e1=>?_
 rw[beq_iff_eq]at e1
 have desc:∀{st:SortSt} {Q':Option (Option Nat)×Nat×Nat->SortSt->Prop},PB kd a₀ lo st->(∀m q st',PB kd a₀ lo st'->1<=m->m<=nrem->Q' (none,m,q) st') ->
   wpS (model prog w) A E s (forIn [n+1:nrem] ((none,n+1,0):Option (Option Nat)×Nat×Nat) fun _ c=>ltAt' (lo+c.2.1) (lo+c.2.1-1) >>= fun x=>match x with
    |some smaller=>if smaller=true then if c.2.2 > 0 then reverseSlice' (lo+c.2.1-(c.2.2+1)) (lo+c.2.1) >>= fun _=>pure (ForInStep.yield (none,c.2.1+1,0))else pure (ForInStep.yield (none,c.2.1+1,0))
     else ltAt' (lo+c.2.1-1) (lo+c.2.1) >>= fun x=>match x with
      |some larger=>if larger=true then pure (ForInStep.done (none,c.2.1,c.2.2))else pure (ForInStep.yield (none,c.2.1+1,c.2.2+1))
      |_=>pure (ForInStep.done (some none,c.2.1,c.2.2))
    |_=>pure (ForInStep.done (some none,c.2.1,c.2.2))) Q' st:=by
  intro st Q' hB hq
  refine wpS_forRange (I:=fun x (c:Option (Option Nat)×Nat×Nat) st'=>PB kd a₀ lo st'/\c.1=none/\1<=c.2.1/\c.2.1<=x) ?_ ?_ ⟨hB,rfl,by show 1<=n+1;lia,jW _⟩
  .rintro x ⟨r,m,q⟩ st' _ _ ⟨hB',hr,h3,h4⟩
   simp only at hr h3 h4⊢
   subst hr
   refine wpS_bind (Zf hO h0 hB' Om Om fun b=>?_)
   cases b
   .refine wpS_bind (Zf hO h0 hB' Om Om fun b=>?_)
    cases b
    .exact wpS_pure ⟨hB',rfl,by show 1<=m+1;lia,by show m+1<=x+1;lia⟩
    .exact wpS_pure (hq m q st' hB' h3 Om)
   .refine Qd (fun _=>?_) fun hh=>absurd rfl hh
    refine Qd (fun _=>wpS_bind (Wo hB' fun st2 hB2=>wpS_pure ⟨hB2,rfl,?_,?_⟩)) fun _=>wpS_pure ⟨hB',rfl,?_,?_⟩<;>dsimp only<;>lia
  .rintro⟨r,m,q⟩ st' ⟨hB',hr,h3,h4⟩
   simp only at hr h3 h4⊢
   subst hr
   exact hq m q st' hB' h3 Om
 refine Qd (fun _=>?_) fun _=>?_
 .refine wpS_bind (Zf hO h0 hB Om Om fun rose=>?_)
  refine Qd (fun _=>wpS_pure (h _ _ hB hn1 hn2)) fun _=>?_
  refine wpS_bind (Wo hB fun st' hB'=>?_)
  refine wpS_bind (wpS_lift (wpAny_rule ⟨rfl,?_⟩))
  refine wpS_bind (desc hB' fun m q st2 hB2 hm1 hm2=>?_)
  dsimp only
  refine Qd (fun _=>wpS_bind (Wo hB2 fun st3 hB3=>tail m _ hB3 hm1 hm2 fun _=>rfl)) fun _=>tail m _ hB2 hm1 hm2 fun _=>rfl
 .refine wpS_bind (wpS_lift (wpAny_rule ⟨rfl,?_⟩))
  refine wpS_bind (desc hB fun m q st2 hB2 hm1 hm2=>?_)
  dsimp only
  refine Qd (fun _=>wpS_bind (Wo hB2 fun st3 hB3=>tail m _ hB3 hm1 hm2 fun _=>rfl)) fun _=>tail m _ hB2 hm1 hm2 fun _=>rfl
theorem Qbr(hO:LtS prog w A s κ kd)(h0:KeysOf κ a₀){st:SortSt}{lo n ok:Nat}{Q:Bool->SortSt->Prop}(hB:PB kd a₀ lo st)(hn:lo+n<=a₀.size)
  (h:∀st',PB kd a₀ lo st'->Q true st'):wpS (model prog w) A E s (binarySort' lo n ok) Q st:=by
 rw[binarySort'_eq]
 refine wpS_bind (wpS_mono (wpS_forRange (I:=fun k c st'=>c=(none,())/\PB kd a₀ lo st') (Q:=fun c st'=>c=(none,())/\PB kd a₀ lo st') ?step (fun c st' hc=>hc) ⟨rfl,hB⟩) ?post)
 case post=>
  rintro c st' ⟨rfl,hB'⟩
  exact wpS_pure (h st' hB')
 case step=>
  rintro k c st' hak hkn ⟨rfl,hB'⟩
  refine wpS_bind (wpS_mono (wpS_forRange (I:=fun x c st''=>st''=st'/\∃l r,c=(none,l,r)/\r<=k) (Q:=fun c st''=>st''=st'/\∃l r,c=(none,l,r)) ?istep ?ifin ⟨rfl,0,k,rfl,jW _⟩) ?ipost)
  case ifin=>
   rintro c st'' ⟨rfl,l,r,rfl,hrk⟩
   exact⟨rfl,l,r,rfl⟩
  case istep=>
   rintro x c st'' _ hxk ⟨rfl,l,r,rfl,hrk⟩
   refine Qd (fun _=>wpS_pure ⟨rfl,l,r,rfl⟩) fun hge=>?_
   refine wpS_bind (Zf hO h0 hB' Om (by dsimp only at hge⊢;lia) fun b=>?_)
   cases b
   .exact wpS_pure ⟨rfl,(l+r) / 2+1,r,rfl,hrk⟩
   .exact wpS_pure ⟨rfl,l,(l+r) / 2,rfl,by dsimp only at hge;lia⟩
  case ipost=>
   rintro c st'' ⟨rfl,l,r,rfl⟩
   show wpS _ _ _ _ (do moveDown' (lo+k) (lo+l);pure (ForInStep.yield (none,()))) _ _
   rw[moveDown'_eq]
   exact wpS_bind (wpS_modify (wpS_pure ⟨rfl,hB'.setArr (bubble_perm _ _ _)⟩))
end
section
variable{prog:Program}{w:World}{A:Around}{E:Value->Shared->Prop}{s:Shared}{κ:KeyKind}{kd:SortKind}{a₀:Array Keyed}
theorem Runs.third:∀{a b:Nat} {l l':List (Nat×Nat×Nat)},l.map (fun r=>(r.1,r.2.1))=l'.map (fun r=>(r.1,r.2.1))->Runs a l b->Runs a l' b
 |a,b,[],[],_,h=>h
 |a,b,[],_::_,e,_=>by simp at e
 |a,b,_::_,[],e,_=>by simp at e
 |a,b,r::t,r'::t',e,h=>by
  simp only[zW,List.cons.injEq,Prod.mk.injEq]at e
  obtain⟨⟨e1,e2⟩,e3⟩:=e
  obtain⟨h1,h2,h3⟩:=h
  refine⟨e1▸h1,e2▸h2,?_⟩
  rw[<-e2]
  exact Runs.third e3 h3
theorem wpS_sortRunsAny(hO:LtS prog w A s κ kd)(h0:KeysOf κ a₀){st:SortSt}{Q:Unit->SortSt->Prop}(hB:SB kd a₀ st)
  (h:∀st',(arrOf st').Perm a₀->failedOf st'=none->Q () st'):wpS (model prog w) A E s sortRuns' Q st:=by
 rw[sortRuns'_eq]
 refine wpS_bind (wpS_get ?_)
 dsimp only
 simp only[hB.size]
 have hB0:PB kd a₀ 0 st:=⟨hB.perm,hB.kind,hB.failed,by rw[hB.pend];rfl,wY _⟩
 refine wpS_bind (wpS_mono (wpS_forRange (I:=fun x (c:Option Unit×Nat) st'=>c.1=none/\PB kd a₀ c.2 st') (Q:=fun(c:Option Unit×Nat) st'=>c.1=none/\PB kd a₀ c.2 st') ?step (fun c st' hc=>hc) ⟨rfl,hB0⟩) ?post)
 case step=>
  rintro x ⟨r,lo⟩ st' _ hx ⟨hr,hB'⟩
  simp only at hr hB'⊢
  subst hr
  have hrm:=hB'.room
  refine Qd (fun _=>wpS_pure ⟨rfl,hB'⟩) fun hlo=>?_
  refine wpS_bind (Qdo hO h0 hB' Om Om fun n st2 hB2 hn1 hn2=>?_)
  dsimp only
  have push:∀(n:Nat) (st3:SortSt),PB kd a₀ lo st3->1<=n->lo+n<=a₀.size->PB kd a₀ (lo+n) (setPending st3 ((pendingOf st3).push (lo,n,0))):=by
   intro n st3 hB3 h1 h2
   refine⟨hB3.perm,hB3.kind,hB3.failed,?_,h2⟩
   show Runs 0 ((pendingOf st3).push (lo,n,0)).toList (lo+n)
   rw[wV,Xr]
   exact⟨lo,hB3.pend,rfl,h1,rfl⟩
  have third:∀(st4:SortSt) (pw:Nat),PB kd a₀ lo st4->PB kd a₀ lo (setPending st4 ((pendingOf st4).modify ((pendingOf st4).size-1) fun x=>(x.1,x.2.1,pw))):=by
   intro st4 pw hB4
   refine⟨hB4.perm,hB4.kind,hB4.failed,Runs.third ?_ hB4.pend,hB4.room⟩
   show List.map _ (pendingOf st4).toList=List.map _ ((pendingOf st4).modify _ _).toList
   refine jKd fun i=>?_
   rw[jV,jV,yX,yX,Array.getElem?_modify]
   split
   .rw[Option.map_map];rfl
   .rfl
  refine Qd (fun hlt=>?_) fun _=>?_
  .refine wpS_bind (wpS_lift (wpAny_rule ⟨rfl,?_⟩))
   have hf1:1<=min (a₀.size-lo) (minRun' a₀.size a₀.size 0):=Om
   have hf2:lo+min (a₀.size-lo) (minRun' a₀.size a₀.size 0)<=a₀.size:=Om
   refine wpS_bind (Qbr hO h0 hB2 hf2 fun st3 hB3=>?_)
   refine Qd (fun e=>by simp at e) fun _=>?_
   refine wpS_bind (wpS_get ?_)
   rcases hb:(pendingOf st3).back? with _ | ⟨s1,n1,q⟩
   .exact wpS_bind (wpS_modify (wpS_pure ⟨rfl,push _ st3 hB3 hf1 hf2⟩))
   .dsimp only
    refine wpS_bind (wpS_mono (wpS_forRange (I:=fun _ (c:Option Unit×Unit) st''=>c.1=none/\PB kd a₀ lo st'') (Q:=fun(c:Option Unit×Unit) st''=>c.1=none/\PB kd a₀ lo st'') ?_ (fun _ _ hh=>hh) ⟨rfl,hB3⟩) ?_)
    .rintro x ⟨r,⟨⟩⟩ st'' _ _ ⟨hr,hB4⟩
     refine wpS_bind (wpS_get ?_)
     by_cases hp:(pendingOf st'').size > 1
     .rw[if_pos hp,getElem?_pos (pendingOf st'') _ Om]
      dsimp only
      refine Qd (fun _=>wpS_pure ⟨rfl,hB4⟩) fun _=>?_
      refine wpS_bind (Jz hO h0 hB4 Om fun st5 hB5=>?_)
      exact Qd (fun e=>by simp at e) fun _=>wpS_pure ⟨rfl,hB5⟩
     .rw[if_neg hp]
      exact wpS_pure ⟨rfl,hB4⟩
    .rintro⟨r,⟨⟩⟩ st4 ⟨hr,hB4⟩
     simp only at hr
     subst hr
     refine wpS_bind (wpS_modify (wpS_bind (wpS_modify (wpS_pure ⟨rfl,push _ _ ?_ hf1 hf2⟩))))
     exact third st4 _ hB4
  .have hf1:=hn1
   have hf2:lo+n<=a₀.size:=Om
   refine wpS_bind (wpS_get ?_)
   rcases hb:(pendingOf st2).back? with _ | ⟨s1,n1,q⟩
   .exact wpS_bind (wpS_modify (wpS_pure ⟨rfl,push _ st2 hB2 hf1 hf2⟩))
   .dsimp only
    refine wpS_bind (wpS_mono (wpS_forRange (I:=fun _ (c:Option Unit×Unit) st''=>c.1=none/\PB kd a₀ lo st'') (Q:=fun(c:Option Unit×Unit) st''=>c.1=none/\PB kd a₀ lo st'') ?_ (fun _ _ hh=>hh) ⟨rfl,hB2⟩) ?_)
    .rintro x ⟨r,⟨⟩⟩ st'' _ _ ⟨hr,hB4⟩
     refine wpS_bind (wpS_get ?_)
     by_cases hp:(pendingOf st'').size > 1
     .rw[if_pos hp,getElem?_pos (pendingOf st'') _ Om]
      dsimp only
      refine Qd (fun _=>wpS_pure ⟨rfl,hB4⟩) fun _=>?_
      refine wpS_bind (Jz hO h0 hB4 Om fun st5 hB5=>?_)
      exact Qd (fun e=>by simp at e) fun _=>wpS_pure ⟨rfl,hB5⟩
     .rw[if_neg hp]
      exact wpS_pure ⟨rfl,hB4⟩
    .rintro⟨r,⟨⟩⟩ st4 ⟨hr,hB4⟩
     simp only at hr
     subst hr
     refine wpS_bind (wpS_modify (wpS_bind (wpS_modify (wpS_pure ⟨rfl,push _ _ ?_ hf1 hf2⟩))))
     exact third st4 _ hB4
 case post=>
  rintro⟨r,lo⟩ st' ⟨hr,hB'⟩
  simp only at hr hB'⊢
  subst hr
  refine wpS_bind (wpS_mono (wpS_forRange (I:=fun _ (c:Option Unit×Unit) st''=>c.1=none/\PB kd a₀ lo st'') (Q:=fun(c:Option Unit×Unit) st''=>c.1=none/\PB kd a₀ lo st'') ?_ (fun _ _ hh=>hh) ⟨rfl,hB'⟩) ?_)
  .rintro x ⟨r,⟨⟩⟩ st'' _ _ ⟨hr,hB2⟩
   simp only at hr⊢
   subst hr
   refine wpS_bind (wpS_get ?_)
   refine Qd (fun _=>wpS_pure ⟨rfl,hB2⟩) fun hp=>?_
   refine wpS_bind (Jz hO h0 hB2 ?_ fun st3 hB3=>?_)
   .have hle:∀(c:Prop) [Decidable c] (n:Nat),(if c then n-1 else n)<=n:=fun c _ n=>by split<;>lia
    exact xX (Nat.add_le_add_right (hle _ _) 1) Om
   .exact Qd (fun e=>by simp at e) fun _=>wpS_pure ⟨rfl,hB3⟩
  .rintro⟨r,⟨⟩⟩ st'' ⟨hr,hB2⟩
   simp only at hr⊢
   subst hr
   exact wpS_pure (h _ hB2.perm hB2.failed)
end
end L2.U
namespace L2.U
open PySem PyProof.Rows L2
section
variable{prog:Program}{w:World}{A:Around}{E:Value->Shared->Prop}{s:Shared}{κ:KeyKind}{kd:SortKind}
def kyOf(κ:KeyKind)(x:Keyed):κ.α:=(κ.keyOf x.1).getD κ.dflt
def Wp(κ:KeyKind)(x y:Keyed):Bool:=κ.blt (kyOf κ x) (kyOf κ y)
theorem Wq(hO:LtS prog w A s κ kd){st:SortSt}{x y:Keyed}{Q:Option Bool->SortSt->Prop}(hk:kindOf st=kd)(hx:HasK κ x)(hy:HasK κ y)
  (h:Q (some (Wp κ x y)) st):wpS (model prog w) A E s (lt' x y) Q st:=by
 obtain⟨a,ha⟩:=hx
 obtain⟨b,hb⟩:=hy
 have e:Wp κ x y=κ.blt a b:=by unfold Wp kyOf;rw[ha,hb];rfl
 rw[e]at h
 rw[lt'_eq]
 refine wpS_bind (wpS_get ?_)
 rw[hk]
 refine wpS_bind (wpS_lift (wpAny_attempt (hO x.1 y.1 a b ha hb ⟨rfl,?_⟩)))
 exact wpS_pure h
def beyO(κ:KeyKind)(left:Bool)(key x:Keyed):Bool:=if left=true then Wp κ x key else(Wp κ key x).not
theorem Vp(hO:LtS prog w A s κ kd){st:SortSt}{left:Bool}{key:Keyed}{arr:Array Keyed}{i:Nat}{Q:Option Bool->SortSt->Prop}(hk:kindOf st=kd)
  (hkey:HasK κ key) (harr:∀x∈arr,HasK κ x) (hi:i<arr.size) (h:Q (some (beyO κ left key arr[i])) st) :
  wpS (model prog w) A E s (elem' arr i >>= fun x=>if left=true then lt' x key else lt' key x >>= fun r=>pure (r.map fun x=>!x)) Q st:=by
 refine wpS_bind (Qe hi ?_)
 have hx:=harr _ (zZ hi)
 unfold beyO at h
 refine Qd (fun e=>?_) fun e=>?_
 .rw[if_pos e]at h
  exact Wq hO hk hx hkey h
 .rw[if_neg e]at h
  exact wpS_bind (Wq hO hk hkey hx (wpS_pure h))
theorem Qfp(hO:LtS prog w A s κ kd){st:SortSt}{left:Bool}{key:Keyed}{arr:Array Keyed}{base n hint:Nat}{Q:Option Nat->SortSt->Prop}(hk:kindOf st=kd)
  (hkey:HasK κ key) (harr:∀x∈arr,HasK κ x) (hb:base+n<=arr.size) (hh:hint<n) (p:Nat->Bool) (hp:∀i (hi:base+i<arr.size),beyO κ left key arr[base+i]=p i)
  (anti:∀i j,i<=j->j<n->p j=true->p i=true)
  (h:∀k,k<=n->(∀i,i<k->p i=true)->(∀i,k<=i->i<n->p i=false)->Q (some k) st) :
  wpS (model prog w) A E s (Vb left key arr base n hint) Q st:=by
 have anti':∀i j,i<=j->j<n->p i=false->p j=false:=fun i j h1 h2 h3=>by
  cases e:p j
  .rfl
  .rw[anti i j h1 h2 e]at h3;cases h3
 refine wpS_bind (Vp hO hk hkey harr Om ?_)
 dsimp only
 have fin2:∀(f:Option (Option Nat)×Nat×Nat->StateT SortSt Sem (Option Nat)) (lo hi:Nat),lo<=hi->hi<=n->(∀i,i<lo->p i=true)->(∀i,hi<=i->i<n->p i=false)->(∀t,t.1=none->f t=pure (some t.2.2)) ->
  wpS (model prog w) A E s (forIn [:n] ((none,lo,hi):Option (Option Nat)×Nat×Nat) (fun x t=>
   if t.2.1≥t.2.2 then pure (ForInStep.done (none,t.2.1,t.2.2))else
    (elem' arr (base+(t.2.1+(t.2.2-t.2.1) / 2)) >>= fun x=>if left=true then lt' x key else lt' key x >>= fun r=>pure (r.map fun x=>!x)) >>= fun m=>match m with
     |some more=>if more=true then pure (ForInStep.yield (none,t.2.1+(t.2.2-t.2.1) / 2+1,t.2.2))else pure (ForInStep.yield (none,t.2.1,t.2.1+(t.2.2-t.2.1) / 2))
     |x=>pure (ForInStep.done (some none,t.2.1,t.2.2))) >>= f) Q st:=by
  intro f lo hi hlh hn hlo hhi hf
  refine wpS_bind (wpS_mono (wpS_forRange (I:=fun x (c:Option (Option Nat)×Nat×Nat) st'=>st'=st/\c.1=none/\c.2.1<=c.2.2/\c.2.2<=n/\c.2.2-c.2.1<=n-x/\(∀i,i<c.2.1->p i=true)/\(∀i,c.2.2<=i->i<n->p i=false))
   (Q:=fun c st'=>st'=st/\c.1=none/\c.2.2<=n/\(∀i,i<c.2.2->p i=true)/\(∀i,c.2.2<=i->i<n->p i=false)) ?st ?fi ⟨rfl,rfl,hlh,hn,by show hi-lo<=n-0;lia,hlo,hhi⟩) ?po)
  case po=>
   rintro⟨r,l,k⟩ st' ⟨rfl,hr,hk',h1,h2⟩
   rw[hf _ hr]
   exact wpS_pure (h _ hk' h1 h2)
  case fi=>
   rintro⟨r,l,k⟩ st' ⟨rfl,hr,h1,h2,h3,h4,h5⟩
   simp only at h1 h2 h3 h4 h5
   have:l=k:=Om
   subst this
   exact⟨rfl,hr,h2,h4,h5⟩
  case st=>
   rintro x ⟨r,l,k⟩ st' _ _ ⟨rfl,hr,h1,h2,h3,h4,h5⟩
   simp only at hr h1 h2 h3 h4 h5⊢
   subst hr
   refine Qd (fun hge=>?_) fun hge=>?_
   .have:l=k:=Om
    subst this
    exact wpS_pure ⟨rfl,rfl,h2,h4,h5⟩
   .refine wpS_bind (Vp hO hk hkey harr Om ?_)
    rw[hp _ Om]
    dsimp only
    refine Qd (fun em=>wpS_pure ⟨rfl,rfl,?_,h2,?_,fun i hi=>?_,h5⟩) fun em=>wpS_pure ⟨rfl,rfl,?_,?_,?_,h4,fun i hi hn'=>?_⟩
    .show l+(k-l) / 2+1<=k;lia
    .show k-(l+(k-l) / 2+1)<=n-(x+1);lia
    .exact anti i (l+(k-l) / 2) (kKb hi) Om em
    .show l<=l+(k-l) / 2;lia
    .show l+(k-l) / 2<=n;lia
    .show l+(k-l) / 2-l<=n-(x+1);lia
    .exact anti' (l+(k-l) / 2) i hi hn' (by simpa using em)
 rw[hp _ Om]
 cases e0:p hint
 .refine wpS_bind (wpS_mono (wpS_forRange (I:=fun x (c:Option (Option Nat)×Nat×Nat) st'=>st'=st/\c.1=none/\x+1<=c.2.2/\c.2.1<c.2.2/\c.2.1<=hint/\p (hint-c.2.1)=false)
   (Q:=fun(c:Option (Option Nat)×Nat×Nat) st'=>st'=st/\c.1=none/\c.2.1<c.2.2/\c.2.1<=hint/\p (hint-c.2.1)=false/\(hint+1<=c.2.2\/c.2.2<=hint/\p (hint-c.2.2)=true)) ?_ ?_ ⟨rfl,rfl,jW 1,Nat.zero_lt_one,wY _,e0⟩) ?_)
  .rintro x ⟨r,l,k⟩ st' _ _ ⟨rfl,hr,h1,h2,h3,h4⟩
   simp only at hr h1 h2 h3 h4⊢
   subst hr
   refine Qd (fun hge=>wpS_pure ⟨rfl,rfl,h2,h3,h4,.inl hge⟩) fun hge=>?_
   refine wpS_bind (Vp hO hk hkey harr Om ?_)
   rw[hp _ Om]
   cases e1:p (hint-k)
   .exact wpS_pure ⟨rfl,rfl,by show x+1+1<=2*k+1;lia,by show k<2*k+1;lia,by show k<=hint;lia,e1⟩
   .exact wpS_pure ⟨rfl,rfl,h2,h3,h4,.inr ⟨by show k<=hint;lia,e1⟩⟩
  .rintro⟨r,l,k⟩ st' ⟨rfl,hr,h1,h2,h3,h4⟩
   simp only at h1 h2 h3
   exact⟨rfl,hr,h2,h3,h4,.inl (by show hint+1<=k;lia)⟩
  .rintro⟨r,l,k⟩ st' ⟨rfl,hr,h2,h3,h4,h5⟩
   simp only at hr h2 h3 h4 h5
   subst hr
   refine fin2 _ _ _ ?_ ?_ (fun i hi=>?_) (fun i hi hn'=>anti' _ _ hi hn' h4) fun t ht=>by obtain⟨a,b,c⟩:=t;simp only at ht;subst ht;rfl
   .show hint+1-min k (hint+1)<=hint-l;lia
   .show hint-l<=n;lia
   .have hi':i<hint+1-min k (hint+1):=hi
    rcases h5 with h5 | ⟨h5,h6⟩
    .omega
    .exact anti i (hint-k) Om Om h6
 .refine wpS_bind (wpS_mono (wpS_forRange (I:=fun x (c:Option (Option Nat)×Nat×Nat) st'=>st'=st/\c.1=none/\x+1<=c.2.2/\c.2.1<c.2.2/\hint+c.2.1<n/\p (hint+c.2.1)=true)
   (Q:=fun(c:Option (Option Nat)×Nat×Nat) st'=>st'=st/\c.1=none/\c.2.1<c.2.2/\hint+c.2.1<n/\p (hint+c.2.1)=true/\(n-hint<=c.2.2\/hint+c.2.2<n/\p (hint+c.2.2)=false)) ?_ ?_ ⟨rfl,rfl,jW 1,Nat.zero_lt_one,hh,e0⟩) ?_)
  .rintro x ⟨r,l,k⟩ st' _ _ ⟨rfl,hr,h1,h2,h3,h4⟩
   simp only at hr h1 h2 h3 h4⊢
   subst hr
   refine Qd (fun hge=>wpS_pure ⟨rfl,rfl,h2,h3,h4,.inl hge⟩) fun hge=>?_
   refine wpS_bind (Vp hO hk hkey harr Om ?_)
   rw[hp _ Om]
   cases e1:p (hint+k)
   .exact wpS_pure ⟨rfl,rfl,h2,h3,h4,.inr ⟨by show hint+k<n;lia,e1⟩⟩
   .exact wpS_pure ⟨rfl,rfl,by show x+1+1<=2*k+1;lia,by show k<2*k+1;lia,by show hint+k<n;lia,e1⟩
  .rintro⟨r,l,k⟩ st' ⟨rfl,hr,h1,h2,h3,h4⟩
   simp only at h1 h2 h3
   exact⟨rfl,hr,h2,h3,h4,.inl (by show n-hint<=k;lia)⟩
  .rintro⟨r,l,k⟩ st' ⟨rfl,hr,h2,h3,h4,h5⟩
   simp only at hr h2 h3 h4 h5
   subst hr
   refine fin2 _ _ _ ?_ ?_ (fun i hi=>anti i (hint+l) (kKb hi) h3 h4) (fun i hi hn'=>?_) fun t ht=>by obtain⟨a,b,c⟩:=t;simp only at ht;subst ht;rfl
   .show hint+l+1<=hint+min k (n-hint);lia
   .show hint+min k (n-hint)<=n;lia
   .have hi':hint+min k (n-hint)<=i:=hi
    rcases h5 with h5 | ⟨h5,h6⟩
    .omega
    .exact anti' (hint+k) i Om hn' h6
end
section
variable{prog:Program}{w:World}{A:Around}{E:Value->Shared->Prop}{s:Shared}{κ:KeyKind}{kd:SortKind}
def leK(κ:KeyKind)(x y:Keyed):Prop:=κ.kle (kyOf κ x) (kyOf κ y)
theorem leK.trans{x y z:Keyed}(h:leK κ x y)(h':leK κ y z):leK κ x z:=KeyOrd.kle_trans h h'
theorem Zs{x y:Keyed}(h:Wp κ x y=true):leK κ x y:=KeyOrd.kle_of_klt h
theorem Zo{x y:Keyed}(h:Wp κ x y=false):leK κ y x:=h
theorem Jd(hO:LtS prog w A s κ kd){st:SortSt}{left:Bool}{key:Keyed}{arr:Array Keyed}{base n hint:Nat}{Q:Option Nat->SortSt->Prop}(hk:kindOf st=kd)
  (hkey:HasK κ key) (harr:∀x∈arr,HasK κ x) (hb:base+n<=arr.size) (hh:hint<n)
  (hs:∀i j x y,i<=j->j<n->arr[base+i]?=some x->arr[base+j]?=some y->leK κ x y)
  (h:∀k,k<=n->(∀i x,arr[base+i]?=some x->i<k->leK κ x key)->(∀i x,arr[base+i]?=some x->k<=i->i<n->leK κ key x)->Q (some k) st) :
  wpS (model prog w) A E s (Vb left key arr base n hint) Q st:=by
 refine Qfp hO hk hkey harr hb hh (fun i=>if hi:base+i<arr.size then beyO κ left key arr[base+i]else false) (fun i hi=>by rw[dif_pos hi]) ?_ ?_
 .intro i j hij hj hp
  rw[dif_pos Om]at hp⊢
  have hle:=hs i j _ _ hij hj (getElem?_pos arr _ Om) (getElem?_pos arr _ Om)
  unfold beyO at *
  cases left
  .simp only[yJ,if_false,Bool.not_eq_true']at hp⊢
   exact hle.trans (Zo hp)
  .simp only[if_true]at hp⊢
   exact KeyOrd.klt_of_kle_of_klt hle hp
 .intro k hk1 h1 h2
  refine h k hk1 (fun i x hx hi=>?_) fun i x hx hi hn=>?_
  .have e:=h1 i hi
   rw[dif_pos Om]at e
   have ex:arr[base+i]'Om=x:=by rw[getElem?_pos arr _ Om]at hx;exact Option.some.inj hx
   rw[ex]at e
   unfold beyO at e
   cases left
   .simp only[yJ,if_false,Bool.not_eq_true']at e
    exact Zo e
   .simp only[if_true]at e
    exact Zs e
  .have e:=h2 i hi hn
   rw[dif_pos Om]at e
   have ex:arr[base+i]'Om=x:=by rw[getElem?_pos arr _ Om]at hx;exact Option.some.inj hx
   rw[ex]at e
   unfold beyO at e
   cases left
   .simp only[yJ,if_false,Bool.not_eq_false']at e
    exact Zs e
   .simp only[if_true]at e
    exact Zo e
theorem Qdp{α:Type}{R:α->α->Prop}{out m rest other:List α}(h1:(out++(m++rest)).Pairwise R)(h2:(out++other).Pairwise R)(h3:∀x∈m,∀y∈other,R x y):((out++m)++other).Pairwise R:=by
 rw[kZ,jQc]
 rw[jQc]at h1 h2
 refine⟨h1.1,jQc.mpr ⟨(jQc.mp h1.2.1).1,h2.2.1,h3⟩,fun x hx y hy=>?_⟩
 rcases wX.mp hy with hy | hy
 .exact h1.2.2 x hx y (jYc _ hy)
 .exact h2.2.2 x hx y hy
structure LoS(κ:KeyKind)(a b out:Array Keyed)(ia ib:Nat):Prop where
 p:LoP a b out ia ib
 A:(out.toList++a.toList.drop ia).Pairwise (leK κ)
 B:(out.toList++b.toList.drop ib).Pairwise (leK κ)
theorem Qhq{α:Type}(xs:Array α)(i k:Nat):xs.toList.drop i=(xs.extract i (i+k)).toList++xs.toList.drop (i+k):=by
 rw[kKc,kYd,show i+k-i=k by lia,<-List.drop_drop,jZb]
theorem drop_one{α:Type}(xs:Array α){i:Nat}(hi:i<xs.size):xs.toList.drop i=[xs[i]]++xs.toList.drop (i+1):=by
 rw[kYe (show i<xs.toList.length from hi)];rfl
section
variable{a b out:Array Keyed}{ia ib k:Nat}
theorem LoS.pushB(h:LoS κ a b out ia ib)(hi:ib<b.size)(hx:∀x∈a.toList.drop ia,leK κ b[ib] x):LoS κ a b (out.push b[ib]) ia (ib+1):=by
 have hB:=h.B
 rw[drop_one b hi]at hB
 refine⟨h.p.pushB hi,?_,?_⟩
 .rw[wV]
  exact Qdp hB h.A fun x hx' y hy=>by cases kW.mp hx';exact hx y hy
 .rw[wV,kZ];exact hB
theorem LoS.pushA(h:LoS κ a b out ia ib)(hi:ia<a.size)(hx:∀x∈b.toList.drop ib,leK κ a[ia] x):LoS κ a b (out.push a[ia]) (ia+1) ib:=by
 have hA:=h.A
 rw[drop_one a hi]at hA
 refine⟨h.p.pushA hi,?_,?_⟩
 .rw[wV,kZ];exact hA
 .rw[wV]
  exact Qdp hA h.B fun x hx' y hy=>by cases kW.mp hx';exact hx y hy
theorem LoS.addA(h:LoS κ a b out ia ib)(k:Nat)(hx:∀x∈(a.extract ia (ia+k)).toList,∀y∈b.toList.drop ib,leK κ x y):LoS κ a b (out++a.extract ia (ia+k)) (ia+k) ib:=by
 have hA:=h.A
 rw[Qhq a ia k]at hA
 refine⟨h.p.addA k,?_,?_⟩
 .rw[yK,kZ];exact hA
 .rw[yK];exact Qdp hA h.B hx
theorem LoS.addB(h:LoS κ a b out ia ib)(k:Nat)(hx:∀x∈(b.extract ib (ib+k)).toList,∀y∈a.toList.drop ia,leK κ x y):LoS κ a b (out++b.extract ib (ib+k)) ia (ib+k):=by
 have hB:=h.B
 rw[Qhq b ib k]at hB
 refine⟨h.p.addB k,?_,?_⟩
 .rw[yK];exact Qdp hB h.A hx
 .rw[yK,kZ];exact hB
theorem Yv{α:Type}(xs:Array α)(i:Nat):(xs.extract i).toList=xs.toList.drop i:=by
 rw[kKc,kYd,show xs.size-i=(xs.toList.drop i).length by rw[kZe];rfl,wW]
theorem LoS.doneB(h:LoS κ a b out ia ib)(hi:b.size<=ib):(out++a.extract ia++b.extract ib).toList.Pairwise (leK κ):=by
 rw[yK,yK,Yv,Yv,zQa (show b.toList.length<=ib from hi),jZa]
 exact h.A
theorem LoS.doneA(h:LoS κ a b out ia ib)(hi:a.size<=ia):(out++a.extract ia++b.extract ib).toList.Pairwise (leK κ):=by
 rw[yK,yK,Yv,Yv,zQa (show a.toList.length<=ia from hi),jZa]
 exact h.B
theorem LoS.last(h:LoS κ a b out ia ib)(hi:∀x∈b.toList,∀y∈a.toList.drop ia,leK κ x y):(out++b.extract ib++a.extract ia).toList.Pairwise (leK κ):=by
 rw[yK,yK,Yv,Yv]
 exact Qdp (rest:=[]) (by rw[jZa];exact h.B) h.A fun x hx=>hi x (List.mem_of_mem_drop hx)
theorem LoS.headA(h:LoS κ a b out ia ib)(hi:ia<a.size):∀x∈a.toList.drop ia,leK κ a[ia] x:=by
 have:=(jQc.mp h.A).2.1
 rw[drop_one a hi]at this⊢
 intro x hx
 rcases wX.mp hx with hx | hx
 .cases kW.mp hx;exact KeyOrd.kle_refl _
 .exact List.rel_of_pairwise_cons this hx
theorem LoS.headB(h:LoS κ a b out ia ib)(hi:ib<b.size):∀x∈b.toList.drop ib,leK κ b[ib] x:=by
 have:=(jQc.mp h.B).2.1
 rw[drop_one b hi]at this⊢
 intro x hx
 rcases wX.mp hx with hx | hx
 .cases kW.mp hx;exact KeyOrd.kle_refl _
 .exact List.rel_of_pairwise_cons this hx
end
end
section
variable{prog:Program}{w:World}{A:Around}{E:Value->Shared->Prop}{s:Shared}{κ:KeyKind}{kd:SortKind}
theorem Vc{α:Type}{xs:Array α}{i j:Nat}{x:α}(h:x∈(xs.extract i j).toList):∃k,i+k<j/\xs[i+k]?=some x:=by
 obtain⟨k,hk,e⟩:=yZa.mp h
 have hk':k<(xs.extract i j).size:=hk
 rw[kKd,kQa]at e
 rw[kJe]at hk'
 exact⟨k,Om,by rw[getElem?_pos xs _ Om,e]⟩
theorem seg_of{xs:Array Keyed}(h:xs.toList.Pairwise (leK κ))(base n:Nat):∀i j x y,i<=j->j<n->xs[base+i]?=some x->xs[base+j]?=some y->leK κ x y:=by
 intro i j x y hij _ hx hy
 rw[<-yX]at hx hy
 obtain⟨u,rfl⟩:=jK.mp hx
 obtain⟨v,rfl⟩:=jK.mp hy
 rcases zQb i j with hlt | hge
 .exact jZf.mp h _ _ u v Om
 .have:i=j:=Om
  subst this
  exact KeyOrd.kle_refl _
theorem Xs(hO:LtS prog w A s κ kd){st:SortSt}{left:Bool}{key:Keyed}{arr:Array Keyed}{base n hint:Nat}{Q:Option Nat->SortSt->Prop}(hk:kindOf st=kd)
  (hkey:HasK κ key) (harr:∀x∈arr,HasK κ x) (hb:base+n<=arr.size) (hh:hint<n) (hs:arr.toList.Pairwise (leK κ))
  (h:∀k,k<=n->(∀x∈(arr.extract base (base+k)).toList,leK κ x key)->(∀x∈(arr.extract (base+k) (base+n)).toList,leK κ key x)->Q (some k) st) :
  wpS (model prog w) A E s (Vb left key arr base n hint) Q st:=by
 refine Jd hO hk hkey harr hb hh (seg_of hs base n) fun k hk1 h1 h2=>h k hk1 (fun x hx=>?_) fun x hx=>?_
 .obtain⟨i,hi,e⟩:=Vc hx
  exact h1 i x e Om
 .obtain⟨i,hi,e⟩:=Vc hx
  rw[kQc]at e hi
  exact h2 (k+i) x e Om Om
theorem Qdq(hO:LtS prog w A s κ kd){st:SortSt}{a b:Array Keyed}{Q:Array Keyed->SortSt->Prop}(hk:kindOf st=kd)
  (ha:∀x∈a,HasK κ x) (hb:∀x∈b,HasK κ x) (Sa:a.toList.Pairwise (leK κ)) (Sb:b.toList.Pairwise (leK κ)) (na:1<=a.size) (nb:1<=b.size) (hfirst:∀x∈a.toList,leK κ b[0] x) (hlast:∀x∈b.toList,∀y∈a.toList.drop (a.size-1),leK κ x y)
  (h:∀out g,out.toList.Perm (a.toList++b.toList)->out.toList.Pairwise (leK κ)->Q out (setG st g)) :
  wpS (model prog w) A E s (Qhf a b) Q st:=by
 refine wpS_bind (wpS_lift (wpAny_rule ⟨rfl,?_⟩))
 refine wpS_bind (Qe Om ?_)
 have l00:LoS κ a b #[] 0 0:=⟨List.Perm.refl _,Sa,Sb⟩
 have l0:LoS κ a b #[b[0]] 0 1:=l00.pushB Om hfirst
 have hl1:∀i,i+1=a.size->∀x∈b.toList,∀y∈a.toList.drop i,leK κ x y:=fun i e=>by
  rw[show i=a.size-1 by lia];exact hlast
 dsimp only
 refine Qd (fun e=>wpS_pure (h _ (gallopOf st) l0.p.done (l0.doneB (by rw[beq_iff_eq]at e;lia)))) fun e1=>?_
 refine Qd (fun e=>wpS_pure (h _ (gallopOf st) l0.p.last (l0.last (hl1 _ (by rw[beq_iff_eq]at e;lia))))) fun e2=>?_
 rw[beq_iff_eq]at e1 e2
 refine wpS_bind (wpS_get ?_)
 refine wpS_bind (wpS_mono (wpS_forRange (I:=fun x (c:Option (Array Keyed)×Array Keyed×Nat×Nat×Nat) st'=>(∃g,st'=setG st g)/\c.1=none/\LoS κ a b c.2.1 c.2.2.1 c.2.2.2.1/\c.2.2.1+1<a.size/\c.2.2.2.1<b.size/\x<=c.2.2.1+c.2.2.2.1)
  (Q:=fun c st'=>(∃g,st'=setG st g)/\∃r,c.1=some r/\(r.toList.Perm (a.toList++b.toList)/\r.toList.Pairwise (leK κ))) ?step ?fin ⟨⟨gallopOf st,rfl⟩,rfl,l0,by show 0+1<_;lia,by show 1<_;lia,wY _⟩) ?post)
 case post=>
  rintro⟨r,c⟩ st' ⟨⟨g,rfl⟩,r',hr,hp⟩
  simp only at hr
  subst hr
  exact wpS_pure (h _ _ hp.1 hp.2)
 case fin=>
  rintro⟨r,out,ia,ib,mg⟩ st' ⟨_,_,_,h1,h2,h3⟩
  simp only at h1 h2 h3
  lia
 case step=>
  rintro x ⟨r,out,ia,ib,mg⟩ st' _ _ ⟨⟨g,rfl⟩,hr,hl,h1,h2,h3⟩
  simp only at hr hl h1 h2 h3⊢
  subst hr
  refine wpS_bind (wpS_mono (wpS_forRange (I:=fun y (c:Option (Array Keyed)×Array Keyed×Nat×Nat×Nat×Nat) st'=>st'=setG st g/\c.1=none/\LoS κ a b c.2.1 c.2.2.1 c.2.2.2.1/\c.2.2.1+1<a.size/\c.2.2.2.1<b.size/\x+y<=c.2.2.1+c.2.2.2.1)
   (Q:=fun c st'=>st'=setG st g/\((∃r,c.1=some r/\(r.toList.Perm (a.toList++b.toList)/\r.toList.Pairwise (leK κ)))\/c.1=none/\LoS κ a b c.2.1 c.2.2.1 c.2.2.2.1/\c.2.2.1+1<a.size/\c.2.2.2.1<b.size/\x+1<=c.2.2.1+c.2.2.2.1)) ?s1 ?f1 ⟨rfl,rfl,hl,h1,h2,h3⟩) ?p1)
  case f1=>
   rintro⟨r,out,ia,ib,ac,bc⟩ st' ⟨rfl,hr,hl,h1,h2,h3⟩
   simp only at h1 h2 h3
   exact⟨rfl,.inr ⟨hr,hl,h1,h2,by show x+1<=ia+ib;lia⟩⟩
  case s1=>
   rintro y ⟨r,out,ia,ib,ac,bc⟩ st' _ _ ⟨rfl,hr,hl,h1,h2,h3⟩
   simp only at hr hl h1 h2 h3⊢
   subst hr
   refine wpS_bind (Qe h2 ?_)
   refine wpS_bind (Qe Om ?_)
   refine wpS_bind (Wq hO hk (hb _ (zZ _)) (ha _ (zZ _)) ?_)
   cases wins:Wp κ b[ib] a[ia]
   .refine wpS_bind (Qe (i:=ia) Om ?_)
    have hl':=hl.pushA (show ia<a.size by lia) fun x hx=>(Zo wins).trans (hl.headB h2 x hx)
    refine Qd (fun e=>wpS_pure ⟨rfl,.inl ⟨_,rfl,hl'.p.last,hl'.last (hl1 _ (by rw[beq_iff_eq]at e;lia))⟩⟩) fun e=>?_
    .rw[beq_iff_eq]at e
     refine Qd (fun _=>?_) fun _=>?_
     .exact wpS_pure ⟨rfl,.inr ⟨rfl,hl',by show ia+1+1<_;lia,h2,by show x+1<=ia+1+ib;lia⟩⟩
     .exact wpS_pure ⟨rfl,rfl,hl',by show ia+1+1<_;lia,h2,by show x+(y+1)<=ia+1+ib;lia⟩
   .refine wpS_bind (Qe h2 ?_)
    have hl':=hl.pushB h2 fun x hx=>(Zs wins).trans (hl.headA Om x hx)
    refine Qd (fun e=>wpS_pure ⟨rfl,.inl ⟨_,rfl,hl'.p.done,hl'.doneB (by rw[beq_iff_eq]at e;lia)⟩⟩) fun e=>?_
    .rw[beq_iff_eq]at e
     refine Qd (fun _=>?_) fun _=>?_
     .exact wpS_pure ⟨rfl,.inr ⟨rfl,hl',h1,by show ib+1<_;lia,by show x+1<=ia+(ib+1);lia⟩⟩
     .exact wpS_pure ⟨rfl,rfl,hl',h1,by show ib+1<_;lia,by show x+(y+1)<=ia+(ib+1);lia⟩
  case p1=>
   rintro⟨r,out,ia,ib,ac,bc⟩ st' ⟨rfl,hr | ⟨hr,hl,h1,h2,h3⟩⟩
   .obtain⟨r',hr,hp⟩:=hr
    simp only at hr
    subst hr
    exact wpS_pure ⟨⟨_,rfl⟩,_,rfl,hp⟩
   simp only at hr hl h1 h2 h3⊢
   subst hr
   refine wpS_bind (wpS_lift (wpAny_rule ⟨rfl,?_⟩))
   refine wpS_bind (wpS_mono (wpS_forRange (I:=fun y (c:Option (Array Keyed)×Array Keyed×Nat×Nat×Nat×Nat×Nat) st'=>(∃g,st'=setG st g)/\c.1=none/\LoS κ a b c.2.1 c.2.2.1 c.2.2.2.1/\c.2.2.1+1<a.size/\c.2.2.2.1<b.size/\x+1<=c.2.2.1+c.2.2.2.1)
    (Q:=fun c st'=>(∃g,st'=setG st g)/\((∃r,c.1=some r/\(r.toList.Perm (a.toList++b.toList)/\r.toList.Pairwise (leK κ)))\/c.1=none/\LoS κ a b c.2.1 c.2.2.1 c.2.2.2.1/\c.2.2.1+1<a.size/\c.2.2.2.1<b.size/\x+1<=c.2.2.1+c.2.2.2.1)) ?s2 ?f2 ⟨⟨_,rfl⟩,rfl,hl,h1,h2,h3⟩) ?p2)
   case f2=>
    rintro⟨r,out,ia,ib,mg,ac,bc⟩ st' ⟨hg,hr,hl,h1,h2,h3⟩
    exact⟨hg,.inr ⟨hr,hl,h1,h2,h3⟩⟩
   case p2=>
    rintro⟨r,out,ia,ib,mg,ac,bc⟩ st' ⟨⟨g,rfl⟩,hr | ⟨hr,hl,h1,h2,h3⟩⟩
    .obtain⟨r',hr,hp⟩:=hr
     simp only at hr
     subst hr
     exact wpS_pure ⟨⟨_,rfl⟩,_,rfl,hp⟩
    .simp only at hr hl h1 h2 h3⊢
     subst hr
     exact wpS_bind (wpS_modify (wpS_pure ⟨⟨_,rfl⟩,rfl,hl,h1,h2,h3⟩))
   case s2=>
    rintro y ⟨r,out,ia,ib,mg,ac,bc⟩ st' _ _ ⟨⟨g,rfl⟩,hr,hl,h1,h2,h3⟩
    simp only at hr hl h1 h2 h3⊢
    subst hr
    refine Qd (fun _=>?_) (fun _=>?_)
    all_goals
     refine wpS_bind (wpS_modify ?_)
     refine wpS_bind (Qe h2 ?_)
     refine wpS_bind (Xs hO (by exact hk) (hb _ (zZ _)) ha Om Om Sa fun k hk1 g1 g2=>?_)
     rw[show ia+(a.size-ia)=a.size by lia,Yv]at g2
     dsimp only
     refine Qd (fun k0=>?_) (fun k0=>?_)
     .have hlA:=hl.addA k fun x hx y hy=>(g1 x hx).trans (hl.headB h2 y hy)
      refine Qd (fun e=>wpS_pure ⟨⟨_,rfl⟩,.inl ⟨_,rfl,hlA.p.last,hlA.last (hl1 _ (by rw[beq_iff_eq]at e;lia))⟩⟩) fun e1=>?_
      refine Qd (fun e=>wpS_pure ⟨⟨_,rfl⟩,.inl ⟨_,rfl,hlA.p.done,hlA.doneA (by rw[beq_iff_eq]at e;lia)⟩⟩) fun e2=>?_
      rw[beq_iff_eq]at e1 e2
      refine wpS_bind (Qe h2 ?_)
      have hl2:=hlA.pushB h2 g2
      have hj:ia+k+1<a.size:=Om
      refine Qd (fun e=>wpS_pure ⟨⟨_,rfl⟩,.inl ⟨_,rfl,hl2.p.done,hl2.doneB (by rw[beq_iff_eq]at e;lia)⟩⟩) fun e3=>?_
      rw[beq_iff_eq]at e3
      refine wpS_bind (Qe (xV hj) ?_)
      refine wpS_bind (Xs hO (by exact hk) (ha _ (zZ _)) hb Om Om Sb fun k2 hk2 g3 g4=>?_)
      rw[show ib+1+(b.size-(ib+1))=b.size by lia,Yv]at g4
      dsimp only
      refine Qd (fun k0'=>?_) (fun k0'=>?_)
      .have hl3:=hl2.addB k2 fun x hx y hy=>(g3 x hx).trans (hl2.headA (xV hj) y hy)
       refine Qd (fun e=>wpS_pure ⟨⟨_,rfl⟩,.inl ⟨_,rfl,hl3.p.done,hl3.doneB (by rw[beq_iff_eq]at e;lia)⟩⟩) fun e4=>?_
       rw[beq_iff_eq]at e4
       refine wpS_bind (Qe (xV hj) ?_)
       have hl4:=hl3.pushA (xV hj) g4
       refine Qd (fun e=>wpS_pure ⟨⟨_,rfl⟩,.inl ⟨_,rfl,hl4.p.last,hl4.last (hl1 _ (by rw[beq_iff_eq]at e;lia))⟩⟩) fun e5=>?_
       rw[beq_iff_eq]at e5
       refine Qd (fun _=>wpS_pure ⟨⟨_,rfl⟩,.inr ⟨rfl,hl4,?_,?_,?_⟩⟩) fun _=>wpS_pure ⟨⟨_,rfl⟩,rfl,hl4,?_,?_,?_⟩<;>dsimp only<;>lia
      .refine wpS_bind (Qe (xV hj) ?_)
       have k00':k2=0:=Om
       subst k00'
       have hl4:=hl2.pushA (xV hj) g4
       refine Qd (fun e=>wpS_pure ⟨⟨_,rfl⟩,.inl ⟨_,rfl,hl4.p.last,hl4.last (hl1 _ (by rw[beq_iff_eq]at e;lia))⟩⟩) fun e5=>?_
       rw[beq_iff_eq]at e5
       refine Qd (fun _=>wpS_pure ⟨⟨_,rfl⟩,.inr ⟨rfl,hl4,?_,?_,?_⟩⟩) fun _=>wpS_pure ⟨⟨_,rfl⟩,rfl,hl4,?_,?_,?_⟩<;>dsimp only<;>lia
     .have k00:k=0:=Om
      subst k00
      have hl2:=hl.pushB h2 g2
      have hj:ia+1<a.size:=h1
      refine wpS_bind (Qe h2 ?_)
      refine Qd (fun e=>wpS_pure ⟨⟨_,rfl⟩,.inl ⟨_,rfl,hl2.p.done,hl2.doneB (by rw[beq_iff_eq]at e;lia)⟩⟩) fun e3=>?_
      rw[beq_iff_eq]at e3
      refine wpS_bind (Qe (xV hj) ?_)
      refine wpS_bind (Xs hO (by exact hk) (ha _ (zZ _)) hb Om Om Sb fun k2 hk2 g3 g4=>?_)
      rw[show ib+1+(b.size-(ib+1))=b.size by lia,Yv]at g4
      dsimp only
      refine Qd (fun k0'=>?_) (fun k0'=>?_)
      .have hl3:=hl2.addB k2 fun x hx y hy=>(g3 x hx).trans (hl2.headA (xV hj) y hy)
       refine Qd (fun e=>wpS_pure ⟨⟨_,rfl⟩,.inl ⟨_,rfl,hl3.p.done,hl3.doneB (by rw[beq_iff_eq]at e;lia)⟩⟩) fun e4=>?_
       rw[beq_iff_eq]at e4
       refine wpS_bind (Qe (xV hj) ?_)
       have hl4:=hl3.pushA (xV hj) g4
       refine Qd (fun e=>wpS_pure ⟨⟨_,rfl⟩,.inl ⟨_,rfl,hl4.p.last,hl4.last (hl1 _ (by rw[beq_iff_eq]at e;lia))⟩⟩) fun e5=>?_
       rw[beq_iff_eq]at e5
       refine Qd (fun _=>wpS_pure ⟨⟨_,rfl⟩,.inr ⟨rfl,hl4,?_,?_,?_⟩⟩) fun _=>wpS_pure ⟨⟨_,rfl⟩,rfl,hl4,?_,?_,?_⟩<;>dsimp only<;>lia
      .refine wpS_bind (Qe (xV hj) ?_)
       have k00':k2=0:=Om
       subst k00'
       have hl4:=hl2.pushA (xV hj) g4
       refine Qd (fun e=>wpS_pure ⟨⟨_,rfl⟩,.inl ⟨_,rfl,hl4.p.last,hl4.last (hl1 _ (by rw[beq_iff_eq]at e;lia))⟩⟩) fun e5=>?_
       rw[beq_iff_eq]at e5
       refine Qd (fun _=>wpS_pure ⟨⟨_,rfl⟩,.inr ⟨rfl,hl4,?_,?_,?_⟩⟩) fun _=>wpS_pure ⟨⟨_,rfl⟩,rfl,hl4,?_,?_,?_⟩<;>dsimp only<;>lia
end
section
variable{prog:Program}{w:World}{A:Around}{E:Value->Shared->Prop}{s:Shared}{κ:KeyKind}{kd:SortKind}
theorem Wr{α:Type}{R:α->α->Prop}{out m rest other:List α}(h1:((rest++m)++out).Pairwise R)(h2:(other++out).Pairwise R)(h3:∀y∈other,∀x∈m,R y x):(other++(m++out)).Pairwise R:=by
 rw[kZ,jQc]at h1
 rw[jQc]at h2⊢
 refine⟨h2.1,h1.2.1,fun y hy x hx=>?_⟩
 rcases wX.mp hx with hx | hx
 .exact h3 y hy x hx
 .exact h2.2.2 y hy x hx
structure HiS(κ:KeyKind)(a b out:Array Keyed)(na nb:Nat):Prop where
 p:HiP a b out na nb
 A:(a.toList.take na++out.toList.reverse).Pairwise (leK κ)
 B:(b.toList.take nb++out.toList.reverse).Pairwise (leK κ)
section
variable{a b out:Array Keyed}{na nb k:Nat}
theorem Ks{α:Type}(xs:Array α){n:Nat}(h1:1<=n)(hi:n-1<xs.size):xs.toList.take n=xs.toList.take (n-1)++[xs[n-1]]:=by
 have:=take_snoc xs hi
 rwa [Nat.sub_add_cancel h1]at this
theorem HiS.lessA(h:HiS κ a b out na nb)(h1:1<=na)(hi:na-1<a.size)(hx:∀y∈b.toList.take nb,leK κ y a[na-1]):HiS κ a b (out.push a[na-1]) (na-1) nb:=by
 have hA:=h.A
 rw[Ks a h1 hi]at hA
 refine⟨h.p.lessA h1 hi,?_,?_⟩
 .rw[wV,jKe,<-kZ];exact hA
 .rw[wV,jKe]
  exact Wr hA h.B fun y hy x hx'=>by cases kW.mp (List.mem_reverse.mp hx');exact hx y hy
theorem HiS.lessB(h:HiS κ a b out na nb)(h1:1<=nb)(hi:nb-1<b.size)(hx:∀y∈a.toList.take na,leK κ y b[nb-1]):HiS κ a b (out.push b[nb-1]) na (nb-1):=by
 have hB:=h.B
 rw[Ks b h1 hi]at hB
 refine⟨h.p.lessB h1 hi,?_,?_⟩
 .rw[wV,jKe]
  exact Wr hB h.A fun y hy x hx'=>by cases kW.mp (List.mem_reverse.mp hx');exact hx y hy
 .rw[wV,jKe,<-kZ];exact hB
theorem HiS.cutA(h:HiS κ a b out na nb)(hk:k<=na)(hx:∀y∈b.toList.take nb,∀x∈(a.extract k na).toList,leK κ y x):HiS κ a b (out++(a.extract k na).reverse) k nb:=by
 have hA:=h.A
 rw[Jm a hk]at hA
 refine⟨h.p.cutA hk,?_,?_⟩
 .rw[yK,jYd,jKe,yZb,<-kZ];exact hA
 .rw[yK,jYd,jKe,yZb];exact Wr hA h.B hx
theorem HiS.cutB(h:HiS κ a b out na nb)(hk:k<=nb)(hx:∀y∈a.toList.take na,∀x∈(b.extract k nb).toList,leK κ y x):HiS κ a b (out++(b.extract k nb).reverse) na k:=by
 have hB:=h.B
 rw[Jm b hk]at hB
 refine⟨h.p.cutB hk,?_,?_⟩
 .rw[yK,jYd,jKe,yZb];exact Wr hB h.A hx
 .rw[yK,jYd,jKe,yZb,<-kZ];exact hB
theorem HiS.doneA(h:HiS κ a b out na nb)(hi:na=0):(a.extract 0 na++b.extract 0 nb++out.reverse).toList.Pairwise (leK κ):=by
 subst hi
 rw[yK,yK,ext0,ext0,jYd,yJf,List.nil_append]
 exact h.B
theorem HiS.doneB(h:HiS κ a b out na nb)(hi:nb=0):(a.extract 0 na++b.extract 0 nb++out.reverse).toList.Pairwise (leK κ):=by
 subst hi
 rw[yK,yK,ext0,ext0,jYd,yJf,jZa]
 exact h.A
theorem HiS.first(h:HiS κ a b out na nb)(hi:∀y∈b.toList.take nb,∀x∈a.toList,leK κ y x):(b.extract 0 nb++a.extract 0 na++out.reverse).toList.Pairwise (leK κ):=by
 rw[yK,yK,ext0,ext0,jYd,kZ]
 exact Wr (rest:=[]) (by rw[List.nil_append];exact h.A) h.B fun y hy x hx=>hi y hy x (List.mem_of_mem_take hx)
theorem HiS.tailA(h:HiS κ a b out na nb)(h1:1<=na)(hi:na-1<a.size):∀x∈a.toList.take na,leK κ x a[na-1]:=by
 have:=(jQc.mp h.A).1
 rw[Ks a h1 hi]at this⊢
 intro x hx
 rcases wX.mp hx with hx | hx
 .exact(jQc.mp this).2.2 x hx _ zJ
 .cases kW.mp hx;exact KeyOrd.kle_refl _
theorem HiS.tailB(h:HiS κ a b out na nb)(h1:1<=nb)(hi:nb-1<b.size):∀x∈b.toList.take nb,leK κ x b[nb-1]:=by
 have:=(jQc.mp h.B).1
 rw[Ks b h1 hi]at this⊢
 intro x hx
 rcases wX.mp hx with hx | hx
 .exact(jQc.mp this).2.2 x hx _ zJ
 .cases kW.mp hx;exact KeyOrd.kle_refl _
end
theorem Qdr(hO:LtS prog w A s κ kd){st:SortSt}{a b:Array Keyed}{Q:Array Keyed->SortSt->Prop}(hk:kindOf st=kd)
  (ha:∀x∈a,HasK κ x) (hb:∀x∈b,HasK κ x) (Sa:a.toList.Pairwise (leK κ)) (Sb:b.toList.Pairwise (leK κ)) (na:1<=a.size) (nb:1<=b.size) (hfirst:∀y∈b.toList.take 1,∀x∈a.toList,leK κ y x) (hlast:∀y∈b.toList,leK κ y a[a.size-1])
  (h:∀out g,out.toList.Perm (a.toList++b.toList)->out.toList.Pairwise (leK κ)->Q out (setG st g)) :
  wpS (model prog w) A E s (Qhg a b) Q st:=by
 refine wpS_bind (wpS_lift (wpAny_rule ⟨rfl,?_⟩))
 refine wpS_bind (Qe Om ?_)
 have l00:HiS κ a b #[] a.size b.size:=by
  refine⟨?_,?_,?_⟩
  .unfold HiP
   rw[show a.size=a.toList.length from rfl,show b.size=b.toList.length from rfl,wW,wW]
   simp
  .rw[show a.size=a.toList.length from rfl,wW];simpa using Sa
  .rw[show b.size=b.toList.length from rfl,wW];simpa using Sb
 have l0:HiS κ a b #[a[a.size-1]] (a.size-1) b.size:=l00.lessA na Om fun y hy=>hlast y (List.mem_of_mem_take hy)
 have hf1:∀n,n=1->∀y∈b.toList.take n,∀x∈a.toList,leK κ y x:=fun n e=>by rw[e];exact hfirst
 dsimp only
 refine Qd (fun e=>wpS_pure (h _ (gallopOf st) l0.p.done (l0.doneA (by rw[beq_iff_eq]at e;lia)))) fun e1=>?_
 refine Qd (fun e=>wpS_pure (h _ (gallopOf st) l0.p.first (l0.first (hf1 _ (by rw[beq_iff_eq]at e;lia))))) fun e2=>?_
 rw[beq_iff_eq]at e1 e2
 refine wpS_bind (wpS_get ?_)
 refine wpS_bind (wpS_mono (wpS_forRange (I:=fun x (c:Option (Array Keyed)×Nat×Nat×Array Keyed×Nat) st'=>(∃g,st'=setG st g)/\c.1=none/\HiS κ a b c.2.2.2.1 c.2.1 c.2.2.1/\1<=c.2.1/\c.2.1<=a.size/\2<=c.2.2.1/\c.2.2.1<=b.size/\x+c.2.1+c.2.2.1<=a.size+b.size)
  (Q:=fun c st'=>(∃g,st'=setG st g)/\∃r,c.1=some r/\(r.toList.Perm (a.toList++b.toList)/\r.toList.Pairwise (leK κ))) ?step ?fin ⟨⟨gallopOf st,rfl⟩,rfl,l0,?_,?_,?_,?_,?_⟩) ?post)
 case post=>
  rintro⟨r,c⟩ st' ⟨⟨g,rfl⟩,r',hr,hp⟩
  simp only at hr
  subst hr
  exact wpS_pure (h _ _ hp.1 hp.2)
 case fin=>
  rintro⟨r,na,nb,out,mg⟩ st' ⟨_,_,_,h1,h2,h3,h4,h5⟩
  simp only at h1 h2 h3 h5
  lia
 case step=>
  rintro x ⟨r,na,nb,out,mg⟩ st' _ _ ⟨⟨g,rfl⟩,hr,hl,h1,h2,h3,h4,h5⟩
  simp only at hr hl h1 h2 h3 h4 h5⊢
  subst hr
  refine wpS_bind (wpS_mono (wpS_forRange (I:=fun y (c:Option (Array Keyed)×Nat×Nat×Array Keyed×Nat×Nat) st'=>st'=setG st g/\c.1=none/\HiS κ a b c.2.2.2.1 c.2.1 c.2.2.1/\1<=c.2.1/\c.2.1<=a.size/\2<=c.2.2.1/\c.2.2.1<=b.size/\x+y+c.2.1+c.2.2.1<=a.size+b.size)
   (Q:=fun c st'=>st'=setG st g/\((∃r,c.1=some r/\(r.toList.Perm (a.toList++b.toList)/\r.toList.Pairwise (leK κ)))\/c.1=none/\HiS κ a b c.2.2.2.1 c.2.1 c.2.2.1/\1<=c.2.1/\c.2.1<=a.size/\2<=c.2.2.1/\c.2.2.1<=b.size/\x+1+c.2.1+c.2.2.1<=a.size+b.size)) ?s1 ?f1 ⟨rfl,rfl,hl,h1,h2,h3,h4,h5⟩) ?p1)
  case f1=>
   rintro⟨r,na,nb,out,ac,bc⟩ st' ⟨rfl,hr,hl,h1,h2,h3,h4,h5⟩
   simp only at h1 h2 h3 h4 h5
   exact⟨rfl,.inr ⟨hr,hl,h1,h2,h3,h4,by show x+1+na+nb<=_;lia⟩⟩
  case s1=>
   rintro y ⟨r,na,nb,out,ac,bc⟩ st' _ _ ⟨rfl,hr,hl,h1,h2,h3,h4,h5⟩
   simp only at hr hl h1 h2 h3 h4 h5⊢
   subst hr
   refine wpS_bind (Qe Om ?_)
   refine wpS_bind (Qe Om ?_)
   refine wpS_bind (Wq hO hk (hb _ (zZ _)) (ha _ (zZ _)) ?_)
   cases wins:Wp κ b[nb-1] a[na-1]
   .refine wpS_bind (Qe (i:=nb-1) Om ?_)
    have hl':=hl.lessB Om (show nb-1<b.size by lia) fun y hy=>(hl.tailA h1 Om y hy).trans (Zo wins)
    refine Qd (fun e=>wpS_pure ⟨rfl,.inl ⟨_,rfl,hl'.p.first,hl'.first (hf1 _ (by rw[beq_iff_eq]at e;lia))⟩⟩) fun e=>?_
    rw[beq_iff_eq]at e
    refine Qd (fun _=>wpS_pure ⟨rfl,.inr ⟨rfl,hl',?_,?_,?_,?_,?_⟩⟩) fun _=>wpS_pure ⟨rfl,rfl,hl',?_,?_,?_,?_,?_⟩<;>dsimp only<;>lia
   .refine wpS_bind (Qe (i:=na-1) Om ?_)
    have hl':=hl.lessA Om (show na-1<a.size by lia) fun y hy=>(hl.tailB Om Om y hy).trans (Zs wins)
    refine Qd (fun e=>wpS_pure ⟨rfl,.inl ⟨_,rfl,hl'.p.done,hl'.doneA (by rw[beq_iff_eq]at e;lia)⟩⟩) fun e=>?_
    rw[beq_iff_eq]at e
    refine Qd (fun _=>wpS_pure ⟨rfl,.inr ⟨rfl,hl',?_,?_,?_,?_,?_⟩⟩) fun _=>wpS_pure ⟨rfl,rfl,hl',?_,?_,?_,?_,?_⟩<;>dsimp only<;>lia
  case p1=>
   rintro⟨r,na,nb,out,ac,bc⟩ st' ⟨rfl,hr | ⟨hr,hl,h1,h2,h3,h4,h5⟩⟩
   .obtain⟨r',hr,hp⟩:=hr
    simp only at hr
    subst hr
    exact wpS_pure ⟨⟨_,rfl⟩,_,rfl,hp⟩
   simp only at hr hl h1 h2 h3 h4 h5⊢
   subst hr
   refine wpS_bind (wpS_lift (wpAny_rule ⟨rfl,?_⟩))
   refine wpS_bind (wpS_mono (wpS_forRange (I:=fun y (c:Option (Array Keyed)×Nat×Nat×Array Keyed×Nat×Nat×Nat) st'=>(∃g,st'=setG st g)/\c.1=none/\HiS κ a b c.2.2.2.1 c.2.1 c.2.2.1/\1<=c.2.1/\c.2.1<=a.size/\2<=c.2.2.1/\c.2.2.1<=b.size/\x+1+c.2.1+c.2.2.1<=a.size+b.size)
    (Q:=fun c st'=>(∃g,st'=setG st g)/\((∃r,c.1=some r/\(r.toList.Perm (a.toList++b.toList)/\r.toList.Pairwise (leK κ)))\/c.1=none/\HiS κ a b c.2.2.2.1 c.2.1 c.2.2.1/\1<=c.2.1/\c.2.1<=a.size/\2<=c.2.2.1/\c.2.2.1<=b.size/\x+1+c.2.1+c.2.2.1<=a.size+b.size)) ?s2 ?f2 ⟨⟨_,rfl⟩,rfl,hl,h1,h2,h3,h4,h5⟩) ?p2)
   case f2=>
    rintro⟨r,na,nb,out,mg,ac,bc⟩ st' ⟨hg,hr,hl,hh⟩
    exact⟨hg,.inr ⟨hr,hl,hh⟩⟩
   case p2=>
    rintro⟨r,na,nb,out,mg,ac,bc⟩ st' ⟨⟨g,rfl⟩,hr | ⟨hr,hl,hh⟩⟩
    .obtain⟨r',hr,hp⟩:=hr
     simp only at hr
     subst hr
     exact wpS_pure ⟨⟨_,rfl⟩,_,rfl,hp⟩
    .simp only at hr hl hh⊢
     subst hr
     exact wpS_bind (wpS_modify (wpS_pure ⟨⟨_,rfl⟩,rfl,hl,hh⟩))
   case s2=>
    rintro y ⟨r,na,nb,out,mg,ac,bc⟩ st' _ _ ⟨⟨g,rfl⟩,hr,hl,h1,h2,h3,h4,h5⟩
    simp only at hr hl h1 h2 h3 h4 h5⊢
    subst hr
    refine Qd (fun _=>?_) (fun _=>?_)
    all_goals
     refine wpS_bind (wpS_modify ?_)
     refine wpS_bind (Qe Om ?_)
     refine wpS_bind (Xs hO (by exact hk) (hb _ (zZ _)) ha Om Om Sa fun k hk1 g1 g2=>?_)
     rw[kKf]at g1 g2
     rw[ext0]at g1
     rw[kKf]at g2
     dsimp only
     refine Qd (fun k0=>?_) (fun k0=>?_)
     .have hl1:=hl.cutA hk1 fun y hy x hx=>(hl.tailB Om Om y hy).trans (g2 x hx)
      refine Qd (fun e=>wpS_pure ⟨⟨_,rfl⟩,.inl ⟨_,rfl,hl1.p.done,hl1.doneA (by rw[beq_iff_eq]at e;lia)⟩⟩) fun e1=>?_
      rw[beq_iff_eq]at e1
      refine wpS_bind (Qe Om ?_)
      have hl2:=hl1.lessB Om (show nb-1<b.size by lia) g1
      refine Qd (fun e=>wpS_pure ⟨⟨_,rfl⟩,.inl ⟨_,rfl,hl2.p.first,hl2.first (hf1 _ (by rw[beq_iff_eq]at e;lia))⟩⟩) fun e3=>?_
      rw[beq_iff_eq]at e3
      refine wpS_bind (Qe Om ?_)
      refine wpS_bind (Xs hO (by exact hk) (ha _ (zZ _)) hb Om Om Sb fun k2 hk2 g3 g4=>?_)
      rw[kKf]at g3 g4
      rw[ext0]at g3
      rw[kKf]at g4
      dsimp only
      refine Qd (fun k0'=>?_) (fun k0'=>?_)
      .have hl3:=hl2.cutB hk2 fun y hy x hx=>(hl2.tailA Om Om y hy).trans (g4 x hx)
       refine Qd (fun e=>wpS_pure ⟨⟨_,rfl⟩,.inl ⟨_,rfl,hl3.p.first,hl3.first (hf1 _ (by rw[beq_iff_eq]at e;lia))⟩⟩) fun e4=>?_
       refine Qd (fun e=>wpS_pure ⟨⟨_,rfl⟩,.inl ⟨_,rfl,hl3.p.done,hl3.doneB (by rw[beq_iff_eq]at e;lia)⟩⟩) fun e6=>?_
       rw[beq_iff_eq]at e4 e6
       refine wpS_bind (Qe Om ?_)
       have hl4:=hl3.lessA Om (show k-1<a.size by lia) g3
       refine Qd (fun e=>wpS_pure ⟨⟨_,rfl⟩,.inl ⟨_,rfl,hl4.p.done,hl4.doneA (by rw[beq_iff_eq]at e;lia)⟩⟩) fun e5=>?_
       rw[beq_iff_eq]at e5
       refine Qd (fun _=>wpS_pure ⟨⟨_,rfl⟩,.inr ⟨rfl,hl4,?_,?_,?_,?_,?_⟩⟩) fun _=>wpS_pure ⟨⟨_,rfl⟩,rfl,hl4,?_,?_,?_,?_,?_⟩<;>dsimp only<;>lia
      .refine wpS_bind (Qe Om ?_)
       have hl4:=hl2.lessA Om (show k-1<a.size by lia) (by rw[show nb-1=k2 by lia];exact g3)
       refine Qd (fun e=>wpS_pure ⟨⟨_,rfl⟩,.inl ⟨_,rfl,hl4.p.done,hl4.doneA (by rw[beq_iff_eq]at e;lia)⟩⟩) fun e5=>?_
       rw[beq_iff_eq]at e5
       refine Qd (fun _=>wpS_pure ⟨⟨_,rfl⟩,.inr ⟨rfl,hl4,?_,?_,?_,?_,?_⟩⟩) fun _=>wpS_pure ⟨⟨_,rfl⟩,rfl,hl4,?_,?_,?_,?_,?_⟩<;>dsimp only<;>lia
     .skip
      refine wpS_bind (Qe Om ?_)
      have hl2:=hl.lessB Om (show nb-1<b.size by lia) (by rw[show na=k by lia];exact g1)
      refine Qd (fun e=>wpS_pure ⟨⟨_,rfl⟩,.inl ⟨_,rfl,hl2.p.first,hl2.first (hf1 _ (by rw[beq_iff_eq]at e;lia))⟩⟩) fun e3=>?_
      rw[beq_iff_eq]at e3
      refine wpS_bind (Qe Om ?_)
      refine wpS_bind (Xs hO (by exact hk) (ha _ (zZ _)) hb Om Om Sb fun k2 hk2 g3 g4=>?_)
      rw[kKf]at g3 g4
      rw[ext0]at g3
      rw[kKf]at g4
      dsimp only
      refine Qd (fun k0'=>?_) (fun k0'=>?_)
      .have hl3:=hl2.cutB hk2 fun y hy x hx=>(hl2.tailA Om Om y hy).trans (g4 x hx)
       refine Qd (fun e=>wpS_pure ⟨⟨_,rfl⟩,.inl ⟨_,rfl,hl3.p.first,hl3.first (hf1 _ (by rw[beq_iff_eq]at e;lia))⟩⟩) fun e4=>?_
       refine Qd (fun e=>wpS_pure ⟨⟨_,rfl⟩,.inl ⟨_,rfl,hl3.p.done,hl3.doneB (by rw[beq_iff_eq]at e;lia)⟩⟩) fun e6=>?_
       rw[beq_iff_eq]at e4 e6
       refine wpS_bind (Qe Om ?_)
       have hl4:=hl3.lessA Om (show na-1<a.size by lia) g3
       refine Qd (fun e=>wpS_pure ⟨⟨_,rfl⟩,.inl ⟨_,rfl,hl4.p.done,hl4.doneA (by rw[beq_iff_eq]at e;lia)⟩⟩) fun e5=>?_
       rw[beq_iff_eq]at e5
       refine Qd (fun _=>wpS_pure ⟨⟨_,rfl⟩,.inr ⟨rfl,hl4,?_,?_,?_,?_,?_⟩⟩) fun _=>wpS_pure ⟨⟨_,rfl⟩,rfl,hl4,?_,?_,?_,?_,?_⟩<;>dsimp only<;>lia
      .refine wpS_bind (Qe Om ?_)
       have hl4:=hl2.lessA Om (show na-1<a.size by lia) (by rw[show nb-1=k2 by lia];exact g3)
       refine Qd (fun e=>wpS_pure ⟨⟨_,rfl⟩,.inl ⟨_,rfl,hl4.p.done,hl4.doneA (by rw[beq_iff_eq]at e;lia)⟩⟩) fun e5=>?_
       rw[beq_iff_eq]at e5
       refine Qd (fun _=>wpS_pure ⟨⟨_,rfl⟩,.inr ⟨rfl,hl4,?_,?_,?_,?_,?_⟩⟩) fun _=>wpS_pure ⟨⟨_,rfl⟩,rfl,hl4,?_,?_,?_,?_,?_⟩<;>dsimp only<;>lia
 all_goals dsimp only<;>lia
end
def SegI(κ:KeyKind)(arr:Array Keyed)(i j:Nat):Prop:=∀p q x y,i<=p->p<=q->q<j->arr[p]?=some x->arr[q]?=some y->leK κ x y
theorem SegI.ext{κ:KeyKind}{arr:Array Keyed}{i j i' j':Nat}(h:SegI κ arr i j)(h1:i<=i')(h2:j'<=j):(arr.extract i' j').toList.Pairwise (leK κ):=by
 rw[jZf]
 intro p q hp hq hpq
 have hq':q<(arr.extract i' j').size:=hq
 rw[kJe]at hq'
 rw[kKd,kKd,kQa,kQa]
 exact h (i'+p) (i'+q) _ _ Om Om Om (getElem?_pos arr _ Om) (getElem?_pos arr _ Om)
section
variable{prog:Program}{w:World}{A:Around}{E:Value->Shared->Prop}{s:Shared}{κ:KeyKind}{a₀:Array Keyed}{kd:SortKind}
theorem Qbs{α:Type}{old new:Array α}{merged:List α}{c d:Nat}(h:new.toList=old.toList.take c++(merged++old.toList.drop d))(hl:c+merged.length=d)(hd:d<=old.size)(p:Nat) :
  new[p]?=if p<c then old[p]? else if p<d then merged[p-c]? else old[p]?:=by
 have hc:(old.toList.take c).length=c:=by rw[wZ];show min c old.size=c;lia
 rw[<-yX,h]
 by_cases h1:p<c
 .rw[if_pos h1,yQb Om,List.getElem?_take_of_lt h1,yX]
 .rw[if_neg h1,jQa Om,hc]
  by_cases h2:p<d
  .rw[if_pos h2,yQb Om]
  .rw[if_neg h2,jQa Om,List.getElem?_drop,<-yX]
   congr 1
   lia
theorem Qiu{old new:Array Keyed}{merged:List Keyed}{sa sb c d e:Nat}{k1 k2:Keyed}(h:new.toList=old.toList.take c++(merged++old.toList.drop d))(hl:c+merged.length=d)(hd:d<=e)(he:e<=old.size)
  (h1:sa<=c) (h2:c<sb) (h3:sb<d) (e1:old[sb]?=some k1) (e2:old[sb-1]?=some k2) (SA:SegI κ old sa sb) (SB:SegI κ old sb e) (SM:merged.Pairwise (leK κ))
  (hm:∀x∈merged,x∈(old.extract c sb).toList\/x∈(old.extract sb d).toList)
  (g1:∀p x,sa<=p->p<c->old[p]?=some x->leK κ x k1) (g4:∀p x,d<=p->p<e->old[p]?=some x->leK κ k2 x):SegI κ new sa e:=by
 have look:=Qbs h hl Om
 have lowB:∀q y,sb<=q->q<e->old[q]?=some y->leK κ k1 y:=fun q y a1 a2 a3=>SB sb q _ _ (jW _) a1 a2 e1 a3
 have hiA:∀p x,sa<=p->p<sb->old[p]?=some x->leK κ x k2:=fun p x a1 a2 a3=>SA p (sb-1) _ _ a1 Om Om a3 e2
 have mem:∀(i:Nat) (x:Keyed),merged[i]?=some x->(∃r,c<=r/\r<sb/\old[r]?=some x)\/∃r,sb<=r/\r<d/\old[r]?=some x:=by
  intro i x hx
  rcases hm x (kY hx)with hx | hx
  .obtain⟨r,hr,er⟩:=Vc hx
   exact .inl ⟨c+r,Om,hr,er⟩
  .obtain⟨r,hr,er⟩:=Vc hx
   exact .inr ⟨sb+r,Om,hr,er⟩
 intro p q x y hp hpq hq hx hy
 rw[look]at hx hy
 by_cases p1:p<c
 .rw[if_pos p1]at hx
  by_cases q1:q<c
  .rw[if_pos q1]at hy
   exact SA p q x y hp hpq Om hx hy
  .rw[if_neg q1]at hy
   by_cases q2:q<d
   .rw[if_pos q2]at hy
    rcases mem _ _ hy with⟨r,r1,r2,er⟩ | ⟨r,r1,r2,er⟩
    .exact SA p r x y hp Om r2 hx er
    .exact(g1 p x hp p1 hx).trans (lowB r y r1 Om er)
   .rw[if_neg q2]at hy
    exact(g1 p x hp p1 hx).trans (lowB q y Om hq hy)
 .rw[if_neg p1]at hx
  rw[if_neg Om]at hy
  by_cases p2:p<d
  .rw[if_pos p2]at hx
   by_cases q2:q<d
   .rw[if_pos q2]at hy
    obtain⟨u,hu⟩:=jK.mp hx
    obtain⟨v,hv⟩:=jK.mp hy
    rcases zQb p q with hlt | hge
    .rw[<-hu,<-hv]
     exact jZf.mp SM _ _ u v Om
    .have:p=q:=Om
     subst this
     rw[hx]at hy
     cases hy
     exact KeyOrd.kle_refl _
   .rw[if_neg q2]at hy
    rcases mem _ _ hx with⟨r,r1,r2,er⟩ | ⟨r,r1,r2,er⟩
    .exact(hiA r x Om r2 er).trans (g4 q y Om hq hy)
    .exact SB r q x y r1 Om hq er hy
  .rw[if_neg p2]at hx
   rw[if_neg Om]at hy
   exact SB p q x y Om hpq hq hx hy
theorem Runs.mem_le:∀{a b:Nat} {l:List (Nat×Nat×Nat)} {r:Nat×Nat×Nat},Runs a l b->r∈l->a<=r.1/\r.1+r.2.1<=b
 |_,_,[],_,_,hr=>nomatch hr
 |a,b,r'::t,r,h,hr=>by
  obtain⟨h1,h2,h3⟩:=h
  have h4:=Runs.le h3
  rcases yY.mp hr with rfl | hr
  .omega
  .have:=Runs.mem_le h3 hr
   lia
theorem SegI.keep{old new:Array Keyed}{i j:Nat}(h:SegI κ old i j)(e:∀p,i<=p->p<j->new[p]?=old[p]?):SegI κ new i j:=fun p q x y a1 a2 a3 a4 a5=>
 h p q x y a1 a2 a3 (by rw[<-e p a1 Om];exact a4) (by rw[<-e q Om a3];exact a5)
structure POrd(κ:KeyKind)(kd:SortKind)(a₀:Array Keyed)(lo:Nat)(st:SortSt):Prop where
 base:PB kd a₀ lo st
 segs:∀r∈(pendingOf st).toList,SegI κ (arrOf st) r.1 (r.1+r.2.1)
theorem Je(hO:LtS prog w A s κ kd)(h0:KeysOf κ a₀){st:SortSt}{lo i:Nat}{Q:Bool->SortSt->Prop}(hP:POrd κ kd a₀ lo st)(hi:i+1<(pendingOf st).size)
  (h:∀st',POrd κ kd a₀ lo st'->(pendingOf st').size+1=(pendingOf st).size->(∀p,lo<=p->(arrOf st')[p]?=(arrOf st)[p]?)->Q true st'):wpS (model prog w) A E s (mergeAt' i) Q st:=by
 have hB:=hP.base
 have hK:=hB.hasK h0
 refine wpS_bind (wpS_get ?_)
 obtain⟨⟨sa,na,pw⟩,hx⟩:∃r,(pendingOf st)[i]?=some r:=⟨_,getElem?_pos _ i Om⟩
 obtain⟨⟨sb,nb,qw⟩,hy⟩:∃r,(pendingOf st)[i+1]?=some r:=⟨_,getElem?_pos _ (i+1) hi⟩
 obtain⟨l1,l2,hl,hl1⟩:∃l1 l2,(pendingOf st).toList=l1++(sa,na,pw)::(sb,nb,qw)::l2/\l1.length=i:=by
  refine⟨(pendingOf st).toList.take i,(pendingOf st).toList.drop (i+2),?_,by rw[wZ];show min i (pendingOf st).size=i;lia⟩
  rw[<-yX]at hx hy
  obtain⟨u,hu⟩:=jK.mp hx
  obtain⟨v,hv⟩:=jK.mp hy
  rw[<-hu,<-hv,<-kYe,<-kYe,jZb]
 have hr:=hB.pend
 rw[hl,Xr]at hr
 obtain⟨m,r1,e1,n1,e2,n2,r2⟩:=hr
 dsimp only at e1 n1 e2 n2 r2
 have hle:=r2.le
 have hrm:=hB.room
 have hsz:=hB.size
 have newl:(((pendingOf st).setIfInBounds i (sa,na+nb,pw)).eraseIdxIfInBounds (i+1)).toList=l1++(sa,na+nb,pw)::l2:=by
  rw[Array.eraseIdxIfInBounds_eq,dif_pos (by rw[yQf];exact hi),Array.toList_eraseIdx,kYa,hl]
  rw[<-hl1,List.set_append_right _ _ (jW _),kZc,List.set_cons_zero,List.eraseIdx_append_of_length_le (kQe _)]
  simp
 have hnew:Runs 0 (((pendingOf st).setIfInBounds i (sa,na+nb,pw)).eraseIdxIfInBounds (i+1)).toList lo:=by
  rw[newl,Xr]
  exact⟨m,r1,e1,by show 1<=na+nb;lia,by show Runs (m+(na+nb)) l2 lo;rwa [<-kQc]⟩
 show wpS _ _ _ _ (match ((pendingOf st)[i]?,(pendingOf st)[i+1]?)with | (some (sa,na,power),some (sb,nb,_))=>_ | x=>_) _ _
 rw[hx,hy]
 dsimp only
 have hsz2:(((pendingOf st).setIfInBounds i (sa,na+nb,pw)).eraseIdxIfInBounds (i+1)).size+1=(pendingOf st).size:=by
  have q1:=congrArg List.length newl
  have q2:=congrArg List.length hl
  simp only[yV,yW]at q1 q2
  show(((pendingOf st).setIfInBounds i (sa,na+nb,pw)).eraseIdxIfInBounds (i+1)).toList.length+1=(pendingOf st).toList.length
  lia
 have SA:SegI κ (arrOf st) sa sb:=by
  have:=hP.segs (sa,na,pw) (by rw[hl];simp)
  rwa [show sb=sa+na by lia]
 have SB:SegI κ (arrOf st) sb (sb+nb):=hP.segs (sb,nb,qw) (by rw[hl];simp)
 have segs:∀(new:Array Keyed),(∀p,p<sa\/sb+nb<=p->new[p]?=(arrOf st)[p]?)->SegI κ new sa (sb+nb) ->
   ∀r∈(((pendingOf st).setIfInBounds i (sa,na+nb,pw)).eraseIdxIfInBounds (i+1)).toList,SegI κ new r.1 (r.1+r.2.1):=by
  intro new hn hS r hr
  rw[newl]at hr
  rcases wX.mp hr with hr | hr
  .have:=Runs.mem_le r1 hr
   exact(hP.segs r (by rw[hl];exact jYc _ hr)).keep fun p _ _=>hn p (.inl Om)
  .rcases yY.mp hr with rfl | hr
   .show SegI κ new sa (sa+(na+nb))
    rwa [show sa+(na+nb)=sb+nb by lia]
   .have:=Runs.mem_le r2 hr
    exact(hP.segs r (by rw[hl];exact wJ _ (zY _ (zY _ hr)))).keep fun p _ _=>hn p (.inr Om)
 obtain⟨k1,e5⟩:∃x,(arrOf st)[sb]?=some x:=⟨_,getElem?_pos (arrOf st) sb Om⟩
 obtain⟨k2,e6⟩:∃x,(arrOf st)[sb-1]?=some x:=⟨_,getElem?_pos (arrOf st) (sb-1) Om⟩
 have lowB:∀q y,sb<=q->q<sb+nb->(arrOf st)[q]?=some y->leK κ k1 y:=fun q y a1 a2 a3=>SB sb q _ _ (jW _) a1 a2 e5 a3
 have hiA:∀p x,sa<=p->p<sb->(arrOf st)[p]?=some x->leK κ x k2:=fun p x a1 a2 a3=>SA p (sb-1) _ _ a1 Om Om a3 e6
 have joined:∀(kk:Keyed),(∀p x,sa<=p->p<sb->(arrOf st)[p]?=some x->leK κ x kk)->(∀q y,sb<=q->q<sb+nb->(arrOf st)[q]?=some y->leK κ kk y)->SegI κ (arrOf st) sa (sb+nb):=by
  intro kk u v p q x y a1 a2 a3 a4 a5
  by_cases c1:q<sb
  .exact SA p q x y a1 a2 c1 a4 a5
  .by_cases c2:p<sb
   .exact(u p x a1 c2 a4).trans (v q y Om a3 a5)
   .exact SB p q x y Om a2 a3 a4 a5
 refine wpS_bind (wpS_modify ?_)
 refine wpS_bind (Qe (by show _<(arrOf st).size;lia) ?_)
 have ek1:(arrOf st)[sb]'Om=k1:=by rw[getElem?_pos (arrOf st) sb Om]at e5;exact Option.some.inj e5
 refine wpS_bind (Jd hO (by exact hB.kind) (hK _ (zZ _)) hK (by show _<=(arrOf st).size;lia) Om (fun i j x y a1 a2 a3 a4=>SA _ _ x y Om Om Om a3 a4) fun k hk1 g1 g2=>?_)
 dsimp only
 refine Qd (fun e=>wpS_pure (h _ ⟨⟨hB.perm,hB.kind,hB.failed,hnew,hB.room⟩,segs _ (fun _ _=>rfl) (joined k1 (fun p x a1 a2 a3=>?_) lowB)⟩ hsz2 fun _ _=>rfl)) fun e3=>?_
 .rw[beq_iff_eq]at e
  have:=g1 (p-sa) x (by rw[show sa+(p-sa)=p by lia];exact a3) Om
  exact ek1▸this
 rw[beq_iff_eq]at e3
 refine wpS_bind (Qe (by show _<(arrOf st).size;lia) ?_)
 have ek2:(arrOf st)[sa+k+(na-k)-1]'Om=k2:=by
  rw[getElem?_pos (arrOf st) (sb-1) Om]at e6
  rw[<-Option.some.inj e6]
  congr 1
  lia
 refine wpS_bind (Jd hO (by exact hB.kind) (hK _ (zZ _)) hK (by show _<=(arrOf st).size;lia) Om (fun i j x y a1 a2 a3 a4=>SB _ _ x y Om Om Om a3 a4) fun nb' hk2 g3 g4=>?_)
 dsimp only
 refine Qd (fun e=>wpS_pure (h _ ⟨⟨hB.perm,hB.kind,hB.failed,hnew,hB.room⟩,segs _ (fun _ _=>rfl) (joined k2 hiA fun q y a1 a2 a3=>?_)⟩ hsz2 fun _ _=>rfl)) fun e4=>?_
 .rw[beq_iff_eq]at e
  have:=g4 (q-sb) y (by rw[show sb+(q-sb)=q by lia];exact a3) Om Om
  exact ek2▸this
 rw[beq_iff_eq]at e4
 have kx:∀p q,∀x∈(arrOf st).extract p q,HasK κ x:=fun p q x hx=>by
  refine hK x ?_
  obtain⟨i,hi,rfl⟩:=Array.mem_iff_getElem.mp hx
  rw[kQa]
  exact zZ _
 have sx:((arrOf st).extract (sa+k) sb).size=sb-(sa+k):=by rw[kJe];lia
 have sy:((arrOf st).extract sb (sb+nb')).size=nb':=by rw[kJe];lia
 have Sx:((arrOf st).extract (sa+k) sb).toList.Pairwise (leK κ):=SA.ext Om (jW _)
 have Sy:((arrOf st).extract sb (sb+nb')).toList.Pairwise (leK κ):=SB.ext (jW _) Om
 have y0:∀(hh:0<((arrOf st).extract sb (sb+nb')).size),((arrOf st).extract sb (sb+nb'))[0]=k1:=fun hh=>by
  rw[kQa]
  exact ek1
 have xl:∀(n:Nat) (hh:n<((arrOf st).extract (sa+k) sb).size),n+1=sb-(sa+k)->((arrOf st).extract (sa+k) sb)[n]=k2:=fun n hh e=>by
  rw[kQa,<-ek2]
  congr 1
  lia
 have k1x:∀x∈((arrOf st).extract (sa+k) sb).toList,leK κ k1 x:=fun x hx=>by
  obtain⟨r,hr,er⟩:=Vc hx
  have:=g2 (k+r) x (by rw[<-kQc];exact er) Om Om
  exact ek1▸this
 have yk2:∀y∈((arrOf st).extract sb (sb+nb')).toList,leK κ y k2:=fun y hy=>by
  obtain⟨r,hr,er⟩:=Vc hy
  have:=g3 r y er Om
  exact ek2▸this
 have hsb:∀(merged:Array Keyed),merged.toList.Perm (((arrOf st).extract (sa+k) sb).toList++((arrOf st).extract sb (sb+nb')).toList)->merged.toList.length=sb-(sa+k)+nb' /\
   (merged.toList.zipIdx.foldl (fun a (x:Keyed×Nat)=>a.setIfInBounds (sa+k+x.2) x.1) (arrOf st)).toList=(arrOf st).toList.take (sa+k)++(merged.toList++(arrOf st).toList.drop (sb+nb')):=by
  intro merged hm
  have hlen:merged.toList.length=sb-(sa+k)+nb':=by
   have:=hm.length_eq
   rw[yV]at this
   rw[this]
   exact congr (congrArg _ sx) sy
  have hset:=Qmn (base:=sa+k) merged.toList 0 (arrOf st) Om
  rw[Nat.add_zero,hlen,show sa+k+(sb-(sa+k)+nb')=sb+nb' by lia]at hset
  exact⟨hlen,hset⟩
 have keep:∀(merged:Array Keyed),merged.toList.Perm (((arrOf st).extract (sa+k) sb).toList++((arrOf st).extract sb (sb+nb')).toList)->∀p,lo<=p ->
   (merged.toList.zipIdx.foldl (fun a (x:Keyed×Nat)=>a.setIfInBounds (sa+k+x.2) x.1) (arrOf st))[p]?=(arrOf st)[p]?:=by
  intro merged hm p hp
  obtain⟨hlen,hset⟩:=hsb merged hm
  rw[Qbs hset Om Om p,if_neg Om,if_neg Om]
 have fin:∀(merged:Array Keyed) (g:Nat),merged.toList.Perm (((arrOf st).extract (sa+k) sb).toList++((arrOf st).extract sb (sb+nb')).toList)->merged.toList.Pairwise (leK κ) ->
   POrd κ kd a₀ lo (SortSt.mk' (kindOf st) (merged.toList.zipIdx.foldl (fun a (x:Keyed×Nat)=>a.setIfInBounds (sa+k+x.2) x.1) (arrOf st)) (((pendingOf st).setIfInBounds i (sa,na+nb,pw)).eraseIdxIfInBounds (i+1)) g (failedOf st)):=by
  intro merged g hm SM
  obtain⟨hlen,hset⟩:=hsb merged hm
  refine⟨⟨?_,hB.kind,hB.failed,hnew,hB.room⟩,segs _ (fun p hp=>?_) ?_⟩
  .refine Array.Perm.trans ?_ hB.perm
   rw[kYb]
   show(merged.toList.zipIdx.foldl (fun a (x:Keyed×Nat)=>a.setIfInBounds (sa+k+x.2) x.1) (arrOf st)).toList.Perm _
   rw[hset]
   refine(List.Perm.append_left _ (List.Perm.append_right _ hm)).trans ?_
   rw[<-kZ,<-kZ,<-Jm (arrOf st) Om,<-Kr,jZb]
  .show(merged.toList.zipIdx.foldl (fun a (x:Keyed×Nat)=>a.setIfInBounds (sa+k+x.2) x.1) (arrOf st))[p]?=_
   rw[Qbs hset Om Om p]
   split
   .rfl
   .rw[if_neg Om]
  .refine Qiu (k1:=k1) (k2:=k2) hset Om Om Om Om Om Om e5 e6 SA SB SM (fun x hx=>wX.mp (hm.mem_iff.mp hx)) (fun p x a1 a2 a3=>?_) fun p x a1 a2 a3=>?_
   .have:=g1 (p-sa) x (by rw[show sa+(p-sa)=p by lia];exact a3) Om
    exact ek1▸this
   .have:=g4 (p-sb) x (by rw[show sb+(p-sb)=p by lia];exact a3) Om Om
    exact ek2▸this
 have hfl:(failedOf st).isNone=true:=by rw[hB.failed];rfl
 refine Qd (fun _=>?_) fun _=>?_
 .refine wpS_bind (Qdq hO (by exact hB.kind) (kx _ _) (kx _ _) Sx Sy (by show 1<=((arrOf st).extract (sa+k) sb).size;lia) (by show 1<=((arrOf st).extract sb (sb+nb')).size;lia) ?_ ?_ fun out g hp ho=>?_)
  .intro x hx
   have:=k1x x hx
   rw[<-y0 Om]at this
   exact this
  .intro x hx y hy
   have hy':y=k2:=by
    have e8:((arrOf st).extract (sa+k) sb).toList.drop (((arrOf st).extract (sa+k) sb).size-1)=[k2]:=by
     rw[drop_one _ (show((arrOf st).extract (sa+k) sb).size-1<((arrOf st).extract (sa+k) sb).size by lia),xl _ _ Om,zQa (by show((arrOf st).extract (sa+k) sb).size<=_;lia)]
     rfl
    rw[e8]at hy
    exact kW.mp hy
   rw[hy']
   exact yk2 x hx
  refine wpS_bind (wpS_modify (wpS_bind (wpS_get (wpS_pure ?_))))
  show Q (failedOf st).isNone _
  rw[hfl]
  exact h _ (fin out g hp ho) hsz2 (keep out hp)
 .refine wpS_bind (Qdr hO (by exact hB.kind) (kx _ _) (kx _ _) Sx Sy (by show 1<=((arrOf st).extract (sa+k) sb).size;lia) (by show 1<=((arrOf st).extract sb (sb+nb')).size;lia) ?_ ?_ fun out g hp ho=>?_)
  .intro y hy x hx
   have hy':y=k1:=by
    have e8:((arrOf st).extract sb (sb+nb')).toList.take 1=[k1]:=by
     rw[show 1=0+1 from rfl,take_snoc _ (show 0<((arrOf st).extract sb (sb+nb')).size by lia),y0]
     rfl
    rw[e8]at hy
    exact kW.mp hy
   rw[hy']
   exact k1x x hx
  .intro y hy
   have:=yk2 y hy
   rw[<-xl (((arrOf st).extract (sa+k) sb).size-1) Om Om]at this
   exact this
  refine wpS_bind (wpS_modify (wpS_bind (wpS_get (wpS_pure ?_))))
  show Q (failedOf st).isNone _
  rw[hfl]
  exact h _ (fin out g hp ho) hsz2 (keep out hp)
end
section
variable{prog:Program}{w:World}{A:Around}{E:Value->Shared->Prop}{s:Shared}{κ:PyProof.Rows.KeyKind}{a₀:Array Keyed}{kd:SortKind}
def SegK(κ:PyProof.Rows.KeyKind)(arr:Array Keyed)(i j:Nat):Prop:=∀p q,i<=p->p<=q->q<j->κ.kle (KK κ arr p) (KK κ arr q)
def Qfq(κ:PyProof.Rows.KeyKind)(arr:Array Keyed)(i j:Nat):Prop:=∀p q,i<=p->p<=q->q<j->κ.kle (KK κ arr q) (KK κ arr p)
theorem SegK.segI{arr:Array Keyed}{i j:Nat}(h:SegK κ arr i j):SegI κ arr i j:=fun p q x y a1 a2 a3 a4 a5=>by
 have:=h p q a1 a2 a3
 unfold KK at this
 rw[a4,a5]at this
 exact this
def Low(lo:Nat)(old new:Array Keyed):Prop:=∀p,p<lo->new[p]?=old[p]?
theorem Low.refl(lo:Nat)(old:Array Keyed):Low lo old old:=fun _ _=>rfl
theorem Low.trans{lo:Nat}{a b c:Array Keyed}(h:Low lo a b)(h':Low lo b c):Low lo a c:=fun p hp=>(h' p hp).trans (h p hp)
theorem Qiv{lo i j:Nat}{xs:Array Keyed}(hi:lo<=i)(hj:j<=xs.size):Low lo xs (mirror xs i j ((j-i) / 2)):=fun p hp=>by
 rw[getElem?_mirror_all hj,if_neg Om]
theorem Qiw{lo src d:Nat}{xs:Array Keyed}(hs:src<xs.size)(hd:d<=src)(hl:lo<=src-d):Low lo xs (bubble xs src d):=fun p hp=>by
 rw[getElem?_bubble hs d hd,if_neg Om,if_neg Om]
theorem Kt(hO:LtS prog w A s κ kd)(h0:PyProof.Rows.KeysOf κ a₀){st:SortSt}{lo i j:Nat}{Q:Option Bool->SortSt->Prop}(hB:PB kd a₀ lo st)(hi:i<a₀.size)(hj:j<a₀.size)
  (h:Q (some (κ.blt (KK κ (arrOf st) i) (KK κ (arrOf st) j))) st):wpS (model prog w) A E s (ltAt' i j) Q st:=by
 have hsz:=hB.size
 obtain⟨a,ha⟩:=hB.hasK h0 _ (zZ (show i<(arrOf st).size by lia))
 obtain⟨b,hb⟩:=hB.hasK h0 _ (zZ (show j<(arrOf st).size by lia))
 have e1:KK κ (arrOf st) i=a:=by unfold KK;rw[getElem?_pos (arrOf st) i Om];simp[ha]
 have e2:KK κ (arrOf st) j=b:=by unfold KK;rw[getElem?_pos (arrOf st) j Om];simp[hb]
 rw[e1,e2]at h
 rw[ltAt'_eq]
 refine wpS_bind (wpS_get ?_)
 refine wpS_bind (Qe (by show i<(arrOf st).size;lia) ?_)
 refine wpS_bind (Qe (by show j<(arrOf st).size;lia) ?_)
 refine Wq hO hB.kind ⟨a,ha⟩ ⟨b,hb⟩ ?_
 have e3:Wp κ (arrOf st)[i] (arrOf st)[j]=κ.blt a b:=by unfold Wp kyOf;rw[ha,hb];rfl
 rw[e3];exact h
theorem Qfr(hO:LtS prog w A s κ kd)(h0:PyProof.Rows.KeysOf κ a₀){st:SortSt}{lo n ok:Nat}{Q:Bool->SortSt->Prop}(hB:PB kd a₀ lo st)(hn:lo+n<=a₀.size)(hok:ok<=n)(hs:SegK κ (arrOf st) lo (lo+ok))
  (h:∀st',PB kd a₀ lo st'->pendingOf st'=pendingOf st->Low lo (arrOf st) (arrOf st')->SegK κ (arrOf st') lo (lo+n)->Q true st'):wpS (model prog w) A E s (binarySort' lo n ok) Q st:=by
 rw[binarySort'_eq]
 refine wpS_bind (wpS_mono (wpS_forRange (I:=fun k c st'=>c=(none,())/\PB kd a₀ lo st'/\pendingOf st'=pendingOf st/\Low lo (arrOf st) (arrOf st')/\SegK κ (arrOf st') lo (lo+min k n))
  (Q:=fun c st'=>c=(none,())/\PB kd a₀ lo st'/\pendingOf st'=pendingOf st/\Low lo (arrOf st) (arrOf st')/\SegK κ (arrOf st') lo (lo+n)) ?step ?fin ?init) ?post)
 case post=>
  rintro c st' ⟨rfl,hB',hp,hL,hs'⟩
  exact wpS_pure (h st' hB' hp hL hs')
 case init=>
  refine⟨rfl,hB,rfl,Low.refl _ _,fun i j hi hij hj=>?_⟩
  by_cases h1:ok=0
  .have:i=j:=Om
   subst this;exact KeyOrd.kle_refl _
  .exact hs i j hi hij Om
 case fin=>
  rintro c st' ⟨hc,hB',hp,hL,hs'⟩
  refine⟨hc,hB',hp,hL,?_⟩
  rwa [show min (max (max ok 1) n) n=n by lia]at hs'
 case step=>
  rintro k c st' hak hkn ⟨rfl,hB',hp,hL,hs'⟩
  rw[show min k n=k by lia]at hs'
  have hk:lo+k<a₀.size:=Om
  refine wpS_bind (wpS_mono (wpS_forRange (I:=fun x c st''=>st''=st'/\∃l r,c=(none,l,r)/\l<=r/\r<=k/\r-l<=k-x /\
    (∀i,i<l->κ.kle (KK κ (arrOf st') (lo+i)) (KK κ (arrOf st') (lo+k)))/\(∀i,r<=i->i<k->κ.klt (KK κ (arrOf st') (lo+k)) (KK κ (arrOf st') (lo+i))))
   (Q:=fun c st''=>st''=st'/\∃l r,c=(none,l,r)/\l<=k /\
    (∀i,i<l->κ.kle (KK κ (arrOf st') (lo+i)) (KK κ (arrOf st') (lo+k)))/\(∀i,l<=i->i<k->κ.klt (KK κ (arrOf st') (lo+k)) (KK κ (arrOf st') (lo+i)))) ?istep ?ifin ?iinit) ?ipost)
  case iinit=>exact⟨rfl,0,k,rfl,Om,Om,Om,fun i hi=>Om,fun i h1 h2=>Om⟩
  case ifin=>
   rintro c st'' ⟨rfl,l,r,rfl,hlr,hrk,hm,hlo,hhi⟩
   have:l=r:=Om
   subst this
   exact⟨rfl,l,l,rfl,hrk,hlo,hhi⟩
  case istep=>
   rintro x c st'' _ hxk ⟨rfl,l,r,rfl,hlr,hrk,hm,hlo,hhi⟩
   dsimp only
   by_cases hge:l≥r
   .rw[if_pos hge]
    have:l=r:=Om
    subst this
    exact wpS_pure ⟨rfl,l,l,rfl,hrk,hlo,hhi⟩
   .rw[if_neg hge]
    refine wpS_bind (Kt hO h0 hB' hk Om ?_)
    cases hless:κ.blt (KK κ (arrOf st'') (lo+k)) (KK κ (arrOf st'') (lo+(l+r) / 2))
    case true=>
     simp only[if_true]
     refine wpS_pure ⟨rfl,l,(l+r) / 2,rfl,Om,Om,Om,hlo,fun i h1 h2=>?_⟩
     exact KeyOrd.klt_of_klt_of_kle hless (hs' _ _ Om Om Om)
    case false=>
     simp only[yJ,if_false]
     refine wpS_pure ⟨rfl,(l+r) / 2+1,r,rfl,Om,Om,Om,fun i h1=>?_,hhi⟩
     exact KeyOrd.kle_trans (hs' (lo+i) (lo+(l+r) / 2) Om Om Om) (show κ.kle _ _ from hless)
  case ipost=>
   rintro c st'' ⟨rfl,l,r,rfl,hlk,hlo,hhi⟩
   show wpS _ _ _ _ (do moveDown' (lo+k) (lo+l);pure (ForInStep.yield (none,()))) _ _
   rw[moveDown'_eq]
   have hks:lo+k<(arrOf st'').size:=by rw[hB'.size];exact hk
   refine wpS_bind (wpS_modify (wpS_pure ⟨rfl,hB'.setArr (bubble_perm _ _ _),hp,hL.trans (Qiw hks Om Om),?_⟩))
   rw[show min (k+1) n=k+1 by lia]
   intro i j hi hij hj
   show κ.kle (KK κ (bubble (arrOf st'') (lo+k) (lo+k-(lo+l))) i) (KK κ (bubble (arrOf st'') (lo+k) (lo+k-(lo+l))) j)
   rw[KK_bubble hks Om,KK_bubble hks Om,show lo+k-(lo+k-(lo+l))=lo+l by lia]
   have hlo':∀q,lo<=q->q<lo+l->κ.kle (KK κ (arrOf st'') q) (KK κ (arrOf st'') (lo+k)):=fun q a1 a2=>by
    have:=hlo (q-lo) Om
    rwa [show lo+(q-lo)=q by lia]at this
   have hhi':∀q,lo+l<=q->q<lo+k->κ.kle (KK κ (arrOf st'') (lo+k)) (KK κ (arrOf st'') q):=fun q a1 a2=>by
    have:=hhi (q-lo) Om Om
    rw[show lo+(q-lo)=q by lia]at this
    exact KeyOrd.kle_of_klt this
   repeat' split
   all_goals first
    |(exfalso;lia)
    |exact KeyOrd.kle_refl _
    |exact hlo' _ Om Om
    |exact hhi' _ Om Om
    |exact hs' _ _ Om Om Om
theorem Ku{st st0:SortSt}{lo i j:Nat}{Q:Unit->SortSt->Prop}(hB:PB kd a₀ lo st)(hp:pendingOf st=pendingOf st0)(hL:Low lo (arrOf st0) (arrOf st))(hi:lo<=i)(hj:j<=a₀.size)
  (h:∀st',PB kd a₀ lo st'->pendingOf st'=pendingOf st0->Low lo (arrOf st0) (arrOf st')->arrOf st'=mirror (arrOf st) i j ((j-i) / 2)->Q () st'):wpS (model prog w) A E s (reverseSlice' i j) Q st :=
 wpS_reverse (h _ (hB.setArr (mirror_perm _ _ _ _)) hp (hL.trans (Qiv hi (by rw[hB.size];exact hj))) rfl)
theorem Qix(hO:LtS prog w A s κ kd)(h0:PyProof.Rows.KeysOf κ a₀){st0:SortSt}{lo nrem:Nat}{Q:Option Nat->SortSt->Prop}(hB0:PB kd a₀ lo st0)(hn:lo+nrem<=a₀.size)(h1:1<=nrem)
  (h:∀n st',PB kd a₀ lo st'->pendingOf st'=pendingOf st0->Low lo (arrOf st0) (arrOf st')->1<=n->n<=nrem->SegK κ (arrOf st') lo (lo+n)->Q (some n) st'):wpS (model prog w) A E s (countRun' lo nrem) Q st0:=by
 have asc:∀{st:SortSt} (n₀:Nat),PB kd a₀ lo st->1<=n₀->n₀<=nrem->SegK κ (arrOf st) lo (lo+n₀)->∀{Q':Option (Option Nat)×Nat->SortSt->Prop},(∀n,n₀<=n->n<=nrem->SegK κ (arrOf st) lo (lo+n)->(n=nrem\/κ.klt (KK κ (arrOf st) (lo+n)) (KK κ (arrOf st) (lo+n-1)))->Q' (none,n) st) ->
   wpS (model prog w) A E s (forIn [n₀:nrem] ((none,n₀):Option (Option Nat)×Nat) fun _ c=>ltAt' (lo+c.2) (lo+c.2-1) >>= fun x=>match x with
    |some smaller=>if smaller=true then pure (ForInStep.done (none,c.2))else pure (ForInStep.yield (none,c.2+1))
    |_=>pure (ForInStep.done (some none,c.2))) Q' st:=by
  intro st n₀ hB hn1 hn2 hs Q' hq
  refine wpS_forRange (I:=fun x (c:Option (Option Nat)×Nat) st'=>st'=st/\c=(none,x)/\SegK κ (arrOf st) lo (lo+x)) ?_ ?_ ⟨rfl,rfl,hs⟩
  .rintro x c st' hx1 hx2 ⟨rfl,rfl,hs'⟩
   dsimp only
   refine wpS_bind (Kt hO h0 hB Om Om ?_)
   cases hless:κ.blt (KK κ (arrOf st') (lo+x)) (KK κ (arrOf st') (lo+x-1))
   .refine wpS_pure ⟨rfl,rfl,fun i j hi hij hj=>?_⟩
    by_cases hjx:j<lo+x
    .exact hs' i j hi hij hjx
    .have hj':j=lo+x:=Om
     subst hj'
     by_cases hi':i=lo+x
     .subst hi';exact KeyOrd.kle_refl _
     .exact KeyOrd.kle_trans (hs' i (lo+x-1) hi Om Om) hless
   .exact wpS_pure (hq x hx1 Om hs' (.inr hless))
  .rintro c st' ⟨rfl,rfl,hs'⟩
   rw[show max n₀ nrem=nrem by lia]at hs'⊢
   exact hq nrem hn2 (jW _) hs' (.inl rfl)
 have tail:∀{st:SortSt} (n:Nat) (f:Option (Option Nat)×Nat->StateT SortSt Sem (Option Nat)),PB kd a₀ lo st->pendingOf st=pendingOf st0->Low lo (arrOf st0) (arrOf st)->1<=n->n<=nrem->Qfq κ (arrOf st) lo (lo+n)->(∀n,f (none,n)=pure (some n)) ->
   wpS (model prog w) A E s (reverseSlice' lo (lo+n) >>= fun _=>(forIn [n:nrem] ((none,n):Option (Option Nat)×Nat) fun _ c=>ltAt' (lo+c.2) (lo+c.2-1) >>= fun x=>match x with
    |some smaller=>if smaller=true then pure (ForInStep.done (none,c.2))else pure (ForInStep.yield (none,c.2+1))
    |_=>pure (ForInStep.done (some none,c.2))) >>= f) Q st:=by
  intro st n f hB hp hL hn1 hn2 hs hf
  have hsz:lo+n<=(arrOf st).size:=by rw[hB.size];lia
  refine wpS_bind (Ku hB hp hL (jW _) Om fun st' hB' hp' hL' e=>?_)
  refine wpS_bind (asc n hB' hn1 hn2 ?_ fun m hm1 hm2 hsm _=>?_)
  .intro i j hi hij hj
   rw[e,KK_mirror hsz,KK_mirror hsz,if_pos Om,if_pos Om]
   exact hs _ _ Om Om Om
  .rw[hf]
   exact wpS_pure (h _ _ hB' hp' hL' Om hm2 hsm)
 refine wpS_bind (asc 1 hB0 (jW 1) h1 (fun i j hi hij hj=>by have:i=j:=Om;subst this;exact KeyOrd.kle_refl _) fun n hn1 hn2 hsn hor=>?_)
 dsimp only
 refine Qd (fun _=>wpS_pure (h _ _ hB0 rfl (Low.refl _ _) hn1 hn2 hsn)) fun e1=>?_
 rw[beq_iff_eq]at e1
 have hlt:=hor.resolve_left e1
 have desc:∀{st:SortSt} {Q':Option (Option Nat)×Nat×Nat->SortSt->Prop},PB kd a₀ lo st->pendingOf st=pendingOf st0->Low lo (arrOf st0) (arrOf st)->Qfq κ (arrOf st) lo (lo+(n+1)) ->
   (∀m q st',PB kd a₀ lo st'->pendingOf st'=pendingOf st0->Low lo (arrOf st0) (arrOf st')->1<=m->m<=nrem->Qfq κ (arrOf st') lo (lo+m)->q+1<=m->(∀i,lo+m-(q+1)<=i->i<lo+m->KK κ (arrOf st') i=KK κ (arrOf st') (lo+m-1))->Q' (none,m,q) st') ->
   wpS (model prog w) A E s (forIn [n+1:nrem] ((none,n+1,0):Option (Option Nat)×Nat×Nat) fun _ c=>ltAt' (lo+c.2.1) (lo+c.2.1-1) >>= fun x=>match x with
    |some smaller=>if smaller=true then if c.2.2 > 0 then reverseSlice' (lo+c.2.1-(c.2.2+1)) (lo+c.2.1) >>= fun _=>pure (ForInStep.yield (none,c.2.1+1,0))else pure (ForInStep.yield (none,c.2.1+1,0))
     else ltAt' (lo+c.2.1-1) (lo+c.2.1) >>= fun x=>match x with
      |some larger=>if larger=true then pure (ForInStep.done (none,c.2.1,c.2.2))else pure (ForInStep.yield (none,c.2.1+1,c.2.2+1))
      |_=>pure (ForInStep.done (some none,c.2.1,c.2.2))
    |_=>pure (ForInStep.done (some none,c.2.1,c.2.2))) Q' st:=by
  intro st Q' hB hp hL hs hq
  refine wpS_forRange (I:=fun x (c:Option (Option Nat)×Nat×Nat) st'=>∃neq,c=(none,x,neq)/\PB kd a₀ lo st'/\pendingOf st'=pendingOf st0/\Low lo (arrOf st0) (arrOf st')/\Qfq κ (arrOf st') lo (lo+x)/\neq+1<=x /\
    (∀i,lo+x-(neq+1)<=i->i<lo+x->KK κ (arrOf st') i=KK κ (arrOf st') (lo+x-1))) ?_ ?_ ⟨0,rfl,hB,hp,hL,hs,Om,fun i h1 h2=>by congr 1;lia⟩
  .rintro x c st' hx1 hx2 ⟨neq,rfl,hB',hp',hL',hs',hq',he⟩
   dsimp only
   have hsz:lo+x<=(arrOf st').size:=by rw[hB'.size];lia
   refine wpS_bind (Kt hO h0 hB' Om Om ?_)
   cases hless:κ.blt (KK κ (arrOf st') (lo+x)) (KK κ (arrOf st') (lo+x-1))
   .refine wpS_bind (Kt hO h0 hB' Om Om ?_)
    cases hlarger:κ.blt (KK κ (arrOf st') (lo+x-1)) (KK κ (arrOf st') (lo+x))
    .have heqx:KK κ (arrOf st') (lo+x)=KK κ (arrOf st') (lo+x-1):=KeyOrd.kle_antisymm hlarger hless
     refine wpS_pure ⟨neq+1,rfl,hB',hp',hL',fun i j hi hij hj=>?_,Om,fun i h1 h2=>?_⟩
     .by_cases hjx:j<lo+x
      .exact hs' i j hi hij hjx
      .have hj':j=lo+x:=Om
       subst hj'
       by_cases hi':i=lo+x
       .subst hi';exact KeyOrd.kle_refl _
       .rw[heqx];exact hs' i (lo+x-1) hi Om Om
     .rw[show lo+(x+1)-1=lo+x by lia]
      by_cases hix:i=lo+x
      .subst hix;rfl
      .rw[heqx];exact he i Om Om
    .exact wpS_pure (hq x neq st' hB' hp' hL' Om Om hs' hq' he)
   .refine Qd (fun _=>?_) fun hh=>absurd rfl hh
    have step1:∀xs:Array Keyed,(∀k,KK κ xs k=KK κ (arrOf st') k)->Qfq κ xs lo (lo+(x+1)):=by
     intro xs hk i j hi hij hj
     rw[hk,hk]
     by_cases hjx:j<lo+x
     .exact hs' i j hi hij hjx
     .have hj':j=lo+x:=Om
      subst hj'
      by_cases hi':i=lo+x
      .subst hi';exact KeyOrd.kle_refl _
      .exact KeyOrd.kle_trans (KeyOrd.kle_of_klt hless) (hs' i (lo+x-1) hi Om Om)
    refine Qd (fun _=>?_) fun _=>?_
    .refine wpS_bind (Ku hB' hp' hL' Om Om fun st2 hB2 hp2 hL2 e2=>wpS_pure ⟨0,rfl,hB2,hp2,hL2,step1 _ (fun k=>?_),Om,fun i h1 h2=>by congr 1;lia⟩)
     rw[e2]
     exact KK_mirror_equal hsz he k
    .exact wpS_pure ⟨0,rfl,hB',hp',hL',step1 _ (fun _=>rfl),Om,fun i h1 h2=>by congr 1;lia⟩
  .rintro c st' ⟨neq,rfl,hB',hp',hL',hs',hq',he⟩
   rw[show max (n+1) nrem=nrem by lia]at hs' hq' he⊢
   exact hq nrem neq st' hB' hp' hL' h1 (jW _) hs' hq' he
 have fin:∀{st:SortSt} (m q:Nat) (f:Option (Option Nat)×Nat->StateT SortSt Sem (Option Nat)),PB kd a₀ lo st->pendingOf st=pendingOf st0->Low lo (arrOf st0) (arrOf st)->1<=m->m<=nrem->Qfq κ (arrOf st) lo (lo+m)->q+1<=m ->
   (∀i,lo+m-(q+1)<=i->i<lo+m->KK κ (arrOf st) i=KK κ (arrOf st) (lo+m-1))->∀st',PB kd a₀ lo st'->arrOf st'=mirror (arrOf st) (lo+m-(q+1)) (lo+m) ((lo+m-(lo+m-(q+1))) / 2)->Qfq κ (arrOf st') lo (lo+m):=by
  intro st m q f hB hp hL hm1 hm2 hs hq he st' hB' e i j hi hij hj
  have hsz:lo+m<=(arrOf st).size:=by rw[hB.size];lia
  rw[e,KK_mirror_equal hsz he,KK_mirror_equal hsz he]
  exact hs i j hi hij hj
 refine Qd (fun hgt=>?_) fun hgt=>?_
 .refine wpS_bind (Kt hO h0 hB0 Om Om ?_)
  cases hrose:κ.blt (KK κ (arrOf st0) lo) (KK κ (arrOf st0) (lo+n-1))
  .refine Qd (fun hh=>by cases hh) fun _=>?_
   have hsz:lo+n<=(arrOf st0).size:=by rw[hB0.size];lia
   have hall:∀k,lo<=k->k<lo+n->KK κ (arrOf st0) k=KK κ (arrOf st0) (lo+n-1):=by
    intro k hk1 hk
    have a1:=hsn lo k (jW _) hk1 hk
    have a2:=hsn k (lo+n-1) hk1 Om Om
    exact KeyOrd.kle_antisymm a2 (KeyOrd.kle_trans hrose a1)
   refine wpS_bind (Ku hB0 rfl (Low.refl _ _) (jW _) Om fun st' hB' hp' hL' e=>?_)
   refine wpS_bind (wpS_lift (wpAny_rule ⟨rfl,?_⟩))
   refine wpS_bind (desc hB' hp' hL' ?_ fun m q st2 hB2 hp2 hL2 hm1 hm2 hs2 hq2 he2=>?_)
   .intro i j hi hij hj
    rw[e,KK_mirror_equal hsz hall,KK_mirror_equal hsz hall]
    by_cases hjn:j<lo+n
    .rw[hall i hi Om,hall j Om hjn];exact KeyOrd.kle_refl _
    .have hj':j=lo+n:=Om
     subst hj'
     by_cases hi':i=lo+n
     .subst hi';exact KeyOrd.kle_refl _
     .rw[hall i hi Om];exact KeyOrd.kle_of_klt hlt
   dsimp only
   refine Qd (fun _=>wpS_bind (Ku hB2 hp2 hL2 Om Om fun st3 hB3 hp3 hL3 e3=>tail m _ hB3 hp3 hL3 hm1 hm2 (fin m q (fun _=>pure none) hB2 hp2 hL2 hm1 hm2 hs2 hq2 he2 st3 hB3 e3) fun _=>rfl)) fun _=>tail m _ hB2 hp2 hL2 hm1 hm2 hs2 fun _=>rfl
  .exact Qd (fun _=>wpS_pure (h _ _ hB0 rfl (Low.refl _ _) hn1 hn2 hsn)) fun hh=>absurd rfl hh
 .have hn1':n=1:=Om
  refine wpS_bind (wpS_lift (wpAny_rule ⟨rfl,?_⟩))
  refine wpS_bind (desc hB0 rfl (Low.refl _ _) ?_ fun m q st2 hB2 hp2 hL2 hm1 hm2 hs2 hq2 he2=>?_)
  .intro i j hi hij hj
   by_cases hi':i=j
   .subst hi';exact KeyOrd.kle_refl _
   .have hi0:i=lo+n-1:=Om
    have hj1:j=lo+n:=Om
    rw[hi0,hj1]
    exact KeyOrd.kle_of_klt hlt
  dsimp only
  refine Qd (fun _=>wpS_bind (Ku hB2 hp2 hL2 Om Om fun st3 hB3 hp3 hL3 e3=>tail m _ hB3 hp3 hL3 hm1 hm2 (fin m q (fun _=>pure none) hB2 hp2 hL2 hm1 hm2 hs2 hq2 he2 st3 hB3 e3) fun _=>rfl)) fun _=>tail m _ hB2 hp2 hL2 hm1 hm2 hs2 fun _=>rfl
end
section
variable{prog:Program}{w:World}{A:Around}{E:Value->Shared->Prop}{s:Shared}{κ:PyProof.Rows.KeyKind}{a₀:Array Keyed}{kd:SortKind}
theorem Runs.len:∀{a b:Nat} {l:List (Nat×Nat×Nat)},Runs a l b->a+l.length<=b
 |a,b,[],h=>yXc h
 |a,b,r::t,h=>by
  obtain⟨_,h2,h3⟩:=h
  have:=Runs.len h3
  rw[yW]
  lia
theorem POrd.low{lo:Nat}{st st':SortSt}(h:POrd κ kd a₀ lo st)(hB:PB kd a₀ lo st')(hp:pendingOf st'=pendingOf st)(hL:Low lo (arrOf st) (arrOf st')):POrd κ kd a₀ lo st' :=
 ⟨hB,fun r hr=>by
  rw[hp]at hr
  have:=Runs.mem_le h.base.pend hr
  exact(h.segs r hr).keep fun p _ _=>hL p Om⟩
theorem POrd.push{lo n:Nat}{st:SortSt}(h:POrd κ kd a₀ lo st)(h1:1<=n)(h2:lo+n<=a₀.size)(hs:SegI κ (arrOf st) lo (lo+n)):POrd κ kd a₀ (lo+n) (setPending st ((pendingOf st).push (lo,n,0))):=by
 refine⟨⟨h.base.perm,h.base.kind,h.base.failed,?_,h2⟩,fun r hr=>?_⟩
 .show Runs 0 ((pendingOf st).push (lo,n,0)).toList (lo+n)
  rw[wV,Xr]
  exact⟨lo,h.base.pend,rfl,h1,rfl⟩
 .have hr':r∈((pendingOf st).push (lo,n,0)).toList:=hr
  rw[wV]at hr'
  rcases wX.mp hr' with hr | hr
  .exact h.segs r hr
  .cases kW.mp hr
   exact hs
theorem POrd.third{lo:Nat}{st:SortSt}(h:POrd κ kd a₀ lo st)(pw:Nat):POrd κ kd a₀ lo (setPending st ((pendingOf st).modify ((pendingOf st).size-1) fun x=>(x.1,x.2.1,pw))):=by
 have e:(pendingOf st).toList.map (fun r=>(r.1,r.2.1))=((pendingOf st).modify ((pendingOf st).size-1) fun x=>(x.1,x.2.1,pw)).toList.map (fun r=>(r.1,r.2.1)):=by
  refine jKd fun i=>?_
  rw[jV,jV,yX,yX,Array.getElem?_modify]
  split
  .rw[Option.map_map];rfl
  .rfl
 refine⟨⟨h.base.perm,h.base.kind,h.base.failed,Runs.third e h.base.pend,h.base.room⟩,fun r hr=>?_⟩
 have hm:(r.1,r.2.1)∈((pendingOf st).modify ((pendingOf st).size-1) fun x=>(x.1,x.2.1,pw)).toList.map (fun r=>(r.1,r.2.1)):=zQ.mpr ⟨r,hr,rfl⟩
 rw[<-e]at hm
 obtain⟨r',hr',e'⟩:=zQ.mp hm
 have:=h.segs r' hr'
 simp only[Prod.mk.injEq]at e'
 rw[e'.1,e'.2]at this
 exact this
theorem wpS_sortRunsO(hO:LtS prog w A s κ kd)(h0:PyProof.Rows.KeysOf κ a₀){st:SortSt}{Q:Unit->SortSt->Prop}(hB:SB kd a₀ st)
  (h:∀st',(arrOf st').Perm a₀->failedOf st'=none->SegI κ (arrOf st') 0 a₀.size->Q () st'):wpS (model prog w) A E s sortRuns' Q st:=by
 rw[sortRuns'_eq]
 refine wpS_bind (wpS_get ?_)
 dsimp only
 simp only[hB.size]
 have hB0:POrd κ kd a₀ 0 st:=⟨⟨hB.perm,hB.kind,hB.failed,by rw[hB.pend];rfl,wY _⟩,fun r hr=>by rw[hB.pend]at hr;cases hr⟩
 refine wpS_bind (wpS_mono (wpS_forRange (I:=fun x (c:Option Unit×Nat) st'=>c.1=none/\POrd κ kd a₀ c.2 st'/\x<=c.2) (Q:=fun(c:Option Unit×Nat) st'=>c.1=none/\POrd κ kd a₀ a₀.size st') ?step ?fin ⟨rfl,hB0,wY _⟩) ?post)
 case fin=>
  rintro⟨r,lo⟩ st' ⟨hr,hB',hx⟩
  simp only at hr hB' hx
  have:=hB'.base.room
  have e:lo=a₀.size:=Om
  subst e
  exact⟨hr,hB'⟩
 case step=>
  rintro x ⟨r,lo⟩ st' _ hx ⟨hr,hB',hxl⟩
  simp only at hr hB' hxl⊢
  subst hr
  have hrm:=hB'.base.room
  refine Qd (fun e=>wpS_pure ⟨rfl,?_⟩) fun hlo=>?_
  .have e:lo=a₀.size:=Om
   exact e▸hB'
  refine wpS_bind (Qix hO h0 hB'.base Om Om fun n st2 hB2 hp2 hL2 hn1 hn2 hs2=>?_)
  dsimp only
  refine Qd (fun hlt=>?_) fun _=>?_
  .refine wpS_bind (wpS_lift (wpAny_rule ⟨rfl,?_⟩))
   have hf1:1<=min (a₀.size-lo) (minRun' a₀.size a₀.size 0):=Om
   have hf2:lo+min (a₀.size-lo) (minRun' a₀.size a₀.size 0)<=a₀.size:=Om
   refine wpS_bind (Qfr hO h0 hB2 hf2 Om hs2 fun st3 hB3 hp3 hL3 hs3=>?_)
   refine Qd (fun e=>by simp at e) fun _=>?_
   have hP:=hB'.low hB3 (hp3.trans hp2) (hL2.trans hL3)
   have hS:=hs3.segI
   refine wpS_bind (wpS_get ?_)
   rcases hb:(pendingOf st3).back? with _ | ⟨s1,n1,q⟩
   .exact wpS_bind (wpS_modify (wpS_pure ⟨rfl,hP.push hf1 hf2 hS,by dsimp only;lia⟩))
   .dsimp only
    refine wpS_bind (wpS_mono (wpS_forRange (I:=fun _ (c:Option Unit×Unit) st''=>c.1=none/\POrd κ kd a₀ lo st''/\SegI κ (arrOf st'') lo (lo+min (a₀.size-lo) (minRun' a₀.size a₀.size 0))) (Q:=fun(c:Option Unit×Unit) st''=>c.1=none/\POrd κ kd a₀ lo st''/\SegI κ (arrOf st'') lo (lo+min (a₀.size-lo) (minRun' a₀.size a₀.size 0))) ?_ (fun _ _ hh=>hh) ⟨rfl,hP,hS⟩) ?_)
    .rintro x ⟨r,⟨⟩⟩ st'' _ _ ⟨hr,hB4,hS4⟩
     refine wpS_bind (wpS_get ?_)
     by_cases hp:(pendingOf st'').size > 1
     .rw[if_pos hp,getElem?_pos (pendingOf st'') _ Om]
      dsimp only
      refine Qd (fun _=>wpS_pure ⟨rfl,hB4,hS4⟩) fun _=>?_
      refine wpS_bind (Je hO h0 hB4 Om fun st5 hB5 _ hk5=>?_)
      exact Qd (fun e=>by simp at e) fun _=>wpS_pure ⟨rfl,hB5,hS4.keep fun p h1 _=>hk5 p h1⟩
     .rw[if_neg hp]
      exact wpS_pure ⟨rfl,hB4,hS4⟩
    .rintro⟨r,⟨⟩⟩ st4 ⟨hr,hB4,hS4⟩
     simp only at hr
     subst hr
     exact wpS_bind (wpS_modify (wpS_bind (wpS_modify (wpS_pure ⟨rfl,(hB4.third _).push hf1 hf2 hS4,by dsimp only;lia⟩))))
  .have hf1:=hn1
   have hf2:lo+n<=a₀.size:=Om
   have hP:=hB'.low hB2 hp2 hL2
   have hS:=hs2.segI
   refine wpS_bind (wpS_get ?_)
   rcases hb:(pendingOf st2).back? with _ | ⟨s1,n1,q⟩
   .exact wpS_bind (wpS_modify (wpS_pure ⟨rfl,hP.push hf1 hf2 hS,by dsimp only;lia⟩))
   .dsimp only
    refine wpS_bind (wpS_mono (wpS_forRange (I:=fun _ (c:Option Unit×Unit) st''=>c.1=none/\POrd κ kd a₀ lo st''/\SegI κ (arrOf st'') lo (lo+n)) (Q:=fun(c:Option Unit×Unit) st''=>c.1=none/\POrd κ kd a₀ lo st''/\SegI κ (arrOf st'') lo (lo+n)) ?_ (fun _ _ hh=>hh) ⟨rfl,hP,hS⟩) ?_)
    .rintro x ⟨r,⟨⟩⟩ st'' _ _ ⟨hr,hB4,hS4⟩
     refine wpS_bind (wpS_get ?_)
     by_cases hp:(pendingOf st'').size > 1
     .rw[if_pos hp,getElem?_pos (pendingOf st'') _ Om]
      dsimp only
      refine Qd (fun _=>wpS_pure ⟨rfl,hB4,hS4⟩) fun _=>?_
      refine wpS_bind (Je hO h0 hB4 Om fun st5 hB5 _ hk5=>?_)
      exact Qd (fun e=>by simp at e) fun _=>wpS_pure ⟨rfl,hB5,hS4.keep fun p h1 _=>hk5 p h1⟩
     .rw[if_neg hp]
      exact wpS_pure ⟨rfl,hB4,hS4⟩
    .rintro⟨r,⟨⟩⟩ st4 ⟨hr,hB4,hS4⟩
     simp only at hr
     subst hr
     exact wpS_bind (wpS_modify (wpS_bind (wpS_modify (wpS_pure ⟨rfl,(hB4.third _).push hf1 hf2 hS4,by dsimp only;lia⟩))))
 case post=>
  rintro⟨r,lo⟩ st' ⟨hr,hB'⟩
  simp only at hr hB'⊢
  subst hr
  have hlen:=hB'.base.pend.len
  refine wpS_bind (wpS_mono (wpS_forRange (I:=fun x (c:Option Unit×Unit) st''=>c.1=none/\POrd κ kd a₀ a₀.size st''/\(pendingOf st'').size+x<=a₀.size) (Q:=fun(c:Option Unit×Unit) st''=>c.1=none/\POrd κ kd a₀ a₀.size st''/\(pendingOf st'').size<=1) ?_ ?_ ⟨rfl,hB',by show(pendingOf st').toList.length+0<=_;lia⟩) ?_)
  .rintro x ⟨r,⟨⟩⟩ st'' _ _ ⟨hr,hB2,hx2⟩
   simp only at hr⊢
   subst hr
   refine wpS_bind (wpS_get ?_)
   refine Qd (fun e=>wpS_pure ⟨rfl,hB2,e⟩) fun hp=>?_
   refine wpS_bind (Je hO h0 hB2 ?_ fun st3 hB3 hz _=>?_)
   .have hle:∀(c:Prop) [Decidable c] (n:Nat),(if c then n-1 else n)<=n:=fun c _ n=>by split<;>lia
    exact xX (Nat.add_le_add_right (hle _ _) 1) Om
   .exact Qd (fun e=>by simp at e) fun _=>wpS_pure ⟨rfl,hB3,Om⟩
  .rintro⟨r,⟨⟩⟩ st'' ⟨hr,hB2,hx2⟩
   exact⟨hr,hB2,Om⟩
  .rintro⟨r,⟨⟩⟩ st'' ⟨hr,hB2,hx2⟩
   simp only at hr⊢
   subst hr
   refine wpS_pure (h _ hB2.base.perm hB2.base.failed ?_)
   have hpd:=hB2.base.pend
   cases e:(pendingOf st'').toList with
   |nil=>
    rw[e]at hpd
    have:0=a₀.size:=hpd
    intro p q x y _ _ hq
    lia
   |cons r t=>
    have hlt:(pendingOf st'').toList.length<=1:=hx2
    rw[e,yW]at hlt
    have et:t=[]:=xJ Om
    subst et
    have hsg:=hB2.segs r (by rw[e];exact zJ)
    rw[e]at hpd
    obtain⟨q1,q2,q3⟩:=hpd
    have q4:0+r.2.1=a₀.size:=q3
    rw[q1,q4]at hsg
    exact hsg
end
end L2.U
namespace L2
open PySem PySem.Spec PySem.W PyProof.Rows PySem.SeqAt
theorem Qhr(P A B:List Int):decide (P++A<P++B)=decide (A<B):=by
 induction P with
 |nil=>rfl
 |cons p P ih=>rw[yYe,yYe,Va,if_pos rfl,ih]
theorem Qmo:∀{A B R S:List Int},A.length=B.length->A≠B->decide (A++R<B++S)=decide (A<B)
 |[],[],_,_,_,h=>absurd rfl h
 |[],_::_,_,_,h,_=>nomatch h
 |_::_,[],_,_,h,_=>nomatch h
 |a::A,b::B,R,S,h,ne=>by
  rw[yYe,yYe,Va,Va]
  by_cases e:a=b
  .rw[if_pos e,if_pos e]
   exact Qmo (by simpa using h) fun z=>ne (by rw[e,z])
  .rw[if_neg e,if_neg e]
def flat:Nat->D->List Int
 |_,.int k=>[k]
 |n+1,.tup xs=>(xs.map (flat n)).flatten
 |_,_=>[]
theorem Qw{n:Nat}{k:Int}:flat n (.int k)=[k]:=by cases n<;>rfl
def Comp:Nat->D->D->Prop
 |_,.int _,.int _=>True
 |n+1,.tup xs,.tup ys=>(xs.length=ys.length\/((∀x∈xs,flat n x≠[])/\∀y∈ys,flat n y≠[]))/\∀(i:Nat) x y,xs[i]?=some x->ys[i]?=some y->Comp n x y/\(flat n x=flat n y->x=y)/\((flat n x).length=(flat n y).length\/(i+1=xs.length/\i+1=ys.length))
 |_,_,_=>False
theorem Comp.alike:∀{n:Nat} {x y:D},Comp n x y->Alike n x y:=by
 intro n
 induction n with
 |zero=>intro x y h;cases x<;>cases y<;>first | exact .int _ _ | exact h.elim
 |succ n ih=>
  intro x y h
  cases x<;>cases y<;>first | exact .int _ _ | exact h.elim | exact .tup fun i x y e1 e2=>ih (h.2 i x y e1 e2).1
section
variable{prog:Program}{w:World}{E:Value->Shared->Prop}
theorem Jf{k:Int}{v:Value}(h:(intKind prog w).is k v=true):∃t,v=.int k t:=Value.isInt_shape h
theorem Qmp{n:Nat}{d p q:List D}{us vs:List Value}{xs ys:List D}(e1:xs=d++p)(e2:ys=d++q)(hz:p=[]\/q=[])(c:Comp (n+1) (.tup xs) (.tup ys)):decide (flat (n+1) (.tup xs)<flat (n+1) (.tup ys))=decide (xs.length<ys.length):=by
 show decide ((xs.map (flat n)).flatten<(ys.map (flat n)).flatten)=_
 rw[e1,e2,zK,zK,kZd,kZd,Qhr]
 have ne:∀{p:List D},(∀x∈p,flat n x≠[])->p≠[]->(p.map (flat n)).flatten≠[]:=fun{p} h hp z=>by
  cases p with
  |nil=>exact hp rfl
  |cons x p=>rw[zW,jKb]at z;exact h x zJ (List.append_eq_nil_iff.mp z).1
 have hc:=c.1
 rw[e1,e2]at hc
 rw[yV,yV]at hc⊢
 cases p with
 |nil=>
  cases q with
  |nil=>rw[wQ (jJe _)];rfl
  |cons y q=>
   rw[show decide (d.length+([]:List D).length<d.length+(y::q).length)=true from xW (by simp)]
   rcases hc with hc | hc
   .simp at hc
   .have:=ne (p:=y::q) (fun x hx=>hc.2 x (wJ _ hx)) (List.cons_ne_nil _ _)
    cases e:((y::q).map (flat n)).flatten with
    |nil=>exact absurd e this
    |cons b t=>exact xW (List.nil_lt_cons _ _)
 |cons x p=>
  cases q with
  |nil=>
   rw[show decide (d.length+(x::p).length<d.length+([]:List D).length)=false from wQ (by simp)]
   exact wQ (List.not_lt_nil _)
  |cons y q=>rcases hz with hz | hz<;>cases hz
theorem lt_at{n:Nat}{d p q:List D}{x y:D}{xs ys:List D}(e1:xs=d++x::p)(e2:ys=d++y::q)(ne:x≠y)(c:Comp (n+1) (.tup xs) (.tup ys)):Comp n x y/\decide (flat (n+1) (.tup xs)<flat (n+1) (.tup ys))=decide (flat n x<flat n y):=by
 obtain⟨h1,h2,h3⟩:=c.2 d.length x y (by rw[e1,jQa (jW _),kZc];rfl) (by rw[e2,jQa (jW _),kZc];rfl)
 refine⟨h1,?_⟩
 show decide ((xs.map (flat n)).flatten<(ys.map (flat n)).flatten)=_
 rcases h3 with h3 | ⟨h3,h4⟩
 .rw[e1,e2,zK,zK,kZd,kZd,Qhr,zW,zW,jKb,jKb]
  exact Qmo h3 fun z=>ne (h2 z)
 .rw[e1,yV,yW]at h3
  rw[e2,yV,yW]at h4
  have hp:p=[]:=xJ Om
  have hq:q=[]:=xJ Om
  subst hp hq
  rw[e1,e2,zK,zK,kZd,kZd,Qhr]
  simp
theorem lt_T:∀{n:Nat} {x y:D} {u v:Value} {A:Around} {s:Shared} {Q:Value->Shared->Prop},A.units+n<cLine->TrA prog w s.heap n x u->TrA prog w s.heap n y v->Comp n x y->Q (.bool (decide (flat n x<flat n y))) s->wpAny (model prog w) A (compareOp .Lt u v) Q E s:=by
 intro n
 have intsC:∀{n:Nat} {k j:Int} {u v:Value} {A:Around} {s:Shared} {Q:Value->Shared->Prop},(intKind prog w).is k u=true->(intKind prog w).is j v=true->Q (.bool (decide (flat n (.int k)<flat n (.int j)))) s->wpAny (model prog w) A (compareOp .Lt u v) Q E s:=fun{n k j} _ _ _ _ _ hk hj h=>by
  obtain⟨t,rfl⟩:=Jf hk
  obtain⟨t',rfl⟩:=Jf hj
  rw[Qw,Qw,Va]at h
  refine lt_int ?_
  by_cases e:k=j
  .rw[if_pos e]at h
   rw[e,wQ (Int.lt_irrefl _)]
   exact h
  .rw[if_neg e]at h
   exact h
 induction n with
 |zero=>
  intro x y u v A s Q hu z z' al h
  rcases Qp z with⟨k,rfl,hk⟩ | ⟨m,xs,e,_⟩
  .rcases Qp z' with⟨k',rfl,hk'⟩ | ⟨m,xs,e,_⟩
   .exact intsC hk hk' h
   .cases e
  .cases e
 |succ n ih=>
  intro x y u v A s Q hu z z' al h
  rcases Qp z with⟨k,rfl,hk⟩ | ⟨m,xs,e,rfl,a,oa,ia,ka,rfl,hoa,hca,hda,hpa⟩
  .rcases Qp z' with⟨k',rfl,hk'⟩ | ⟨m,xs,e,rfl,_⟩
   .exact intsC hk hk' h
   .exact False.elim al
  cases e
  rcases Qp z' with⟨k',rfl,hk'⟩ | ⟨m,ys,e,rfl,b,ob,ib,kb,rfl,hob,hcb,hdb,hpb⟩
  .exact False.elim al
  cases e
  have al':=al.alike
  have hTa:s.TypeIs (.ref a) "tuple":=⟨oa,hoa,hca⟩
  have hTb:s.TypeIs (.ref b) "tuple":=⟨ob,hob,hcb⟩
  refine wpAny_richCompare_same_room (op:=.Lt) hTa hTb F.slot_tuple_lt
   (wpAny_call_entry F.slot_tuple_lt hTa F.entry_tuple_lt ?_ (F.args_tuple_lt_2 _ _)) Om
  show wpAny _ _ (isInstance (.ref b) (.type "tuple") >>= _) _ _ s
  refine jQ (wpAny_isInstance hTb isSubtype_tuple_tuple ?_)
  simp only[jJf,yJ,if_false]
  refine jQ (wpAny_tupleItemsOf hoa hda ?_)
  refine jQ (wpAny_tupleItemsOf hob hdb ?_)
  refine jQ ?_
  refine wpAny_forIn_list _
   (fun rest r s'=>r.1=none/\s'=s/\∃(d p q:List D) (us vs:List Value),xs=d++p/\ys=d++q/\rest=us.zip vs/\Paired (TrA prog w s.heap n) p us/\Paired (TrA prog w s.heap n) q vs)
   _ ?_ ?_ _ _ ⟨rfl,rfl,[],xs,ys,_,_,rfl,rfl,rfl,hpa,hpb⟩
  .rintro⟨u,v⟩ rest r s' ⟨hr,rfl,d,p,q,us,vs,e1,e2,e3,hp,hq⟩
   cases hp with
   |nil=>cases e3
   |@cons x' _ p' us' hx hp=>
    cases hq with
    |nil=>cases e3
    |@cons y' _ q' vs' hy hq=>
     rw[List.zip_cons_cons]at e3
     injection e3 with e3 e4
     injection e3 with e5 e6
     subst e5 e6
     have al2:Alike n x' y':=(al.2 d.length x' y' (by rw[e1,jQa (jW _),kZc];rfl) (by rw[e2,jQa (jW _),kZc];rfl)).1.alike
     refine jQ (eq_T (by show A.units+1+n<cLine;lia) hx hy al2 fun c hc=>?_)
     cases c with
     |true=>
      have ex:x'=y':=hc.mp rfl
      simp only[jJf,yJ,if_false]
      exact jJ ⟨rfl,rfl,d++[x'],p',q',us',vs',by rw[e1,kZ];rfl,by rw[e2,ex,kZ];rfl,e4,hp,hq⟩
     |false=>
      have ex:¬x'=y':=fun z=>by have:=hc.mpr z;cases this
      obtain⟨c1,c2⟩:=lt_at e1 e2 ex al
      rw[c2]at h
      simp only[yJe,if_true]
      refine jQ (wpAny_rule ?_)
      refine jQ (show wpAny (model prog w) _ (compareOp .Lt u v) _ _ _ from ih (by show A.units+1+n<cLine;lia) hx hy c1 ?_)
      exact jQ (jJ (jJ (jJ ⟨_,rfl,(fun e=>nomatch e),h⟩)))
  .rintro⟨r1,r2⟩ s' ⟨hr,rfl,d,p,q,us,vs,e1,e2,e3,hp,hq⟩
   simp only at hr
   subst hr
   have lp:=Xk hp
   have lq:=Xk hq
   have lz:=congrArg List.length e3
   rw[List.length_zip,List.length_nil]at lz
   have hz:p=[]\/q=[]:=by
    by_cases c:p.length=0
    .exact .inl (xJ c)
    .exact .inr (xJ Om)
   rw[Qmp (us:=us) (vs:=vs) e1 e2 hz al]at h
   have la:xs.length=ia.size:=by rw[Xk hpa,zX]
   have lb:ys.length=ib.size:=by rw[Xk hpb,zX]
   rw[la,lb]at h
   exact jJ ⟨_,rfl,(fun e=>nomatch e),h⟩
end
theorem Qfs{α β:Type}{f:α->β}{l ys:List β}(h:l.Perm ys):∀zs:List α,ys=zs.map f->∃p:List α,p.Perm zs/\l=p.map f:=by
 induction h with
 |nil=>
  intro zs e
  cases zs with
  |nil=>exact⟨[],.refl _,rfl⟩
  |cons=>cases e
 |cons x _ ih=>
  intro zs e
  cases zs with
  |nil=>cases e
  |cons z zs=>
   rw[zW]at e
   injection e with e1 e2
   obtain⟨p,hp,e3⟩:=ih zs e2
   exact⟨z::p,hp.cons z,by rw[zW,e1,e3]⟩
 |swap x y l=>
  intro zs e
  cases zs with
  |nil=>cases e
  |cons z zs=>
   rw[zW]at e
   injection e with e1 e2
   cases zs with
   |nil=>cases e2
   |cons z' zs=>
    rw[zW]at e2
    injection e2 with e3 e4
    exact⟨z'::z::zs,.swap ..,by rw[zW,zW,e1,e3,e4]⟩
 |trans _ _ ih1 ih2=>
  intro zs e
  obtain⟨p,hp,e1⟩:=ih2 zs e
  obtain⟨q,hq,e2⟩:=ih1 p e1
  exact⟨q,hq.trans hp,e2⟩
section
variable{prog:Program}{w:World}{A:Around}{E:Value->Shared->Prop}{s:Shared}{κ:KeyKind}{kd:SortKind}
theorem Vd(vs:List Value):(pairsOf vs).toList=vs.map fun v=>(v,v):=by
 unfold pairsOf
 rw[Array.toList_zip]
 induction vs with
 |nil=>rfl
 |cons v vs ih=>simpa using ih
theorem Qmq{a:Addr}{vs:List Value}{n:Nat}{P:PySem.Fin->Shared->Prop}(ho:s.heap.get? a=some (seqObj "list" vs.toArray n)){h₀:Heap}(ext:∀b o,h₀.get? b=some o->b≠a/\s.heap.get? b=some o)
  (h0:KeysOf κ (pairsOf vs)) (hO:∀s':Shared,(∀b o,h₀.get? b=some o->s'.heap.get? b=some o)->U.LtS prog w A s' κ kd)
  (hkk:∀(s':Shared) {Q:SortKind->Shared->Prop} {E:Value->Shared->Prop},(∀b o,h₀.get? b=some o->s'.heap.get? b=some o)->0<vs.length->Q kd s'->wpAny (model prog w) A (keyKind' vs.toArray) Q E s') (hlen:vs.length<1000000)
  (h:∀(p:List Nat),p.Perm (List.range vs.length)->(p.map fun i=>(κ.keyOf (vs.getD i Value.none)).getD κ.dflt).Pairwise κ.kle ->
   P (.done (.ret .none)) { s with heap:=sortedHeap s.heap a vs (List.toArray (p.map fun i=>vs.getD i Value.none)) }) :
  wpAny (model prog w) A (Builtin.«list.sort» ⟨[.ref a],[]⟩) P E s:=by
 have ha:a<s.heap.objs.size:=kK ho
 obtain⟨e1,ho1⟩:∃e1,(s.heap.update a (Obj.mapSeq fun _=>#[])).get? a=some (seqObj "list" #[] e1):=⟨_,get?_update_seq ho (fun _=>#[])⟩
 have keep:∀b o,h₀.get? b=some o->(((s.heap.update a (Obj.mapSeq fun _=>#[])).push (seqObj "tuple" vs.toArray 0)).push (seqObj "list" #[] 0)).get? b=some o:=fun b o e=>by
  obtain⟨n1,e1⟩:=ext b o e
  refine jZ _ (jZ _ ?_)
  rw[yZd _ _ _ _ n1];exact e1
 have ho6:(((s.heap.update a (Obj.mapSeq fun _=>#[])).push (seqObj "tuple" vs.toArray 0)).push (seqObj "list" #[] 0)).get? a=some (seqObj "list" #[] e1):=jZ _ (jZ _ ho1)
 have fin:∀(st':SortSt) (out:List Value),(arrOf st').map (·.2)=List.toArray out->failedOf st'=none->out.length=vs.length->P (.done (.ret .none)) { s with heap:=sortedHeap s.heap a vs (List.toArray out) } ->
   wpAny (model prog w) A (do
    let sorted:=(arrOf st').map (·.2)
    let touched:=(← seqEpoch a) != e1
    Builtin.List.listUpdate (.ref a) fun _=>sorted
    if let some e:=failedOf st' then rule "list.sort.comparison-raised";throw e
    if touched then rule "list.sort.modified";raiseError "ValueError" "list modified during sort"
    ret .none) P E { s with heap:=((s.heap.update a (Obj.mapSeq fun _=>#[])).push (seqObj "tuple" vs.toArray 0)).push (seqObj "list" #[] 0) }:=fun st' out h1 h2 h3 h4=>by
  dsimp only
  rw[h1]
  refine jQ (seqEpoch_at ho6 rfl ?_)
  refine jQ (listUpdate_at ho6 rfl ?_ (hsz2:=by rw[kJ,sizeLine_eq];lia))
  rw[h2]
  simp only[bne_self_eq_false,yJ,if_false]
  exact jJ h4
 rw[list_sort_plain]
 refine jQ (listItems_at ho rfl ?_)
 refine jQ (listUpdate_at ho rfl ?_)
 refine jQ (seqEpoch_at ho1 rfl ?_)
 refine jQ (wpAny_newTuple ?_)
 refine jQ (wpAny_newList ?_)
 refine wpAny_holding ?_
 show wpAny (model prog w) A _ P E { s with heap:=((s.heap.update a (Obj.mapSeq fun _=>#[])).push (seqObj "tuple" vs.toArray 0)).push (seqObj "list" #[] 0) }
 dsimp only
 have hsz:vs.toArray.size=vs.length:=by simp
 by_cases h2:vs.toArray.size<2
 .rw[if_pos h2,if_pos h2]
  refine jQ (jJ ?_)
  rw[StateT.run_pure]
  refine jQ (jJ ?_)
  have o:=h (List.range vs.length) (.refl _) (by
   rw[jZf]
   intro i j hi hj hij
   rw[jX,kQ]at hi hj
   lia)
  rw[Xb]at o
  refine fin (SortSt.mk' general' (vs.toArray.zip vs.toArray) #[] 7 none) vs ?_ rfl rfl o
  show(vs.toArray.zip vs.toArray).map (·.2)=_
  apply Array.toList_inj.mp
  simp
  exact List.map_snd_zip (jW _)
 .rw[if_neg h2,if_neg h2]
  refine jQ (hkk { s with heap:=((s.heap.update a (Obj.mapSeq fun _=>#[])).push (seqObj "tuple" vs.toArray 0)).push (seqObj "list" #[] 0) } keep Om ?_)
  refine jQ (wpAny_mono (U.wpS_sortRunsO (κ:=κ) (kd:=kd) (hO { s with heap:=((s.heap.update a (Obj.mapSeq fun _=>#[])).push (seqObj "tuple" vs.toArray 0)).push (seqObj "list" #[] 0) } keep) (a₀:=pairsOf vs) h0 (st:=SortSt.mk' kd (vs.toArray.zip vs.toArray) #[] 7 none)
   (Q:=fun _ st'=>(arrOf st').Perm (pairsOf vs)/\failedOf st'=none/\U.SegI κ (arrOf st') 0 (pairsOf vs).size) ⟨Array.Perm.refl _,rfl,rfl,rfl⟩ fun st' a1 a2 a3=>⟨a1,a2,a3⟩) ?_ fun _ _ e=>e)
  rintro⟨⟨⟩,st'⟩ s' ⟨rfl,hp,hf,hsg⟩
  have hp':=kYb.mp hp
  obtain⟨p,pp,ep⟩:=Qfs (f:=fun i=>((vs.getD i Value.none,vs.getD i Value.none):Keyed)) hp' (List.range vs.length) (by
   rw[Vd]
   conv=>lhs;rw[<-Xb vs Value.none]
   rw[jQb];rfl)
  have lp:p.length=vs.length:=by rw[pp.length_eq,kQ]
  refine fin st' (p.map fun i=>vs.getD i Value.none) ?_ hf (by rw[jX,lp]) (h p pp ?_)
  .apply Array.toList_inj.mp
   rw[Array.toList_map,ep,jQb];rfl
  .rw[jZf]
   intro i j hi hj hij
   rw[jX]at hi hj
   have sz:(pairsOf vs).size=vs.length:=pairsOf_size _
   have g:∀k (hk:k<p.length),(arrOf st')[k]?=some (vs.getD p[k] Value.none,vs.getD p[k] Value.none):=fun k hk=>by
    rw[<-yX,ep,jV,gE hk];rfl
   have:=hsg i j _ _ (wY _) (yZe hij) Om (g i hi) (g j hj)
   rw[kXd,kXd]
   exact this
theorem Qmr{l:Addr}{vs:List Value}{Q:Value->Shared->Prop}(hl:s.heap.IsList l vs.toArray)
  (h0:KeysOf κ (pairsOf vs)) (hO:∀(A':Around) (s':Shared),A'.units<=A.units+2->(∀b o,s.heap.get? b=some o->s'.heap.get? b=some o)->U.LtS prog w A' s' κ kd)
  (hkk:∀(A':Around) (s':Shared) {Q:SortKind->Shared->Prop} {E:Value->Shared->Prop},(∀b o,s.heap.get? b=some o->s'.heap.get? b=some o)->0<vs.length->Q kd s'->wpAny (model prog w) A' (keyKind' vs.toArray) Q E s') (hlen:vs.length<1000000)
  (h:∀(p:List Nat),p.Perm (List.range vs.length)->(p.map fun i=>(κ.keyOf (vs.getD i Value.none)).getD κ.dflt).Pairwise κ.kle ->
   Q (.ref (s.heap.objs.size+1)) { s with heap:=sortedAll s.heap vs (List.toArray (p.map fun i=>vs.getD i Value.none)) }) :
  wpAny (model prog w) A (call (.builtin "sorted") [.ref l]) Q E s:=by
 refine Calls.call_function_entry kind_sorted plain_sorted entry_sorted (args_sorted1 _) ?_
 unfold Builtin.«sorted»
 refine jQ (m:=checkCount "sorted" 1 1 _) (jJ ?_)
 refine jQ (collect_list hl ?_)
 refine jQ (wpAny_newList ?_)
 have hsz:((s.heap.push (seqObj "list" #[] 0)).update s.heap.objs.size (Obj.mapSeq (· ++ vs.toArray))).objs.size=s.heap.objs.size+1:=by
  rw[Heap.size_update,size_push']
 have hoL:(((s.heap.push (seqObj "list" #[] 0)).update s.heap.objs.size (Obj.mapSeq (· ++ vs.toArray))).push (seqObj "list" vs.toArray 0)).get? (s.heap.objs.size+1)=some (seqObj "list" vs.toArray 0):=by
  rw[<-hsz];exact kX _ rfl
 have keep:∀b o,s.heap.get? b=some o->b≠s.heap.objs.size+1/\(((s.heap.push (seqObj "list" #[] 0)).update s.heap.objs.size (Obj.mapSeq (· ++ vs.toArray))).push (seqObj "list" vs.toArray 0)).get? b=some o:=fun b o e=>by
  have hlt:b<s.heap.objs.size:=kK e
  refine⟨yZ (jJa hlt),jZ _ ?_⟩
  rw[yZd _ _ _ _ (yZ hlt)]
  exact jZ _ e
 show wpAny _ _ _ _ _ { s with heap:=((s.heap.push (seqObj "list" #[] 0)).update s.heap.objs.size (Obj.mapSeq (· ++ vs.toArray))).push (seqObj "list" vs.toArray 0) }
 rw[hsz]
 refine jQ (wpAny_holding (wpAny_call_entry slot_list_sort ⟨_,hoL,rfl⟩ entry_list_sort (Qmq (s:={ s with heap:=((s.heap.push (seqObj "list" #[] 0)).update s.heap.objs.size (Obj.mapSeq (· ++ vs.toArray))).push (seqObj "list" vs.toArray 0) }) hoL keep h0 (fun s' k=>hO _ s' (by show A.units+1+1<=A.units+2;lia) k) (fun s' {_ _} k=>hkk _ s' k) hlen fun p h1 h2=>⟨_,rfl,?_⟩) (args_list_sort _)))
 exact jJ ⟨_,rfl,h p h1 h2⟩
end
def okT:Nat->D->Prop
 |_,.int _=>True
 |n+1,.tup xs=>∀x∈xs,okT n x
 |_,_=>False
def Qds(b:Bool)(t:D):Prop:=∃x r,t=.tup (x::r)/\if b=true then ∃k,x=D.int k else ∃zs,x=D.tup zs
section
variable{prog:Program}{w:World}{A:Around}{E:Value->Shared->Prop}{s:Shared}
theorem lex_T{b:Bool}{n:Nat}{xs ys:List D}{fin:Bool}{Q:Bool->Shared->Prop}(hu:A.units+n<cLine)(c:Comp (n+1) (.tup xs) (.tup ys))(hb:b=true->∃k j r r',xs=.int k::r/\ys=.int j::r')(hf:fin=decide (xs.length<ys.length))
  (h:Q (decide (flat (n+1) (.tup xs)<flat (n+1) (.tup ys))) s):∀(us vs:List Value) (d p q:List D),xs=d++p->ys=d++q->Paired (TrA prog w s.heap n) p us->Paired (TrA prog w s.heap n) q vs->KatLex prog w A b fin Q (us.zip vs) d.length s:=by
 intro us
 induction us with
 |nil=>
  intro vs d p q e1 e2 hp hq
  cases hp
  refine kat_nil ?_
  rw[hf,<-Qmp (us:=[]) (vs:=vs) e1 e2 (.inl rfl) c]
  exact h
 |cons u us ih=>
  intro vs d p q e1 e2 hp hq
  cases hp with
  |@cons x _ p' _ hx hp=>
   cases hq with
   |nil=>
    refine kat_nil ?_
    rw[hf,<-Qmp (us:=us) (vs:=[]) e1 e2 (.inr rfl) c]
    exact h
   |@cons y v q' vs hy hq=>
    rw[List.zip_cons_cons]
    have al:Alike n x y:=(c.2 d.length x y (by rw[e1,jQa (jW _),kZc];rfl) (by rw[e2,jQa (jW _),kZc];rfl)).1.alike
    refine kat_cons (eq_T hu hx hy al fun cc hc=>?_)
    cases cc with
    |true=>
     have ex:x=y:=hc.mp rfl
     refine kat_yes ?_
     have:=ih vs (d++[x]) p' q' (by rw[e1,kZ];rfl) (by rw[e2,ex,kZ];rfl) hp hq
     rw[yV]at this
     exact this
    |false=>
     have ex:¬x=y:=fun z=>by have:=hc.mpr z;cases this
     obtain⟨c1,c2⟩:=lt_at e1 e2 ex c
     rw[c2]at h
     refine kat_no ?_
     by_cases e:(b&&d.length == 0)=true
     .rw[e]
      rw[jKa]at e
      have d0:d=[]:=xJ (by simpa using e.2)
      obtain⟨k,j,r,r',f1,f2⟩:=hb e.1
      subst d0
      rw[e1]at f1
      rw[e2]at f2
      cases f1
      cases f2
      obtain⟨t,rfl⟩:=Jf (trA_int.mp hx)
      obtain⟨t',rfl⟩:=Jf (trA_int.mp hy)
      rw[Qw,Qw,Va,if_neg (fun z=>ex (by rw[z]))]at h
      exact oneLt_int h
     .rw[show(b&&d.length == 0)=false by simpa using e]
      exact kat_one _ _ (lt_T hu hx hy c1 h)
theorem Qms{b:Bool}{n:Nat}{x y:D}{u v:Value}{Q:Bool->Shared->Prop}(hu:A.units+n<cLine)(hx:TrA prog w s.heap (n+1) x u)(hy:TrA prog w s.heap (n+1) y v)(c:Comp (n+1) x y)(h1:Qds b x)(h2:Qds b y)(h:Q (decide (flat (n+1) x<flat (n+1) y)) s):wpAny (model prog w) A (keyLt' (tuples' b) u v) Q E s:=by
 obtain⟨x0,r,rfl,f1⟩:=h1
 obtain⟨y0,r',rfl,f2⟩:=h2
 obtain⟨a,oa,ia,ka,rfl,hoa,hca,hda,hpa⟩:=hx
 obtain⟨a',ob,ib,kb,rfl,hob,hcb,hdb,hpb⟩:=hy
 refine kat_lt hoa hda hob hdb ?_
 refine lex_T hu c (fun e=>?_) ?_ h _ _ [] _ _ rfl rfl hpa hpb
 .rw[if_pos e]at f1 f2
  obtain⟨k,rfl⟩:=f1
  obtain⟨j,rfl⟩:=f2
  exact⟨k,j,r,r',rfl,rfl⟩
 .rw[<-zX,<-zX,<-Xk hpa,<-Xk hpb]
theorem Qdt{b:Bool}{n:Nat}{h:Heap}:∀{ts:List D} {us:List Value},Paired (TrA prog w h (n+1)) ts us->(∀t∈ts,Qds b t)->∃fs,KatTups h us fs/\fs.length=us.length/\∀f∈fs,(b=true/\∃k t,f=.int k t)\/(b=false/\∃a o,f=.ref a/\h.get? a=some o/\o.cls=.type "tuple")
 |_,_,.nil,_=>⟨[],trivial,rfl,fun f hf=>nomatch hf⟩
 |_,_,.cons z r,hh=>by
  obtain⟨x0,q,rfl,f1⟩:=hh _ zJ
  obtain⟨a,oa,ia,ka,rfl,hoa,hca,hda,hpa⟩:=z
  obtain⟨fs,k,l,p⟩:=Qdt r fun t ht=>hh t (zY _ ht)
  generalize ei:ia.toList=il at hpa
  cases hpa with
  |@cons _ f _ _ hx _=>
   have e0:ia[0]?=some f:=by rw[<-yX,ei];rfl
   refine⟨f::fs,.cons hoa hca hda e0 k,by rw[yW,yW,l],fun g hg=>?_⟩
   rcases yY.mp hg with e | hg
   .subst e
    cases b with
    |true=>
     rw[if_pos rfl]at f1
     obtain⟨k,rfl⟩:=f1
     obtain⟨t,rfl⟩:=Jf (trA_int.mp hx)
     exact .inl ⟨rfl,k,t,rfl⟩
    |false=>
     rw[if_neg Dc]at f1
     obtain⟨zs,rfl⟩:=f1
     rcases Qp hx with⟨k,e,_⟩ | ⟨m,xs,_,_,a',o',_,_,rfl,ho',hc',_⟩
     .cases e
     .exact .inr ⟨rfl,a',o',rfl,ho',hc'⟩
   .exact p g hg
theorem Qdu{b:Bool}{n:Nat}{ts:List D}{us:List Value}{Q:SortKind->Shared->Prop}(hr:Paired (TrA prog w s.heap (n+1)) ts us)(hh:∀t∈ts,Qds b t)(h1:0<us.length)(h:Q (tuples' b) s):wpAny (model prog w) A (keyKind' us.toArray) Q E s:=by
 obtain⟨fs,k,l,p⟩:=Qdt hr hh
 cases b with
 |true=>
  refine kat_kind (T:=.type "int") k Om (fun v hv=>?_) Dc h
  rcases p v hv with⟨_,n,t,rfl⟩ | ⟨e,_⟩
  .exact .now
  .cases e
 |false=>
  refine kat_kind (T:=.type "tuple") k Om (fun v hv=>?_) Dc h
  rcases p v hv with⟨e,_⟩ | ⟨_,a,o,rfl,ho,hc⟩
  .cases e
  .rw[<-hc]
   exact(Looks.ld ho).andThen .now
open Classical in
def Qft(prog:Program)(w:World)(h:Heap)(n:Nat)(ts:List D)(u:Value):Option (List Int):=if e:∃x,x∈ts/\TrA prog w h n x u then some (flat n e.choose)else none
@[reducible] def Qsd (prog:Program) (w:World) (h:Heap) (n:Nat) (ts:List D):KeyKind where
 α:=List Int
 blt a b:=decide (a<b)
 irrefl a:=wQ (List.lt_irrefl a)
 trans a b c h1 h2:=xW (List.lt_trans (jJb h1) (jJb h2))
 negTrans a b c h:=by
  by_cases hab:a<b
  .exact .inl (xW hab)
  .exact .inr (xW (List.lt_of_le_of_lt (zXc.mp hab) (jJb h)))
 total a b h1 h2:=List.le_antisymm (zXc.mp (of_decide_eq_false h2)) (zXc.mp (of_decide_eq_false h1))
 keyOf:=Qft prog w h n ts
 dflt:=[]
theorem Jn{h:Heap}{n:Nat}{ts:List D}{u:Value}{a:List Int}(e:Qft prog w h n ts u=some a):∃x,x∈ts/\TrA prog w h n x u/\a=flat n x:=by
 unfold Qft at e
 split at e
 .rename_i hx
  exact⟨hx.choose,hx.choose_spec.1,hx.choose_spec.2,(Option.some.inj e).symm⟩
 .cases e
theorem Vq{h:Heap}{n:Nat}{ts:List D}{u:Value}{x:D}(hx:x∈ts)(hT:TrA prog w h n x u):Qft prog w h n ts u=some (flat n x):=by
 have e:∃x,x∈ts/\TrA prog w h n x u:=⟨x,hx,hT⟩
 unfold Qft
 rw[dif_pos e,e.choose_spec.2.inj hT]
theorem Qqb{b:Bool}{n:Nat}{l:Addr}{vs:List Value}{ts:List D}{Q:Value->Shared->Prop}(hl:s.heap.IsList l vs.toArray)(hu:A.units+n+3<cLine)(hr:Paired (TrA prog w s.heap (n+1)) ts vs)(hh:∀t∈ts,Qds b t)(hc:∀x∈ts,∀y∈ts,Comp (n+1) x y)(hlen:vs.length<1000000)
  (h:∀(p:List Nat),p.Perm (List.range vs.length)->((p.map fun i=>ts.getD i .non).Pairwise fun x y=>¬flat (n+1) y<flat (n+1) x) ->
   Q (.ref (s.heap.objs.size+1)) { s with heap:=sortedAll s.heap vs (List.toArray (p.map fun i=>vs.getD i Value.none)) }) :
  wpAny (model prog w) A (call (.builtin "sorted") [.ref l]) Q E s:=by
 have ln:ts.length=vs.length:=Xk hr
 have at':∀i,i<vs.length->∃x,x∈ts/\ts.getD i .non=x/\TrA prog w s.heap (n+1) x (vs.getD i Value.none):=fun i hi=>by
  obtain⟨u,e,ht⟩:=Paired.getR (Paired.mapP hr fun _ _ z=>z) (gE (show i<ts.length by lia))
  refine⟨ts[i],jXf _,by rw[jY,gE (show i<ts.length by lia)];rfl,?_⟩
  rw[jY,e]
  exact ht
 refine Qmr (κ:=Qsd prog w s.heap (n+1) ts) (kd:=tuples' b) hl (fun p hp=>?_) (fun A' s' hA k=>?_) (fun A' s' {Q' E'} k h0 hq=>?_) hlen fun p pp ps=>h p pp ?_
 .rw[Vd]at hp
  obtain⟨v,hv,rfl⟩:=zQ.mp hp
  obtain⟨i,hi,e⟩:=yZa.mp hv
  obtain⟨x,hx,_,hT⟩:=at' i hi
  rw[jY,gE hi]at hT
  rw[<-e]
  exact⟨_,Vq hx hT⟩
 .intro u v a c Q' E' ea ec q
  obtain⟨x,hx,hT,rfl⟩:=Jn ea
  obtain⟨y,hy,hT',rfl⟩:=Jn ec
  exact Qms Om (hT.same fun b o e _=>k b o e) (hT'.same fun b o e _=>k b o e) (hc x hx y hy) (hh x hx) (hh y hy) q
 .exact Qdu (Paired.mapP hr fun _ _ z=>z.same fun b o e _=>k b o e) hh h0 hq
 .rw[jYb]at ps⊢
  refine ps.imp_of_mem fun{i j} hi hj e=>?_
  have hi':i<vs.length:=yQ.mp (pp.mem_iff.mp hi)
  have hj':j<vs.length:=yQ.mp (pp.mem_iff.mp hj)
  obtain⟨x,hx,e1,hT⟩:=at' i hi'
  obtain⟨y,hy,e2,hT'⟩:=at' j hj'
  rw[e1,e2]
  have e:decide ((Qft prog w s.heap (n+1) ts (vs.getD j Value.none)).getD []<(Qft prog w s.heap (n+1) ts (vs.getD i Value.none)).getD [])=false:=e
  rw[Vq hx hT,Vq hy hT']at e
  exact of_decide_eq_false e
end
theorem Yq{α β:Type}{R:α->β->Prop}:∀{xs:List α} {us:List β},xs.length=us.length->(∀(i:Nat) x u,xs[i]?=some x->us[i]?=some u->R x u)->Paired R xs us
 |[],[],_,_=>.nil
 |[],_::_,e,_=>nomatch e
 |_::_,[],e,_=>nomatch e
 |x::xs,u::us,e,h=>.cons (h 0 x u rfl rfl) (Yq (Nat.succ.inj e) fun i x u e1 e2=>h (i+1) x u e1 e2)
theorem Qse{P:Program}{w:World}{k:Int}{t:Tok}:(intKind P w).is k (.int k t)=true:=by
 show Value.isInt k (.int k t)=true
 simp[Value.isInt]
section
variable{X:Cx}{pins:List (Addr×Obj)}{σ:St}{H:Hp}{s:Shared}
theorem Qmt(I:Inv X pins σ H s):∀{n:Nat} {x:D} {v:V} {u:Value},okT n x->HasD X.K H v x->RelV v u->TrA X.prog X.w s.heap n x u:=by
 intro n
 induction n with
 |zero=>
  intro x v u ht h r
  cases h with
  |int i=>obtain⟨t,rfl⟩:=r;exact trA_int.mpr Qse
  |non=>exact ht.elim
  |bl b=>exact ht.elim
  |tup _ _ _=>exact ht.elim
  |lst _ _ _=>exact ht.elim
 |succ n ih=>
  intro x v u ht h r
  cases h with
  |int i=>obtain⟨t,rfl⟩:=r;exact trA_int.mpr Qse
  |non=>exact ht.elim
  |bl b=>exact ht.elim
  |lst _ _ _=>exact ht.elim
  |@tup a vs xs hs hl he=>
   cases r
   obtain⟨its,rv,⟨o,e,c,m,d⟩,_⟩:=I.tuple hs
   refine⟨a,o,its.toArray,m,rfl,e,c,d,?_⟩
   rw[List.toList_toArray]
   refine Yq (by rw[<-hl];exact rv.length) fun i x u e1 e2=>?_
   obtain⟨v,ev⟩:∃v,vs[i]?=some v:=⟨_,gE (by have:=(jK.mp e1).1;lia)⟩
   obtain⟨u',eu,ru⟩:=Vals.get rv ev
   rw[e2]at eu
   cases eu
   exact ih (ht x (kY e1)) (he i v x ev e1) ru
end
theorem Yw{X:Cx}{K:Fg}(hK:X.K=K)(n:Nat)(b:Bool)(hu:X.A.units+n+6<cLine):Yc X (.builtin "sorted") (fun xs H Q=>∃(l:Addr) (vs:List V) (ts:List D),xs=[.ref l]/\SqL K H l vs/\Paired (HasD K H) vs ts/\vs.length<1000000/\(∀t∈ts,okT (n+1) t/\Qds b t)/\(∀x∈ts,∀y∈ts,Comp (n+1) x y) /\
  ∀(D':Addr) (p:List Nat),H D'=none->p.Perm (List.range vs.length)->((p.map fun i=>ts.getD i .non).Pairwise fun x y=>¬flat (n+1) y<flat (n+1) x)->Q (.ref D') (upd H D' (.lst (p.map fun i=>vs.getD i .non)))):=by
 subst hK
 intro pins s σ H xs us Q I rv h
 obtain⟨l,vs,ts,rfl,hq,hr,hz,hh,hc,q⟩:=h
 obtain⟨u,rfl,ru⟩:=rv.one
 cases ru
 obtain⟨its,r,p,_⟩:=I.list hq
 have lv:vs.length=its.length:=r.length
 have hr':Paired (TrA X.prog X.w s.heap (n+1)) ts its:=by
  have lt:=Paired.length hr
  refine Yq Om fun i x u e1 e2=>?_
  obtain⟨v,ev⟩:∃v,vs[i]?=some v:=⟨_,gE (by have:=(jK.mp e1).1;lia)⟩
  obtain⟨u',eu,ru⟩:=Vals.get r ev
  rw[e2]at eu
  cases eu
  obtain⟨x',ex,hx⟩:=Paired.getR hr ev
  rw[e1]at ex
  cases ex
  exact Qmt I (hh x (kY e1)).1 hx ru
 refine Qqb p.isList Om hr' (fun t ht=>(hh t ht).2) hc Om fun o h1 h2=>?_
 obtain⟨e,he⟩:=sortedAll_at s.heap its (List.toArray (o.map fun i=>its.getD i Value.none))
 have hm:(1000000:Nat)<sizeLine:=Dc
 have lo:o.length=vs.length:=by rw[h1.length_eq,kQ];lia
 rw[<-lv]at h1
 refine⟨.ref (s.heap.objs.size+1),_,I.laid (t':=s.toks) (o:=.lst (o.map fun i=>vs.getD i .non)) (fun b ob z=>sortedAll_old z) (kQe _) ⟨by rw[jX];lia,_,e,?_,he⟩,rfl,q _ _ (I.hok.fresh (kQe _)) h1 h2⟩
 exact Paired.pick r .non Value.none o fun i hi=>yQ.mp (h1.mem_iff.mp hi)
end L2
namespace L2
open PySem PySem.Spec PySem.W PyProof.Rows
theorem Jg(ns:List Int):flat 1 (.tup (ns.map D.int))=ns:=by
 show((ns.map D.int).map (flat 0)).flatten=ns
 rw[jQb]
 induction ns with
 |nil=>rfl
 |cons n ns ih=>rw[zW,jKb,ih];rfl
theorem Vr(r:Row):flat 2 (Nb.rowD r)=r.1++[r.2]:=by
 show flat 1 (.tup (r.1.map D.int))++(flat 1 (.int r.2)++[])=_
 rw[Jg,Qw];rfl
theorem Qav{x y:Row}(h:y.1.length=x.1.length):decide (flat 2 (Nb.rowD y)<flat 2 (Nb.rowD x))=Kl y x:=by
 rw[Vr,Vr]
 unfold Kl
 by_cases e:y.1=x.1
 .rw[if_pos e,e,Qhr,Va]
  by_cases e2:y.2=x.2
  .rw[if_pos e2,e2]
   simp
  .rw[if_neg e2]
 .rw[if_neg e,Qmo h e]
theorem Qmu{x y:Row}(h:x.1.length=y.1.length):Comp 2 (Nb.rowD x) (Nb.rowD y):=by
 have c1:Comp 1 (.tup (x.1.map D.int)) (.tup (y.1.map D.int)):=by
  refine⟨.inl (by rw[jX,jX,h]),fun i a b e1 e2=>?_⟩
  rw[jV]at e1 e2
  obtain⟨m,_,rfl⟩:=zV.mp e1
  obtain⟨k,_,rfl⟩:=zV.mp e2
  refine⟨trivial,fun e=>?_,?_⟩
  .rw[Qw,Qw]at e
   injection e with e
   rw[e]
  .rw[Qw,Qw]
   first | exact .inl rfl | exact rfl | (simp)
 refine⟨.inl rfl,fun i a b e1 e2=>?_⟩
 match i with
 |0=>
  cases e1
  cases e2
  refine⟨c1,fun e=>?_,?_⟩
  .rw[Jg,Jg]at e
   rw[e]
  .rw[Jg,Jg]
   first | exact .inl h | exact h
 |1=>
  cases e1
  cases e2
  refine⟨trivial,fun e=>?_,?_⟩
  .rw[Qw,Qw]at e
   injection e with e
   rw[e]
  .rw[Qw,Qw]
   first | exact .inl rfl | exact rfl | (simp)
 |i+2=>cases e1
theorem Ka{α β γ:Type}{R:α->β->Prop}{S:α->γ->Prop}{f:β->γ}:∀{xs:List α} {ys:List β},Paired R xs ys->(∀a b,R a b->S a (f b))->Paired S xs (ys.map f)
 |_,_,.nil,_=>.nil
 |_,_,.cons h t,g=>.cons (g _ _ h) (Ka t g)
theorem Yx{X:Cx}{K:Fg}(hK:X.K=K)(hu:X.A.units+7<cLine):Yc X (.builtin "sorted") (fun xs H Q=>∃(l:Addr) (vs:List V) (rs:List Row) (n:Nat),xs=[.ref l]/\SqL K H l vs/\Nb.RowsAre K H vs rs/\vs.length<=1000/\(∀r∈rs,r.1.length=n) /\
  ∀(D:Addr) (ws:List V) (qs:List Row),H D=none->Nb.RowsAre K H ws qs->ws.length=vs.length->qs.Perm rs->qs.Pairwise (fun x y=>Kl y x=false)->Q (.ref D) (upd H D (.lst ws))):=by
 intro pins s σ H xs us Q I rv h
 obtain⟨l,vs,rs,n,hx,hq,hr,hz,hn,q⟩:=h
 have lr:=Nb.RowsAre.length hr
 refine Yw hK 1 false Om pins s σ H xs us Q I rv ⟨l,vs,rs.map Nb.rowD,hx,hq,?_,Om,fun t ht=>?_,fun x hx y hy=>?_,fun D p hD pp so=>?_⟩
 .exact Ka (show Paired _ vs rs from hr) fun a r ⟨t,e,z⟩=>by rw[e];exact Nb.RowAt.hasD z
 .obtain⟨r,_,rfl⟩:=zQ.mp ht
  refine⟨fun x hx=>?_,_,_,rfl,?_⟩
  .rcases yY.mp hx with rfl | hx
   .exact fun y hy=>by obtain⟨k,_,rfl⟩:=zQ.mp hy;trivial
   .rw[kW.mp hx];trivial
  .rw[if_neg Dc];exact⟨_,rfl⟩
 .obtain⟨r,hr1,rfl⟩:=zQ.mp hx
  obtain⟨r',hr2,rfl⟩:=zQ.mp hy
  exact Qmu ((hn r hr1).trans (hn r' hr2).symm)
 .have plt:∀i∈p,i<vs.length:=fun i hi=>yQ.mp (pp.mem_iff.mp hi)
  have lp:p.length=vs.length:=by rw[pp.length_eq,kQ]
  have e0:∀i∈p,(rs.map Nb.rowD).getD i .non=Nb.rowD (rs.getD i ([],0)):=fun i hi=>by
   have:=plt i hi
   rw[jY,jY,jV,gE Om];rfl
  have hm:∀i∈p,rs.getD i ([],0)∈rs:=fun i hi=>by
   have:=plt i hi
   rw[jY,gE (show i<rs.length by lia)]
   exact jXf _
  refine q D _ (p.map fun i=>rs.getD i ([],0)) hD ?_ (by rw[jX,lp]) ?_ ?_
  .exact Paired.pick hr .non ([],0) p plt
  .refine(pp.map _).trans (.of_eq ?_)
   rw[lr]
   exact Xb rs ([],0)
  .rw[jYb]at so⊢
   refine List.Pairwise.imp_of_mem (fun{a b} ha hb h=>?_) so
   rw[e0 a ha,e0 b hb]at h
   rw[<-Qav (by rw[hn _ (hm a ha),hn _ (hm b hb)])]
   exact wQ h
end L2
namespace Nb
open PySem L2
abbrev Kv:Stmt:=top 21
section
variable{P:Program}{w:World}{K:Fg}{mg:Str->Option Value}{base:Heap}
theorem Qmv{cs:List Int}{t:List Nat}{n:Nat}(hl:cs.length=n):((List.range n).map fun k=>cs.getD (t.getD k 0) 0)=cs↔Qdk cs t n:=by
 have g:∀k,k<n->((List.range n).map fun k=>cs.getD (t.getD k 0) 0).getD k 0=cs.getD (t.getD k 0) 0:=fun k hk=>by
  rw[jY,jV,xY hk];rfl
 constructor
 .intro h k hk
  have:=g k hk
  rw[h]at this
  exact this
 .intro h
  refine Qpr (by rw[jX,kQ,hl]) fun k hk=>?_
  rw[jX,kQ]at hk
  rw[g k hk,h k hk]
theorem Qqc{xs ys:List Int}:(D.lst (xs.map .int)=D.lst (ys.map .int))↔xs=ys:=by
 constructor
 .intro h
  injection h with h
  exact Ko (fun a b e=>by injection e) h
 .rintro rfl;rfl
theorem Qmw:FnScope ["_law_problem_here","_law_turn"] ["_law_problem_here","_law_turn"] (Qh Kv):=⟨rfl,rfl,rfl,Dk,rfl,Dk,Dk⟩
theorem Qmx(F:Fn K mg "_law_keeps" Kv)(M:Mg mg)(cl_led:Cal P w K mg base 1 "_law_led" ["_law_row_here","_law_turn"] (Kk K)):Cal P w K mg base 2 "_law_keeps" ["_law_problem_here","_law_turn"] (spKT K):=by
 refine Xy F Qmw (fun _ _ _ _ _ _=>Vn (fun _ _=>rfl)) (fun vs H Q E h=>?_) (fun f cdv A outer s H vs Q E hr h=>?_)
 .obtain⟨p,u,rs,cs,n,t,rfl,_⟩:=h
  rfl
 obtain⟨p,u,rs,cs,n,t,rfl,pr,hu1,T,hn,hrl,hcl,h60,q⟩:=h
 have hu6:(A.deeper (PyProof.Rows.envOfC "_law_keeps" (Qh Kv) s.heap.objs.size f cdv)).units+6<cLine:=xX (xZ Dc _) hr.un
 refine⟨_,(Qg (Zn (Xc (Qcy (n:=6) hu6) (Zy ["_law_place","_law_problem_here"] [none,some 0] rfl (Xj (pv 1)) (fun _ _ _=>(Qz (i:=0) (show(["_law_place","_law_problem_here"]:List Str).Nodup by decide +kernel) rfl (Or.inl rfl) (Or.inr rfl))) (fun _ _ _=>Ye) (fun _ _ _=>(Qu (Zr (K:=K) rfl) (Qu (Zr (K:=K) rfl) (pv 1) Qj (fun _ _=>rfl)) (pv 0) (fun _ _=>rfl)))) (Qt Yo rfl M.list_ Ja (Qa (Qu Qy (pv 0) Qj (fun _ _=>rfl)) Qf)) (Xf _)) (Qm (Qs Qaf)) Xi)
  (Qm (Qs (Zz (Qrr (n:=6) hu6) (Qn (Yx (K:=K) rfl (xX (xZ Dc _) hr.un)) rfl M.sorted Xq (Qa (Zy ["_law_row_here","_law_turn"] [none,some 1] rfl (Xj (Qu Qy (pv 0) Qj (fun _ _=>rfl))) (fun _ _ _=>(Qz (i:=0) (show(["_law_row_here","_law_turn"]:List Str).Nodup by decide +kernel) rfl (Or.inl rfl) (Or.inr rfl))) (fun _ _ _=>Ye) (fun _ _ _=>(Xp cl_led (hr.mono Dc) (Qa (pv 0) (Qa (pv 1) Qf))))) Qf)) (Qn (Yx (K:=K) rfl (xX (xZ Dc _) hr.un)) rfl M.sorted Xq (Qa (Qu Qy (pv 0) Qj (fun _ _=>rfl)) Qf)) (Xf _))))),?_⟩
 have hz:(1000:Nat)<sizeLine:=Dc
 obtain⟨l,c,vs,ht,hl,hrw,hc⟩:=id pr
 have lt:=T.length
 have lv:=hrw.length
 have lT:((tI t).map V.int).length=n:=by rw[jX,Yk];exact lt
 refine⟨_,rfl,u,rfl,⟨_,hu1⟩,fun D hD=>?_⟩
 let Pv6:Nat->St->List V->Hp->Prop:=fun i τ ys H1=>∃v:Option V,τ=[v,some (.ref p)]/\ys=((List.range i).map fun k=>cs.getD (t.getD k 0) 0).map V.int/\H1 D=some (.lst ys)/\Same H H1
 refine Zx (n:=n) Pv6 ?_ (fun i τ ys H1 hi h=>?_) (fun i τ ys H1 hi h=>?_) (fun τ ys H1 h=>?_) ?_ ?_
 .exact⟨none,rfl,rfl,Qb,Qc hD _⟩
 .obtain⟨v,rfl,rfl,hD1,s1⟩:=h
  exact⟨hD1,by rw[jX,jX,kQ];lia⟩
 .obtain⟨v,rfl,rfl,hD1,s1⟩:=h
  exact⟨_,_,s1.seq hu1,gE Om⟩
 .obtain⟨v,rfl,rfl,hD1,s1⟩:=h
  exact⟨_,s1.seq hu1,Om⟩
 .rintro i τ ys H1 x H2 hi ⟨v,rfl,rfl,hD1,s1⟩ ⟨rfl,e1⟩
  obtain⟨x,ex,rfl⟩:=Ze (e1 _ (s1.seq hu1))
  obtain⟨k,ek,rfl⟩:=Qth ex
  refine⟨_,rfl,p,_,_,_,rfl,rfl,s1.tup ht,at1,_,rfl,c,_,_,_,rfl,rfl,s1.tup hc,atK6 (by have:=T.lt ek;lia),hD1,_,rfl,?_,Qb,fun b o e=>?_⟩
  .rw[kZb,zK,zK,zW,zW,yZf,Qhi ek]
   rfl
  .rw[Qk (Ql e hD)];exact s1 _ _ e
 rintro τ ys H1 ⟨v,rfl,rfl,hD1,s1⟩
 refine⟨_,rfl,p,_,_,_,rfl,rfl,s1.tup ht,at1,c,_,rfl,.inr (s1.tup hc),fun L hL=>?_⟩
 have s2:=s1.trans (Qc hL (.lst (cs.map V.int)))
 have hD2:=Qc hL (.lst (cs.map V.int)) _ _ hD1
 have hL2:upd H1 L (.lst (cs.map V.int)) L=some (.lst (cs.map V.int)):=Qb
 generalize upd H1 L (.lst (cs.map V.int))=H2 at s2 hD2 hL2⊢
 refine⟨D,L,_,_,rfl,rfl,lstD (Qi hD2),lstD (Qi hL2),Qhc _ _,fun b hb=>⟨_,rfl,?_⟩⟩
 rw[Qqc,Qmv hcl]at hb
 cases b with
 |false=>exact iteT (q false H2 s2 ⟨fun z=>(nomatch z),fun z=>absurd (hb.mpr z.1) (by intro w;cases w)⟩)
 |true=>
  have ok:=hb.mp rfl
  refine iteF ⟨_,rfl,p,_,_,_,rfl,rfl,s2.tup ht,at0,l,rfl,⟨_,s2.seq hl⟩,fun D2 hD2=>?_⟩
  let Pv7:Nat->St->List V->Hp->Prop:=fun i τ ys H3=>∃v:Option V,τ=[v,some (.ref u)]/\RowsAre K H3 ys ((rs.take i).map (ledR t n))/\H3 D2=some (.lst ys)/\Same H2 H3
  refine Zx (n:=rs.length) Pv7 ?_ (fun i τ ys H3 hi h=>?_) (fun i τ ys H3 hi h=>?_) (fun τ ys H3 h=>?_) ?_ ?_
  .exact⟨none,rfl,.nil,Qb,Qc hD2 _⟩
  .obtain⟨v,rfl,hra,hD3,s3⟩:=h
   have:=hra.length
   rw[jX,wZ]at this
   exact⟨hD3,Om⟩
  .obtain⟨v,rfl,hra,hD3,s3⟩:=h
   exact⟨vs,vs[i]'Om,(s2.trans s3).seq hl,gE Om⟩
  .obtain⟨v,rfl,hra,hD3,s3⟩:=h
   exact⟨vs,(s2.trans s3).seq hl,Om⟩
  .rintro i τ ys H3 x H4 hi ⟨v,rfl,hra,hD3,s3⟩ ⟨rfl,e1⟩
   obtain⟨t',r,rfl,er,hrt⟩:=hrw.get (e1 _ ((s2.trans s3).seq hl))
   refine⟨_,rfl,_,rfl,t',u,r,n,t,rfl,hrt.same (s2.trans s3),(s2.trans s3).seq hu1,T,hrl r (kY er),Om,fun r' H5 s5 rr=>?_⟩
   have hD5:=s5 _ _ hD3
   refine⟨hD5,_,rfl,?_,Qb,fun b o e=>?_⟩
   .rw[Qbn er,zK]
    exact Wj (Wl hD5 (Xg s5 hra)) (rr.upd hD5)
   .rw[Qk (Ql e hD2)];exact s5 _ _ (s3 _ _ e)
  rintro τ ys H3 ⟨v,rfl,hra,hD3,s3⟩
  rw[wW]at hra
  have ly:=hra.length
  rw[jX]at ly
  have s23:=s2.trans s3
  refine⟨D2,ys,_,n,rfl,Qi hD3,hra,Om,(fun r hr=>by obtain⟨r0,_,rfl⟩:=zQ.mp hr;exact Qbp T _),fun S ws qs hS hws lws pq sq=>?_⟩
  have s4:=Qc hS (.lst ws)
  refine⟨_,rfl,p,_,_,_,rfl,rfl,(s23.trans s4).tup ht,at0,l,vs,rs,n,rfl,(s23.trans s4).seq hl,Xg (s23.trans s4) hrw,Om,hrl,fun S2 ws2 qs2 hS2 hws2 lws2 pq2 sq2=>?_⟩
  have s5:=Qc hS2 (.lst ws2)
  refine⟨S,S2,_,_,rfl,rfl,RowsAre.hasD (Qi (s5 _ _ Qb)) (Xg (s4.trans s5) hws),RowsAre.hasD (Qi Qb) (Xg s5 hws2),We qs qs2,fun c hc=>q c _ ((s23.trans s4).trans s5) ?_⟩
  rw[hc,Qdl]
  constructor
  .rintro rfl
   exact⟨ok,pq.symm.trans pq2⟩
  .intro h
   exact Jk (pq.trans (h.2.trans pq2.symm)) sq sq2
abbrev sIsT:Stmt:=top 24
theorem Qmy(n:Nat):(List.replicate n true).all id=true:=by
 rw[kZf]
 intro x hx
 rw[(List.mem_replicate.mp hx).2]
 rfl
theorem Qfu{xs ys:List Int}(p:xs.Perm ys)(h1:xs.Pairwise (·<=·))(h2:ys.Pairwise (·<=·)):xs=ys:=List.Perm.eq_of_pairwise (le:=(·<=·)) (fun a b _ _ h h'=>Int.le_antisymm h h') h1 h2 p
def spIsT(K:Fg):Sp:=fun vs H Q _=>∃(p u:Addr) (i j:Nat) (rs:List Row) (cs:List Int) (n:Nat) (t:List Nat),vs=[.ref p,.int (i:Nat),.int (j:Nat),.ref u]/\ProbAt K H p rs cs/\SqL K H u ((tI t).map V.int)/\IsTurn n t/\n<=10/\cs.length=n/\(∀r∈rs,r.1.length=n)/\rs.length<=1000/\i<n/\Yp rs cs t n/\t.getD i 0=j/\∀H',Same H H'->Q (.bl true) H'
theorem scIsT:FnScope ["_law_problem_here","_law_one","_law_other","_law_found"] ["_law_problem_here","_law_one","_law_other","_law_found"] (Qh sIsT):=⟨rfl,rfl,rfl,Dk,rfl,Dk,Dk⟩
theorem okIsT(F:Fn K mg "_law_is_turn" sIsT)(M:Mg mg)(cl_whole:Cal P w K mg base 1 "_law_whole" ["_law_found"] (Qli))(cl_keeps:Cal P w K mg base 2 "_law_keeps" ["_law_problem_here","_law_turn"] (spKT K)):Cal P w K mg base 3 "_law_is_turn" ["_law_problem_here","_law_one","_law_other","_law_found"] (spIsT K):=by
 refine Xy F scIsT (fun _ _ _ _ _ _=>Qtk (fun _ _ _ _=>rfl)) (fun vs H Q E h=>?_) (fun f cdv A outer s H vs Q E hr h=>?_)
 .obtain⟨p,u,i,j,rs,cs,n,t,rfl,_⟩:=h
  rfl
 obtain⟨p,u,i,j,rs,cs,n,t,rfl,pr,huT,T,hn,hcl,hrl,hrs,hi,kt,ej,q⟩:=h
 have hu6:(A.deeper (PyProof.Rows.envOfC "_law_is_turn" (Qh sIsT) s.heap.objs.size f cdv)).units+6<cLine:=xX (xZ Dc _) hr.un
 refine⟨_,(Qg (Zn (PW.pt (Qok (Qjv (Vl (Qn Qlo rfl M.isinstance Zq (Qa (pv 3) (Qa (Qsz M.list_ Ja) Qf))))) (Qgi (Qjv (Vl (Qn (Qkz rfl) rfl M.all bt_all (Qa (Zy ["_law_place"] [none] rfl (Xj (pv 3)) (fun _ _ _=>(Qz (i:=0) (show(["_law_place"]:List Str).Nodup by decide +kernel) rfl (Or.inl rfl) (Or.inr rfl))) (fun _ _ _=>Ye) (fun _ _ _=>(Xp cl_whole (hr.mono Dc) (Qa (pv 0) Qf)))) Qf))))))) (Qm (Qs Qaf)) Xi)
  (Qg (Zn (Xc (Qcy (n:=6) hu6) (Qn (Qdj (K:=K) rfl) rfl M.sorted Xq (Qa (pv 3) Qf)) (Qt (Kg rfl) rfl M.list_ Ja (Qa (Qgu M.range_ (Qa (Qn Xa rfl M.len Zj (Qa (Qu Qy (pv 0) Qj (fun _ _=>rfl)) Qf)) Qf)) Qf)) (Xf _)) (Qm (Qs Qaf)) Xi)
  (Qm (Qs (Qch (Zz Qeu (Qu Xn (pv 3) (pv 1) (fun _ _=>rfl)) (pv 2) (Xf _)) (Qcg (Xp cl_keeps (hr.mono Dc) (Qa (pv 0) (Qa (pv 3) Qf))))))))),?_⟩
 have hz:(1000:Nat)<sizeLine:=Dc
 obtain⟨l,cc,vs,h1,h2,h3,h4⟩:=id pr
 have lt:=T.length
 refine⟨_,rfl,_,"list",true,rfl,.list,.inr ⟨⟨_,huT⟩,rfl⟩,_,rfl,iteF ⟨_,rfl,u,rfl,⟨_,huT⟩,fun E' hE=>?_⟩⟩
 let Pv8:Nat->St->List V->Hp->Prop:=fun m τ ys H6=>∃x:Option V,τ=[x]/\ys=(List.replicate m true).map V.bl/\H6 E'=some (.lst ys)/\Same H H6
 refine Zx (n:=(tI t).length) Pv8 ?_ (fun m τ ys H6 hm h=>?_) (fun m τ ys H6 hm h=>?_) (fun τ ys H6 h=>?_) ?_ ?_
 .exact⟨none,rfl,rfl,Qb,Qc hE _⟩
 .obtain⟨x,rfl,rfl,hE6,s6⟩:=h
  rw[Yk]at hm
  exact⟨hE6,by rw[jX,yYa];lia⟩
 .obtain⟨x,rfl,rfl,hE6,s6⟩:=h
  exact⟨_,.int (tI t)[m],s6.seq huT,by rw[jV,gE hm];rfl⟩
 .obtain⟨x,rfl,rfl,hE6,s6⟩:=h
  exact⟨_,s6.seq huT,by rw[jX];exact jW _⟩
 .rintro m τ ys H6 x H7 hm ⟨x',rfl,rfl,hE6,s6⟩ ⟨rfl,e1⟩
  obtain⟨z,ez,rfl⟩:=Ze (e1 _ (s6.seq huT))
  refine⟨_,rfl,z,rfl,hE6,_,rfl,?_,Qb,fun b o e=>?_⟩
  .rw[zXd,zK];rfl
  .rw[Qk (Ql e hE)];exact s6 _ _ e
 rintro τ ys H6 ⟨x,rfl,rfl,hE6,s6⟩
 refine⟨E',_,rfl,Qi hE6,_,rfl,?_⟩
 rw[Qmy]
 refine iteF ⟨_,rfl,u,tI t,rfl,s6.seq huT,by rw[Yk];lia,fun S qs hS pq sq=>?_⟩
 have sS:=Qc hS (.lst (qs.map V.int))
 have eS:upd H6 S (.lst (qs.map V.int)) S=some (.lst (qs.map V.int)):=Qb
 generalize upd H6 S (.lst (qs.map V.int))=H7 at sS eS⊢
 have s7:=s6.trans sS
 refine⟨_,rfl,p,_,_,_,rfl,rfl,s7.tup h1,at1,cc,_,rfl,.inr (s7.tup h4),?_⟩
 rw[jX,hcl]
 refine⟨_,rfl,fun R hR=>⟨R,_,rfl,Qb,Om,Om,fun L hL=>?_⟩⟩
 have sR:=Qc hR (.rng 0 ((n:Nat):Int))
 have sL:=Qc hL (.lst ((List.range ((n:Nat):Int).toNat).map fun i=>V.int (i:Nat)))
 have eL:upd (upd H7 R (.rng 0 ((n:Nat):Int))) L (.lst ((List.range ((n:Nat):Int).toNat).map fun i=>V.int (i:Nat))) L=some (.lst ((tI (List.range n)).map V.int)):=by
  rw[Qb,jQe];unfold tI;rw[jQb];rfl
 have s8:=s7.trans (sR.trans sL)
 have eS:=(sR.trans sL) _ _ eS
 generalize upd (upd H7 R (.rng 0 ((n:Nat):Int))) L (.lst ((List.range ((n:Nat):Int).toNat).map fun i=>V.int (i:Nat)))=H8 at s8 eS eL⊢
 have e0:qs=tI (List.range n):=by
  refine Qfu (pq.trans (T.perm.map _)) sq ?_
  exact jYb.mpr (yXe.imp fun h=>Om)
 refine⟨S,L,_,_,rfl,rfl,Qlw (Qi eS),Qlw (Qi eL),Qhc _ _,fun c hc=>⟨_,rfl,?_⟩⟩
 rw[hc.mpr (by rw[e0])]
 have et:(tI t)[i]?=some ((t.getD i 0:Nat):Int):=by
  unfold tI
  rw[jV,(getT T hi).1];rfl
 refine iteF ⟨_,rfl,_,rfl,u,_,_,_,rfl,rfl,s8.seq huT,Ky (by rw[jV,et];rfl),_,rfl,rfl,_,rfl,?_⟩
 rw[ej,xW rfl]
 exact iteT ⟨_,rfl,_,rfl,p,u,rs,cs,n,t,rfl,pr.same s8,s8.seq huT,T,Om,hrl,hcl,hrs,fun b H9 s9 hb=>by rw[hb.mpr kt];exact q H9 (s8.trans s9)⟩
abbrev sOrd:Stmt:=top 23
def TrnsA(K:Fg)(H:Hp)(g:Addr)(n:Nat)(us:List V):Prop:=∀v∈us,∃(a:Addr) (t:List Nat),v=.ref a/\a≠g/\H a=some (.lst ((tI t).map V.int))/\IsTurn n t
theorem TrnsA.same{K:Fg}{H H':Hp}{g:Addr}{n:Nat}{us:List V}(h:TrnsA K H g n us)(s:Same H H'):TrnsA K H' g n us:=fun v hv=>let ⟨a,t,e,ne,h1,h2⟩:=h v hv;⟨a,t,e,ne,s _ _ h1,h2⟩
theorem TrnsA.upd{K:Fg}{H:Hp}{g:Addr}{n:Nat}{us xs:List V}(h:TrnsA K H g n us):TrnsA K (upd H g (.lst xs)) g n us:=fun v hv=>let ⟨a,t,e,ne,h1,h2⟩:=h v hv;⟨a,t,e,ne,by rw[Qk ne];exact h1,h2⟩
theorem cut_to{xs:List V}{k:Nat}(h:k<=xs.length):cutV xs none (some ((k:Nat):Int))=xs.take k:=by
 unfold cutV
 have e1:HT.sIx xs.length 0 none=0:=rfl
 have e2:HT.sIx xs.length xs.length (some ((k:Nat):Int))=k:=by
  show(if ((k:Nat):Int)<0 then(((k:Nat):Int)+((xs.length:Nat):Int)).toNat else min ((k:Nat):Int).toNat xs.length)=k
  rw[if_neg Om]
  lia
 rw[e1,e2,List.drop_zero,Nat.sub_zero]
theorem Qqd{xs:List V}{k:Nat}(h:k<=xs.length):cutV xs (some ((k:Nat):Int)) none=xs.drop k:=by
 unfold cutV
 have e1:HT.sIx xs.length 0 (some ((k:Nat):Int))=k:=by
  show(if ((k:Nat):Int)<0 then(((k:Nat):Int)+((xs.length:Nat):Int)).toNat else min ((k:Nat):Int).toNat xs.length)=k
  rw[if_neg Om]
  lia
 have e2:HT.sIx xs.length xs.length none=xs.length:=rfl
 rw[e1,e2]
 exact jKc (by rw[kZe];exact jW _)
theorem Qqe{k j:Nat}{t:List Nat}(T:IsTurn k t)(h:j<=k):IsTurn (k+1) (t.take j++[k]++t.drop j):=by
 refine⟨?_⟩
 rw[kZb,kZ]
 refine .trans ?_ (T.perm.append_right [k])
 conv=>rhs;rw[<-jZb j t]
 rw[kZ]
 exact(jXb).append_left _
def spOrd(K:Fg):Sp:=fun vs H Q _=>∃(n:Nat),vs=[.int (n:Nat)]/\n<=5/\∀(d:Addr) (us:List V) (H':Hp),Same H H'->H' d=some (.lst us)->TrnsA K H' d n us->us.length<=5000->Q (.ref d) H'
theorem scOrd:FnScope ["_law_many","_law_found","_law_k","_law_more","_law_order","_law_at"] ["_law_many"] (Qh sOrd):=⟨rfl,rfl,rfl,Dk,rfl,Dk,Dk⟩
theorem okOrd(F:Fn K mg "_law_orders" sOrd)(M:Mg mg):Cal P w K mg base 1 "_law_orders" ["_law_many"] (spOrd K):=by
 refine Xy F scOrd (fun _ _ _ _ _ _=>bind1 (fun _=>rfl)) (fun vs H Q E h=>?_) (fun f cdv A outer s H vs Q E hr h=>?_)
 .obtain⟨n,rfl,_⟩:=h
  rfl
 obtain⟨n,rfl,hn,q⟩:=h
 have hu:(A.deeper (PyProof.Rows.envOfC "_law_orders" (Qh sOrd) s.heap.objs.size f cdv)).units+1<cLine:=xX (xZ Dc _) hr.un
 refine⟨_,(Qg (Qo (i:=1) scOrd.nd rfl (Or.inl rfl) (Yj (Qa (Yj Qf) Qf)))
  (Qg (Yb PassesOwn.never rfl (Ya rfl M.range_ (Qa (pv 0) Qf)) (Qz (i:=2) scOrd.nd rfl (Or.inl rfl) (Or.inl rfl)) (Qg (Qo (i:=3) scOrd.nd rfl (Or.inl rfl) (Yj Qf))
  (Qg (Yb PassesOwn.never rfl (Xj (pv 1)) (Qz (i:=4) scOrd.nd rfl (Or.inl rfl) (Or.inl rfl)) (Qm (Yb PassesOwn.never rfl (Ya rfl M.range_ (Qa (Qx Yi (pv 2) Qj) Qf)) (Qz (i:=5) scOrd.nd rfl (Or.inl rfl) (Or.inl rfl)) (Qm (Zb (Vm PySem.F.plainAttrs_list PySem.F.slot_list_append PySem.F.type_list_append Xo (pv 3) (Qa (Qx Qkn (Qx Qkn (Qgp Qkm (pv 4) Qki (Qkj (pv 5))) (Yj (Qa (pv 2) Qf))) (Qgp Qkm (pv 4) (Qkj (pv 5)) Qki)) Qf)))))))
  (Qm (Qo (i:=1) scOrd.nd rfl (Or.inl rfl) (pv 3))))))
  (Qm (Qs (pv 1))))),?_⟩
 refine Yu ?_
 intro rT3 rT2
 have hz:(1000:Nat)<sizeLine:=Dc
 have hm:(1000000:Nat)<sizeLine:=Dc
 refine⟨by show 0<=sizeLine;decide,fun a0 ha0=>⟨by show 1<=sizeLine;decide,fun f0 hf0=>?_⟩⟩
 have s0:=(Qc ha0 (.lst [])).trans (Qc hf0 (.lst [V.ref a0]))
 have n0:a0≠f0:=fun z=>by rw[z,Qb]at hf0;cases hf0
 have e0:upd (upd H a0 (.lst [])) f0 (.lst [V.ref a0]) a0=some (.lst []):=by rw[Qk n0];exact Qb
 have f1:upd (upd H a0 (.lst [])) f0 (.lst [V.ref a0]) f0=some (.lst [V.ref a0]):=Qb
 generalize upd (upd H a0 (.lst [])) f0 (.lst [V.ref a0])=H0 at s0 e0 f1⊢
 let Pv9:Nat->St->Hp->Prop:=fun k σ H1=>∃(g:Addr) (us:List V) (x y z w:Option V),σ=[some (.int (n:Nat)),some (.ref g),x,y,z,w]/\H1 g=some (.lst us)/\TrnsA K H1 g k us/\us.length<=5 ^ k/\Same H H1
 refine⟨_,rfl,(n:Nat),rfl,Om,Om,Yn (lo:=0) (n:=((n:Nat):Int).toNat) Pv9 ⟨f0,[V.ref a0],none,none,none,none,rfl,f1,(fun v hv=>by rw[kW.mp hv];exact⟨a0,[],rfl,n0,e0,⟨.refl _⟩⟩),(by show 1<=1;decide),s0⟩ ?_ ?_⟩
 .rintro k σ H1 hk ⟨g,us,x,y,z,w,rfl,h1,h2,h3,s1⟩
  rw[Int.zero_add]
  have hk5:k<5:=Om
  refine⟨by show 0<=sizeLine;decide,fun m hm=>?_⟩
  have sm:=Qc hm (.lst [])
  have em:upd H1 m (.lst []) m=some (.lst []):=Qb
  have ngm:g≠m:=Ql h1 hm
  have h1m:=sm _ _ h1
  have h2m:=h2.same sm
  have mfr:∀v∈us,v≠.ref m:=fun v hv e=>by
   obtain⟨a,t,e1,_,e2,_⟩:=h2 v hv
   rw[e]at e1
   cases e1
   rw[e2]at hm;cases hm
  generalize hH2:upd H1 m (.lst [])=H2 at sm em h1m h2m⊢
  have fr:∀b o,H1 b=some o->b≠m:=fun b o e=>Ql e hm
  have pw:(5:Nat) ^ k<=5 ^ 4:=kKe Dc Om
  have lus:us.length<=625:=jQd h3 pw
  let Pv10:Nat->St->Hp->Prop:=fun i σ H3=>∃(ws:List V) (x y:Option V),σ=[some (.int (n:Nat)),some (.ref g),some (.int (k:Nat)),some (.ref m),x,y]/\H3 g=some (.lst us)/\TrnsA K H3 g k us/\H3 m=some (.lst ws)/\TrnsA K H3 m (k+1) ws/\ws.length<=i*(k+1)/\Same H1 H3
  refine⟨_,rfl,g,rfl,⟨_,Qi h1m⟩,Kd (K:=K) (a:=g) (xs:=us) Pv10 ⟨[],_,_,rfl,h1m,h2m,em,(fun _ z=>nomatch z),by simp,sm⟩ (fun i σ H3 _ h=>?_) ?_ ?_⟩
  .obtain⟨ws,x,y,rfl,a1,a2,a3,a4,a5,s3⟩:=h
   exact Qi a1
  .rintro i v σ H3 ev ⟨ws,x,y,rfl,a1,a2,a3,a4,a5,s3⟩
   have hv:=kY ev
   have hi:=(jK.mp ev).1
   refine⟨_,rfl,_,_,rfl,rfl,((k:Nat):Int)+1,rfl,Om,Om,Yn (lo:=0) (n:=(((k:Nat):Int)+1).toNat) (fun j σ H4=>∃(ws:List V) (y:Option V),σ=[some (.int (n:Nat)),some (.ref g),some (.int (k:Nat)),some (.ref m),some v,y]/\H4 g=some (.lst us)/\TrnsA K H4 g k us/\H4 m=some (.lst ws)/\TrnsA K H4 m (k+1) ws/\ws.length<=i*(k+1)+j/\Same H1 H4) ⟨ws,_,rfl,a1,a2,a3,a4,a5,s3⟩ ?_ ?_⟩
   .rintro j σ H4 hj ⟨ws,y,rfl,a1,a2,a3,a4,a5,s3⟩
    rw[Int.zero_add]
    have hj':j<=k:=Om
    have tms:i*(k+1)<=625*5:=Nat.mul_le_mul Om Om
    obtain⟨a,t,rfl,nag,ha,T⟩:=a2 v hv
    have lt:=T.length
    have lV:((tI t).map V.int).length=k:=by rw[jX,Yk];exact lt
    refine⟨_,rfl,.inl ⟨rfl,_,Qi a3⟩,_,rfl,_,rfl,_,rfl,a,_,rfl,Qi ha,fun p1 q1=>?_⟩
    rw[cut_to Om]
    have s4:=Qc q1 (.lst (((tI t).map V.int).take j))
    have e1:upd H4 p1 (.lst (((tI t).map V.int).take j)) p1=some (.lst (((tI t).map V.int).take j)):=Qb
    generalize upd H4 p1 (.lst (((tI t).map V.int).take j))=H5 at s4 e1⊢
    refine⟨_,rfl,by show 1<=sizeLine;decide,fun p2 q2=>?_⟩
    have sp2:=Qc q2 (.lst [V.int (k:Nat)])
    have e2:upd H5 p2 (.lst [V.int (k:Nat)]) p2=some (.lst [V.int (k:Nat)]):=Qb
    have e1:=sp2 _ _ e1
    have s5:=s4.trans sp2
    generalize upd H5 p2 (.lst [V.int (k:Nat)])=H6 at s5 e1 e2⊢
    have l1:(((tI t).map V.int).take j).length<=5:=by rw[wZ];lia
    refine⟨p1,p2,_,_,rfl,rfl,e1,e2,by show _+1<=sizeLine;lia,fun p3 q3=>?_⟩
    have sp3:=Qc q3 (.lst (((tI t).map V.int).take j++[V.int (k:Nat)]))
    have e3:upd H6 p3 (.lst (((tI t).map V.int).take j++[V.int (k:Nat)])) p3=some (.lst (((tI t).map V.int).take j++[V.int (k:Nat)])):=Qb
    have s6:=s5.trans sp3
    generalize upd H6 p3 (.lst (((tI t).map V.int).take j++[V.int (k:Nat)]))=H7 at s6 e3⊢
    refine⟨_,rfl,_,rfl,_,rfl,a,_,rfl,Qi (s6 _ _ ha),fun p4 q4=>?_⟩
    rw[Qqd Om]
    have sp4:=Qc q4 (.lst (((tI t).map V.int).drop j))
    have e4:upd H7 p4 (.lst (((tI t).map V.int).drop j)) p4=some (.lst (((tI t).map V.int).drop j)):=Qb
    have e3:=sp4 _ _ e3
    have s7:=s6.trans sp4
    generalize upd H7 p4 (.lst (((tI t).map V.int).drop j))=H8 at s7 e3 e4⊢
    refine⟨p3,p4,_,_,rfl,rfl,e3,e4,by rw[yV,kZe];show _+1+_<=sizeLine;lia,fun p5 q5=>?_⟩
    have eq5:((tI t).map V.int).take j++[V.int (k:Nat)]++((tI t).map V.int).drop j=(tI (t.take j++[k]++t.drop j)).map V.int:=by
     unfold tI
     simp only[zK,List.map_take,List.map_drop,zW,yZf]
    rw[eq5]
    have sp5:=Qc q5 (.lst ((tI (t.take j++[k]++t.drop j)).map V.int))
    have e5:upd H8 p5 (.lst ((tI (t.take j++[k]++t.drop j)).map V.int)) p5=some (.lst ((tI (t.take j++[k]++t.drop j)).map V.int)):=Qb
    have s8:=s7.trans sp5
    have n5:p5≠m:=fun z=>by rw[z,s7 _ _ a3]at q5;cases q5
    generalize upd H8 p5 (.lst ((tI (t.take j++[k]++t.drop j)).map V.int))=H9 at s8 e5⊢
    have a3:=s8 _ _ a3
    refine⟨m,ws,_,rfl,rfl,a3,Om,⟨_,_,rfl,by rw[Qk ngm];exact s8 _ _ a1,fun u hu=>?_,Qb,fun u hu=>?_,by rw[yV];show _+1<=_;lia,fun b o e=>?_⟩⟩
    .obtain⟨a',t',e1,e2,e3,e4⟩:=(a2.same s8) u hu
     exact⟨a',t',e1,e2,by rw[Qk (fun z=>mfr u hu (by rw[e1,z]))];exact e3,e4⟩
    .rcases wX.mp hu with z | z
     .exact(a4.same s8).upd u z
     .rw[kW.mp z]
      exact⟨p5,_,rfl,n5,by rw[Qk n5];exact e5,Qqe T hj'⟩
    .rw[Qk (fr b o e)];exact s8 _ _ (s3 _ _ e)
   .rintro σ H4 ⟨ws,y,rfl,a1,a2,a3,a4,a5,s3⟩
    refine⟨ws,_,_,rfl,a1,a2,a3,a4,?_,s3⟩
    rw[show(((k:Nat):Int)+1).toNat=k+1 by lia]at a5
    rw[Nat.succ_mul]
    exact a5
  .rintro σ H3 ⟨ws,x,y,rfl,a1,a2,a3,a4,a5,s3⟩
   refine⟨_,rfl,m,ws,_,_,_,_,rfl,a3,a4,?_,s1.trans s3⟩
   refine jQd a5 ?_
   rw[yXf]
   exact Nat.mul_le_mul h3 Om
 .rintro σ H1 ⟨g,us,x,y,z,w,rfl,h1,h2,h3,s1⟩
  rw[show((n:Nat):Int).toNat=n from jQe n]at h2 h3
  have:(5:Nat) ^ n<=5 ^ 5:=kKe Dc hn
  exact⟨_,rfl,q g us H1 s1 h1 h2 Om⟩
end
end Nb
namespace L2
open PySem PySem.Spec PyProof.Rows PySem.SeqAt
noncomputable instance decD:DecidableEq D:=fun a b=>Classical.propDecidable (a=b)
def Qdv(c:Int)(ps:List (Int×Int)):D:=.tup [.int c,.tup (ps.map fun p=>.tup [.int p.1,.int p.2])]
structure LookS(k:D):Prop where
 ex:∃c ps,k=Qdv c ps
theorem LookS.ok{k:D}(h:LookS k):okT 3 k:=by
 obtain⟨c,ps,rfl⟩:=h.ex
 intro x hx
 simp only[yY,kXe,or_false]at hx
 rcases hx with rfl | rfl
 .exact True.intro
 .intro y hy
  obtain⟨p,_,rfl⟩:=zQ.mp hy
  intro z hz
  simp only[yY,kXe,or_false]at hz
  rcases hz with rfl | rfl<;>exact True.intro
theorem Qdw{n:Nat}{a b c d:D}(h1:Alike n a c)(h2:Alike n b d):Alike (n+1) (.tup [a,b]) (.tup [c,d]):=.tup fun i x y e1 e2=>by
 match i with
 |0=>cases e1;cases e2;exact h1
 |1=>cases e1;cases e2;exact h2
 |i+2=>cases e1
theorem LookS.alike{k j:D}(h:LookS k)(h':LookS j):Alike 3 k j:=by
 obtain⟨c,ps,rfl⟩:=h.ex
 obtain⟨c',ps',rfl⟩:=h'.ex
 refine Qdw (.int _ _) (.tup fun i x y e1 e2=>?_)
 rw[jV]at e1 e2
 cases e3:ps[i]? with
 |none=>rw[e3]at e1;cases e1
 |some p=>
  cases e4:ps'[i]? with
  |none=>rw[e4]at e2;cases e2
  |some p'=>
   rw[e3]at e1;rw[e4]at e2
   cases e1;cases e2
   exact Qdw (.int _ _) (.int _ _)
def Yg(prog:Program)(w:World):HeapKind prog w D where
 is:=fun h k a=>TrA prog w h 3 k (.ref a)/\LookS k
 hash:=Zi prog w 3
 draws:=Ju 3
 room:=fun A=>A.units+3<cLine
 inj:=fun hx hy=>hx.1.inj hy.1
 keeps:=fun{h h' k a d o es ep} x ho hd hs=>⟨x.1.same fun b ob e ⟨items,n,z⟩=>by
  have ne:b≠d:=by
   rintro rfl
   rw[ho]at e;cases e
   rw[hd]at z;cases z
  rw[hs.2 b ne];exact e,x.2⟩
 pyHash:=fun hu hk h=>Qqa hu hk.1 h
 eqBool:=fun{A E s x y a b Q} hu hx hy h=>eq_T hu hx.1 hy.1 (hx.2.alike hy.2) fun c hc=>by
  have:c=decide (x=y):=by rw[jKf,decide_eq_true_iff];exact hc
  rw[this];exact h
 quiet:=fun hk h=>Qfm Dc hk.1 h
def LkT(K:Fg)(H:Hp)(a:Addr)(k:D):Prop:=HasD K H (.ref a) k/\LookS k
theorem LkT.same{K:Fg}{H H':Hp}{a:Addr}{k:D}(h:LkT K H a k)(s:Same H H'):LkT K H' a k:=⟨s.hasD h.1,h.2⟩
theorem Qqf{K:Fg}{H:Hp}{g:Addr}{xs ys:List V}(hg:H g=some (.lst xs)):∀{n:Nat} {v:V} {d:D},okT n d->HasD K H v d->HasD K (upd H g (.lst ys)) v d:=by
 intro n
 induction n with
 |zero=>
  intro v d ht h
  cases h with
  |int i=>exact .int i
  |non=>exact ht.elim
  |bl b=>exact ht.elim
  |tup _ _ _=>exact ht.elim
  |lst _ _ _=>exact ht.elim
 |succ n ih=>
  intro v d ht h
  cases h with
  |int i=>exact .int i
  |non=>exact ht.elim
  |bl b=>exact ht.elim
  |lst _ _ _=>exact ht.elim
  |tup hs hl he=>exact .tup (Nb.Jy hg hs) hl fun i v x e1 e2=>ih (ht x (kY e2)) (he i v x e1 e2)
theorem LkT.upd{K:Fg}{H:Hp}{a g:Addr}{k:D}{xs ys:List V}(hg:H g=some (.lst xs))(h:LkT K H a k):LkT K (L2.upd H g (.lst ys)) a k:=⟨Qqf hg h.2.ok h.1,h.2⟩
abbrev KTr(K:Fg)(H:Hp):List (D×V)->List (D×Addr×Value)->Prop:=Paired fun p q=>p.1=q.1/\LkT K H q.2.1 p.1/\RelV p.2 q.2.2
section
variable{K:Fg}{H H':Hp}{kvs:List (D×V)}{xs:List (D×Addr×Value)}
theorem KTr.val(r:KTr K H kvs xs)(k:D):RelO (valV kvs k) ((atKey xs k).map (·.2)):=by
 induction r with
 |nil=>exact True.intro
 |@cons p q ps qs h t ih=>
  obtain⟨h1,_,h2⟩:=h
  by_cases e:p.1=k
  .have e':q.1=k:=h1.symm.trans e
   have b:atKey (q::qs) k=some q.2:=by simp[atKey,kYf,e']
   rw[Xv e,b];exact h2
  .have e':¬q.1=k:=fun z=>e (h1.trans z)
   have b:atKey (q::qs) k=atKey qs k:=by simp[atKey,kYf,e']
   rw[Xw e,b];exact ih
theorem KTr.repl(r:KTr K H kvs xs)(k:D){y:V}{u:Value}(ry:RelV y u):KTr K H (kvs.map fun kv=>if kv.1=k then(kv.1,y)else kv) (xs.map (putAt k u)):=by
 induction r with
 |nil=>exact .nil
 |@cons p q ps qs h t ih=>
  rw[zW,zW]
  refine .cons ?_ ih
  obtain⟨h1,h2,h3⟩:=h
  unfold putAt
  by_cases e:p.1=k
  .rw[if_pos e,if_pos (h1.symm.trans e)];exact⟨h1,h2,ry⟩
  .rw[if_neg e,if_neg (fun z=>e (h1.trans z))];exact⟨h1,h2,h3⟩
theorem KTr.put(r:KTr K H kvs xs)(k:D){b:Addr}{y:V}{u:Value}(hb:LkT K H b k)(ry:RelV y u):KTr K H (putK kvs k y) (storedH xs k b u):=by
 have e:(kvs.any fun kv=>decide (kv.1=k))=(atKey xs k).isSome:=by
  rw[Ki,(r.val k).isSome_eq,Option.isSome_map]
 unfold putK storedH
 rw[e]
 by_cases q:(atKey xs k).isSome=true
 .rw[if_pos q,if_pos q];exact r.repl k ry
 .rw[if_neg q,if_neg q];exact Paired.snoc r ⟨rfl,hb,ry⟩
theorem KTr.imp(r:KTr K H kvs xs)(f:∀t q,LkT K H t q->LkT K H' t q):KTr K H' kvs xs:=Paired.mapP r fun _ _ z=>⟨z.1,f _ _ z.2.1,z.2.2⟩
theorem KTr.keys(r:KTr K H kvs xs):xs.map (·.1)=kvs.map (·.1):=by
 induction r with
 |nil=>rfl
 |cons z _ ih=>rw[zW,zW,ih,z.1]
end
def TDo(d:Addr)(o:Obj):HO:=.ext fun h=>h.get? d=some o
structure TD(P:Program)(w:World)(K:Fg)(H:Hp)(d:Addr)(kvs:List (D×V)):Prop where
 ex:∃(o:Obj) (es:Array DictEntry) (ep:Nat) (xs:List (D×Addr×Value)),H d=some (TDo d o)/\o.ExactDict/\o.data=.dict es ep/\es.toList=xs.map (entryOfKey (Yg P w))/\KTr K H kvs xs
 sys:(d == sysModules)=false
 len:kvs.length<=sizeLine
 nd:(kvs.map (·.1)).Nodup
theorem TD.keep{P:Program}{w:World}{K:Fg}{H H':Hp}{d:Addr}{kvs:List (D×V)}(r:TD P w K H d kvs)(e:H' d=H d)(f:∀t q,LkT K H t q->LkT K H' t q):TD P w K H' d kvs:=by
 obtain⟨⟨o,es,ep,xs,h1,h2,h3,h4,h5⟩,a,b,c⟩:=r
 exact⟨⟨o,es,ep,xs,by rw[e];exact h1,h2,h3,h4,h5.imp f⟩,a,b,c⟩
theorem TD.same{P:Program}{w:World}{K:Fg}{H H':Hp}{d:Addr}{kvs:List (D×V)}(r:TD P w K H d kvs)(s:Same H H'):TD P w K H' d kvs:=by
 obtain⟨o,es,ep,xs,h1,_⟩:=r.ex
 exact r.keep (by rw[s _ _ h1,h1]) fun _ _ z=>z.same s
section
variable{X:Cx}{pins:List (Addr×Obj)}{σ:St}{H:Hp}{s:Shared}{a b:Addr}{kvs:List (D×V)}{k:D}
theorem Zk(I:Inv X pins σ H s)(h:LkT X.K H b k):(Yg X.prog X.w).is s.heap k b:=⟨Qmt I h.2.ok h.1 rfl,h.2⟩
theorem Qmz(I:Inv X pins σ H s)(r:TD X.prog X.w X.K H a kvs):∃xs,KTr X.K H kvs xs/\s.heap.DictOfH (Yg X.prog X.w) a xs:=by
 obtain⟨o,es,ep,xs,h1,h2,h3,h4,h5⟩:=r.ex
 obtain⟨ho,_⟩:=(show ObjOk X.prog X.w H s.heap a (TDo a o)from I.hok a _ h1)
 refine⟨xs,h5,o,es,ep,ho,h2,h3,h4,?_,by rw[h5.keys];exact r.nd⟩
 have all:∀{l:List (D×V)} {m:List (D×Addr×Value)},KTr X.K H l m->∀x∈m,(Yg X.prog X.w).is s.heap x.1 x.2.1:=by
  intro l m q
  induction q with
  |nil=>intro x hx;exact nomatch hx
  |@cons p q ps qs hq t ih=>
   intro x hx
   rcases yY.mp hx with e | hx
   .subst e
    exact Zk I (by rw[<-hq.1];exact hq.2.1)
   .exact ih x hx
 exact fun x hx=>all h5 x hx
theorem Qna{A:Around}(hu:A.units+4<cLine):(Yg X.prog X.w).room A.in1:=by show A.units+1+3<cLine;lia
end
section
variable{X:Cx}{o e:Expr}{pos:Pos}{td ty:TE}
def tTGet(P:Program)(w:World)(K:Fg)(td ty:TE):TE:=fun σ H Q=>td σ H fun x H1=>ty σ H1 fun y H2=>∃a b kvs k v,x=.ref a/\y=.ref b/\TD P w K H2 a kvs/\LkT K H2 b k/\valV kvs k=some v/\Q v H2
theorem Qts(hu:X.A.units+4<cLine)(ho:PE X o td)(hi:PE X e ty)(hs:NoSl e):PE X (.Subscript o e pos) (tTGet X.prog X.w X.K td ty):=by
 intro pins s σ H Q I h
 refine Qfc PySem.F.slot_dict_getitem.lookup hs (thn (ho pins s σ H _ I h) fun u s1 ⟨x,H1,I1,rx,q1⟩=>thn (hi pins s1 σ H1 _ I1 q1) fun iv s2 hqP=>?_)
 obtain⟨y,H2,I2,ry,a,b,kvs,k,v,ex,ey,g,hk,l,q2⟩:=hqP
 subst ex ey
 obtain rfl:u=Value.ref a:=rx
 cases(show iv=Value.ref b from ry)
 obtain⟨xs,rel,dd⟩:=Qmz I2 g
 obtain⟨w',hw,rw'⟩:=RelO.some_of (v:=v) (o:=(atKey xs k).map (·.2)) (by rw[<-l];exact rel.val k)
 obtain⟨p,hp,hp2⟩:=zV.mp hw
 refine⟨dd.typeIs,wpAny_getItem_heap (Qna (X:=X) hu) (Zk I2 hk) dd hp ?_⟩
 rw[hp2]
 exact⟨v,H2,I2.tok _,rw',q2⟩
end
theorem Qqg{K:Fg}{H H':Hp}(f:∀c ys,SqT K H c ys->SqT K H' c ys):∀{n:Nat} {v:V} {d:D},okT n d->HasD K H v d->HasD K H' v d:=by
 intro n
 induction n with
 |zero=>
  intro v d ht h
  cases h with
  |int i=>exact .int i
  |non=>exact ht.elim
  |bl b=>exact ht.elim
  |tup _ _ _=>exact ht.elim
  |lst _ _ _=>exact ht.elim
 |succ n ih=>
  intro v d ht h
  cases h with
  |int i=>exact .int i
  |non=>exact ht.elim
  |bl b=>exact ht.elim
  |lst _ _ _=>exact ht.elim
  |tup hs hl he=>exact .tup (f _ _ hs) hl fun i v x e1 e2=>ih (ht x (kY e2)) (he i v x e1 e2)
theorem LkT.map{K:Fg}{H H':Hp}(f:∀c ys,SqT K H c ys->SqT K H' c ys){a:Addr}{k:D}(h:LkT K H a k):LkT K H' a k:=⟨Qqg f h.2.ok h.1,h.2⟩
theorem Qtt{K:Fg}{H:Hp}{d:Addr}{o:Obj}{ob:HO}(hH:H d=some (TDo d o)):∀c ys,SqT K H c ys->SqT K (upd H d ob) c ys:=fun c ys z=>by
 rcases z with(z | ⟨o',z⟩) | z
 .exact .inl (.inl (by rw[Qk (Qjs z hH (by intro w;cases w))];exact z))
 .exact .inl (.inr ⟨o',by rw[Qk (Qjs z hH (by intro w;cases w))];exact z⟩)
 .exact .inr z
def Qfv(K:Fg)(H:Hp):List V->List (D×V)->Prop:=Paired fun v p=>∃t b,v=.ref t/\SqT K H t [.ref b,p.2]/\LkT K H b p.1
def Yr(ps:List (D×V)):List (D×V):=ps.foldl (fun d p=>putK d p.1 p.2) []
theorem Ws{ps:List (D×V)}{i:Nat}{p:D×V}(h:ps[i]?=some p):Yr (ps.take (i+1))=putK (Yr (ps.take i)) p.1 p.2:=by
 unfold Yr
 rw[List.take_succ,h,List.foldl_append]
 rfl
theorem Qiy(ps:List (D×V)):(Yr ps).length<=ps.length:=by
 have:∀(l:List (D×V)) (d:List (D×V)),(l.foldl (fun d p=>putK d p.1 p.2) d).length<=d.length+l.length:=by
  intro l
  induction l with
  |nil=>intro d;simp
  |cons p r ih=>intro d;have:=ih (putK d p.1 p.2);have h2:=Zd d p.1 p.2;simp only[kKa,yW]at *;lia
 exact jQd (this ps []) (by simp)
section
variable{X:Cx}
theorem Qiz{pins:List (Addr×Obj)}{σ:St}{H:Hp}{d it l:Addr}{vs:List V}{ps:List (D×V)}{A:Around}{R:Result->Shared->Prop}(hh:A.handled=none)(hu:A.units+4<cLine)(hd:H d=none)(hdS:(d == sysModules)=false)(hl:SqL X.K H l vs)(hp:Qfv X.K H vs ps)(hz:ps.length<sizeLine)
  (hR:∀s' ob,Inv X pins σ (upd H d ob) s'->TD X.prog X.w X.K (upd H d ob) d (Yr ps)->R (.ok (.ret .none)) s') :
  ∀(k i:Nat) (s:Shared) (o:Obj),ps.length-i=k->i<=ps.length->Inv X pins σ (upd H d (TDo d o)) s->TD X.prog X.w X.K (upd H d (TDo d o)) d (Yr (ps.take i))->s.heap.IsListIter it l i->FpOk X pins (upd H d (TDo d o)) it ->
   codeAny (model X.prog X.w) A (.builtin "dict.update.loop" ⟨[.ref d,.ref it,rawInt i,.none],[]⟩) R s:=by
 intro k
 induction k with
 |zero=>
  intro i s o hk hi I g st f
  have ei:i=ps.length:=Om
  subst ei
  rw[wW]at g
  have sm:Same H (upd H d (TDo d o)):=Qc hd _
  obtain⟨its,r,p,_⟩:=I.list (sm.seq hl)
  have lv:=Paired.length hp
  have lr:=r.length
  refine codeAny_builtin Qdd ?_
  rw[Around.under_plainId Kj _]
  show wpAny _ A.in1 (pyNext (.ref it) >>= _) _ _ s
  refine jQ (wpAny_pyNext_list_end (A:=A.in1) hh st p.isList (by simp;lia) fun h' eb=>?_)
  refine jQ (jJ (jJ ?_))
  exact hR _ _ (I.turned (t':=s.toks) (fun b o hb e=>eb b o hb e) f.1 f.2.1 f.2.2.2.1 f.2.2.2.2.1 f.2.2.2.2.2) g
 |succ k ih=>
  intro i s o hk hi I g st f
  have sm:Same H (upd H d (TDo d o)):=Qc hd _
  obtain⟨its,r,p,_⟩:=I.list (sm.seq hl)
  have lv:=Paired.length hp
  have hlt:i<vs.length:=Om
  obtain⟨pr,ep,t,b,ev,hT,hk0⟩:=Paired.getR hp (gE hlt)
  obtain⟨u,hu',ru⟩:=r.get (gE hlt)
  rw[ev]at ru
  cases ru
  refine codeAny_builtin Qdd ?_
  rw[Around.under_plainId Kj _]
  show wpAny _ A.in1 (pyNext (.ref it) >>= _) _ _ s
  refine jQ (wpAny_pyNext_list_item st p.isList (x:=.ref t) (by simpa using hu') fun h' st' sb=>?_)
  have I1:Inv X pins σ (upd H d (TDo d o)) { s with heap:=h' }:=I.turned (t':=s.toks) (fun b o hb e=>(sb.2 b hb).trans e) f.1 f.2.1 f.2.2.2.1 f.2.2.2.2.1 f.2.2.2.2.2
  obtain⟨its2,r2,⟨ot,gt,ct,nt,dt⟩,_⟩:=I1.tuple (sm.tup hT)
  obtain⟨u1,u2,rfl,ru1,ru2⟩:=r2.two
  cases(show u1=Value.ref b from ru1)
  refine jQ (wpAny_holding ?_)
  refine jQ (wpAny_tryCatch ?_)
  unfold Builtin.Dict.pairItems
  refine jQ (wpAny_typeOf (T:="tuple") ⟨ot,gt,ct⟩ ?_)
  rw[if_pos (by simp)]
  refine jQ (wpAny_seqItems gt dt (jJ ?_))
  show wpAny _ _ (holding [Value.ref b,u2] (dictSet d (Value.ref b) u2)) _ _ _
  obtain⟨xs,rel,dd⟩:=Qmz I1 g
  have l1:=Qiy (ps.take i)
  rw[wZ]at l1
  have hz2:xs.length<=sizeLine:=by rw[<-Paired.length rel];exact g.len
  have hk1:LkT X.K (upd H d (TDo d o)) b pr.1:=hk0.same sm
  refine wpAny_holding (wpAny_dictSet_heap (hsz:=hz2) (knd:=Yg X.prog X.w) (by show A.units+1+3<cLine;lia) (Zk I1 hk1) dd fun h2 dd' hs2=>?_)
  obtain⟨q,es,ep',hq,h4,h5,h6,_,h7⟩:=dd'
  have l2:=Zd (Yr (ps.take i)) pr.1 pr.2
  have fm:=Qtt (K:=X.K) (H:=upd H d (TDo d o)) (d:=d) (o:=o) (ob:=TDo d q) Qb
  have I2:Inv X pins σ (upd (upd H d (TDo d o)) d (TDo d q)) { s with heap:=h2,toks:=s.toks+Ju 3 pr.1 } :=
   Qfb (ob:=TDo d q) (s:={ s with heap:=h' }) I1 (by rw[Qb];exact True.intro) hs2 ⟨q,hq⟩ ⟨hq,⟨q,hq⟩,fun h1 h2 q1 q2=>q2 _ q1⟩
  have g2:TD X.prog X.w X.K (upd (upd H d (TDo d o)) d (TDo d q)) d (putK (Yr (ps.take i)) pr.1 pr.2) :=
   ⟨⟨q,es,ep',_,Qb,h4,h5,h6,(rel.put pr.1 hk1 ru2).imp fun t r z=>z.map fm⟩,g.sys,Om,Qlq g.nd⟩
  rw[Qjr,<-Ws ep]at g2
  rw[Qjr]at I2
  have nit:it≠d:=fun e=>by have:=f.1;rw[e,Qb]at this;cases this
  refine jJ ⟨kQd Kj _,?_⟩
  have ei:rawInt ((i:Int)+1)=rawInt ((i+1:Nat):Int):=by push_cast;rfl
  rw[ei]
  refine ih (i+1) _ q Om Om I2 g2 (st'.at fun o e=>hs2.extBut _ _ nit e) ⟨?_,f.2⟩
  have:=f.1
  rw[Qk nit]at this⊢
  exact this
theorem Qdx(hc:X.calm=true)(hu:X.A.units+6<cLine):Yc X (.type "dict") (fun xs H Q=>∃(l:Addr) (vs:List V) (ps:List (D×V)),xs=[.ref l]/\SqL X.K H l vs/\Qfv X.K H vs ps/\ps.length<sizeLine/\∀d ob,H d=none->TD X.prog X.w X.K (upd H d ob) d (Yr ps)->Q (.ref d) (upd H d ob)):=by
 intro pins s σ H xs us Q I rv h
 obtain⟨l,vs,ps,rfl,hl,hp,hz,q⟩:=h
 obtain⟨u,rfl,ru⟩:=rv.one
 cases ru
 refine callType_codes (Q₁:=fun obj s1=>obj=.ref s.heap.objs.size/\s1={ s with heap:=s.heap.push { cls:=.type "dict",data:=.dict #[] } }) F.kt_called_dict (F.kt_typeCall_dict_1 _) F.entry_dict_init (kt_code_dict_new _ ⟨rfl,rfl⟩) ?_
 rintro obj s1 ⟨rfl,rfl⟩
 have hd:H s.heap.objs.size=none:=I.hok.fresh (jW _)
 have hdS:(s.heap.objs.size == sysModules)=false:=beq_eq_false_iff_ne.mpr (Ne.symm (yZ I.big))
 have I1:Inv X pins σ (upd H s.heap.objs.size (TDo s.heap.objs.size { cls:=.type "dict",data:=.dict #[] })) { s with heap:=s.heap.push { cls:=.type "dict",data:=.dict #[] } } :=
  I.laid (a:=s.heap.objs.size) (t':=s.toks) (fun _ _ q=>jZ _ q) (jW _) ⟨kX _ rfl,⟨_,kX _ rfl⟩,fun h1 h2 q1 q2=>q2 _ q1⟩
 have sm:Same H (upd H s.heap.objs.size (TDo s.heap.objs.size { cls:=.type "dict",data:=.dict #[] })):=Qc hd _
 have g1:TD X.prog X.w X.K (upd H s.heap.objs.size (TDo s.heap.objs.size { cls:=.type "dict",data:=.dict #[] })) s.heap.objs.size []:=⟨⟨_,#[],0,[],Qb,⟨rfl,rfl,rfl⟩,rfl,rfl,.nil⟩,hdS,wY _,List.nodup_nil⟩
 have dT:Shared.TypeIs { s with heap:=s.heap.push { cls:=.type "dict",data:=.dict #[] } } (.ref s.heap.objs.size) "dict":=⟨_,kX _ rfl,rfl⟩
 refine⟨dT,F.args_dict_init_2 _ _,?_⟩
 unfold Builtin.«dict.__init__»
 refine jQ ?_
 unfold Builtin.Dict.selfAndRest
 refine jQ (wpAny_notOrdered_dict dT ?_)
 show wpAny _ _ (pure (s.heap.objs.size,[Value.ref l])) _ _ _
 refine jJ ?_
 show wpAny _ _ (Builtin.Dict.updateFrom "dict.__init__" s.heap.objs.size (.ref l) [] .none) _ _ _
 unfold Builtin.Dict.updateFrom
 obtain⟨its,r,⟨o,n,e,c,dn,sl⟩,_⟩:=I1.list (sm.seq hl)
 obtain⟨cls,dct,dat,sls⟩:=o
 simp only at c dn sl
 subst c dn sl
 refine jQ (wpAny_typeOf (T:="list") ⟨_,e,rfl⟩ ?_)
 rw[if_pos Dc]
 refine jQ (Qbk (s:={ s with heap:=s.heap.push { cls:=.type "dict",data:=.dict #[] } }) e (by exact I.ok.hd hc) fun h2 tk2 hk2=>?_)
 have I2:Inv X pins σ (upd H s.heap.objs.size (TDo s.heap.objs.size { cls:=.type "dict",data:=.dict #[] })) { s with heap:=h2,toks:=tk2 }:=I1.kept hk2
 rw[if_pos (by rfl)]
 refine jQ (wpAny_rule (jQ ?_))
 obtain⟨its2,r2,p2,_⟩:=I2.list (sm.seq hl)
 refine wpAny_pyIter_list (s:={ s with heap:=h2,toks:=tk2 }) p2.isList ?_
 refine jJ ⟨kQd Kj _,?_⟩
 have I3:Inv X pins σ (upd H s.heap.objs.size (TDo s.heap.objs.size { cls:=.type "dict",data:=.dict #[] })) { s with heap:=h2.push { cls:=.type "list_iterator",data:=.fields #[.ref l,.int 0 0] },toks:=tk2 }:=I2.kept (t':=tk2) fun b o e=>jZ _ e
 have hfr:=I2.hok.fresh (a:=h2.objs.size) (jW _)
 refine Qiz (X:=X) (pins:=pins) (σ:=σ) (H:=H) (vs:=vs) (ps:=ps) (A:=X.A.in1) (by exact I.ok.hd hc) (by show X.A.units+1+4<cLine;lia) hd hdS hl hp hz (fun s' ob I' g'=>⟨rfl,.ref s.heap.objs.size,_,I',rfl,q _ _ hd g'⟩) ps.length 0 _ _ Om (wY _) I3 g1 ⟨_,kX _ rfl,rfl,rfl⟩ (I2.fpOk (jW _) hfr)
end
section
variable{prog:Program}{w:World}{A:Around}{E:Value->Shared->Prop}{s:Shared}
abbrev newL(w:World):Obj:={ cls:=.type "set",dict:=none,data:=.set #[] 0 (.fresh 0 0 (!w.params.followText "set-order")) }
theorem Qqh(v:Value){Q:Value->Shared->Prop}(h:Q (.ref s.heap.objs.size) { s with heap:=s.heap.push (newL w) }) :
  codeAny (model prog w) A (.call (.builtin "set.__new__") ⟨[.type "set",v],[]⟩) (wants Q E) s:=by
 refine codeAny_of_tree ?_
 show wpAny _ A.in1 (checkBuiltinCall "set.__new__" ⟨[.type "set",v],[]⟩ >>= fun _=>again (.builtin "set.__new__" ⟨[.type "set",v],[]⟩)) _ _ s
 refine jQ (wpAny_of_eq (PySem.F.newCall_set_1 v) (jJ ⟨kQd PySem.F.plain_set_new _,codeAny_builtin PySem.F.entry_set_new ?_⟩))
 rw[Around.under_plainId PySem.F.plain_set_new _]
 unfold Builtin.«set.__new__» Builtin.Frozenset.newClass
 have hs:=sub_set_self
 obtain⟨hp,g,d,tk,os⟩:=s
 dsimp only
 wp_walk
 refine wpAny_askSetting (jJ ?_)
 dsimp only
 simp only[newObj]
 exact jQ (wpAny_alloc (jJ (jJ h)))
end
end L2
namespace Nb
open PySem
def Srt(xs:Array Nat):Prop:=xs.toList.Pairwise (· < ·)
theorem Srt.lt{xs:Array Nat}(h:Srt xs){i j x y:Nat}(hi:xs[i]?=some x)(hj:xs[j]?=some y)(c:i<j):x<y:=by
 rw[<-yX]at hi hj
 obtain⟨a,rfl⟩:=jK.mp hi
 obtain⟨b,rfl⟩:=jK.mp hj
 exact jZf.mp h i j a b c
theorem Wt{xs:Array Nat}(h:Srt xs)(j:Nat):∀(fuel lo hi:Nat),hi-lo<=fuel->lo<=hi->hi<=xs.size->(∀i y,xs[i]?=some y->i<lo->y<j)->(∀i y,xs[i]?=some y->hi<=i->j<=y) ->
  SetTable.below.go xs j fuel lo hi<=xs.size/\(∀i y,xs[i]?=some y->(i<SetTable.below.go xs j fuel lo hi↔y<j))
 |0,lo,hi,h1,h2,h3,h4,h5=>by
  obtain rfl:lo=hi:=Om
  refine⟨h3,fun i y e=>⟨h4 i y e,fun z=>Nat.not_le.mp fun c=>?_⟩⟩
  have:=h5 i y e c
  lia
 |fuel+1,lo,hi,h1,h2,h3,h4,h5=>by
  unfold SetTable.below.go
  by_cases c:lo<hi
  .rw[if_pos c]
   dsimp only
   have hm:(lo+hi) / 2<xs.size:=Om
   have em:xs[(lo+hi) / 2]?=some xs[(lo+hi) / 2]:=jXd hm
   have eg:xs.getD ((lo+hi) / 2) j=xs[(lo+hi) / 2]:=by rw[jXa,em];rfl
   rw[eg]
   by_cases c2:xs[(lo+hi) / 2]<j
   .rw[if_pos c2]
    refine Wt h j fuel _ hi Om Om h3 (fun i y e ci=>?_) h5
    rcases zQb i ((lo+hi) / 2)with z | z
    .have:=h.lt e em z;lia
    .obtain rfl:i=(lo+hi) / 2:=Om
     rw[em]at e;cases e;exact c2
   .rw[if_neg c2]
    refine Wt h j fuel lo _ Om Om Om h4 fun i y e ci=>?_
    rcases zQb ((lo+hi) / 2) i with z | z
    .have:=h.lt em e z;lia
    .obtain rfl:i=(lo+hi) / 2:=Om
     rw[em]at e;cases e;exact kXb c2
  .rw[if_neg c]
   obtain rfl:lo=hi:=Om
   refine⟨h3,fun i y e=>⟨h4 i y e,fun z=>Nat.not_le.mp fun c=>?_⟩⟩
   have:=h5 i y e c
   lia
theorem Ve{xs:Array Nat}(h:Srt xs)(j:Nat):SetTable.below xs j<=xs.size/\∀i y,xs[i]?=some y->(i<SetTable.below xs j↔y<j) :=
 Wt h j xs.size 0 xs.size Om (wY _) (jW _) (fun _ _ _ z=>absurd z (kZa _)) fun i y e z=>by
  rw[kJc z]at e;cases e
theorem Qfw{α:Type}(xs:Array α)(p:Nat)(x:α):(SetTable.insertAt xs p x).toList=xs.toList.take p++x::xs.toList.drop p:=by
 unfold SetTable.insertAt
 simp[jKc]
theorem Qja{xs:Array Nat}(h:Srt xs){j:Nat}(hn:j∉xs.toList):Srt (SetTable.insertAt xs (SetTable.below xs j) j):=by
 obtain⟨h1,h2⟩:=Ve h j
 generalize SetTable.below xs j=p at h1 h2
 have hl:∀x∈xs.toList.take p,x<j:=fun x hx=>by
  obtain⟨i,ei⟩:=jZc.mp hx
  have hi:i<p:=by
   have:=(jK.mp ei).1
   rw[wZ]at this;lia
  rw[List.getElem?_take,if_pos hi,yX]at ei
  exact(h2 i x ei).mp hi
 have hg:∀y∈xs.toList.drop p,j<y:=fun y hy=>by
  obtain⟨i,ei⟩:=jZc.mp hy
  rw[List.getElem?_drop,yX]at ei
  have:=mt (h2 _ y ei).mpr Om
  rcases Nat.lt_or_eq_of_le (kXb this)with z | z
  .exact z
  .rw[z]at hn
   exact absurd (by rw[<-yX]at ei;exact kY ei) hn
 unfold Srt
 rw[Qfw,jQc]
 refine⟨h.sublist (List.take_sublist ..),yXb.mpr ⟨hg,h.sublist (List.drop_sublist ..)⟩,fun x hx y hy=>?_⟩
 rcases yY.mp hy with rfl | z
 .exact hl x hx
 .exact Nat.lt_trans (hl x hx) (hg y z)
theorem Qjb{t:SetTable}(hs:Srt t.place)(hd:t.dummies=#[]){j:Nat}(h:t.slot j=.empty):j∉t.place.toList:=fun z=>by
 obtain⟨i,ei⟩:=jZc.mp z
 rw[yX]at ei
 obtain⟨h1,h2⟩:=Ve hs j
 have hb:t.place[SetTable.below t.place j]?=some j:=by
  have g1:¬i<SetTable.below t.place j:=mt (h2 i j ei).mp (jJe _)
  have g2:¬SetTable.below t.place j<i:=fun c=>by
   have hi:=(Array.getElem?_eq_some_iff.mp ei).1
   have e3:t.place[SetTable.below t.place j]?=some t.place[SetTable.below t.place j]:=jXd Om
   have:=hs.lt e3 ei c
   exact absurd ((h2 _ _ e3).mpr this) (jJe _)
  have:i=SetTable.below t.place j:=Om
  rw[<-this];exact ei
 unfold SetTable.slot at h
 simp[hb]at h
theorem Qqi(f:Nat->Option Nat)(n:Nat):(((List.range n).filterMap fun j=>(f j).map (j,·)).map (·.1)).Pairwise (· < ·):=by
 rw[jYb]
 refine List.Pairwise.filterMap (R:=(· < ·)) _ (fun a a' hlt b hb b' hb'=>?_) yXe
 obtain⟨x,_,rfl⟩:=zV.mp hb
 obtain⟨y,_,rfl⟩:=zV.mp hb'
 exact hlt
def Uniq(o:Array (Option Nat)):Prop:=∀i j v:Nat,o[i]?=some (some v)->o[j]?=some (some v)->i=j
theorem Uniq.set{o:Array (Option Nat)}(h:Uniq o){j n:Nat}(hv:∀v,some v∈o.toList->v<n):Uniq (o.setIfInBounds j (some n)):=fun a b v ha hb=>by
 rw[Array.getElem?_setIfInBounds]at ha hb
 have no:∀c,o[c]?=some (some n)->False:=fun c e=>by
  rw[<-yX]at e
  exact jJe _ (hv n (kY e))
 by_cases c1:j=a
 .rw[if_pos c1]at ha
  by_cases c2:j=b
  .exact c1.symm.trans c2
  .rw[if_neg c2]at hb
   split at ha
   .cases ha;exact(no b hb).elim
   .cases ha
 .rw[if_neg c1]at ha
  by_cases c2:j=b
  .rw[if_pos c2]at hb
   split at hb
   .cases hb;exact(no a ha).elim
   .cases hb
  .rw[if_neg c2]at hb
   exact h a b v ha hb
theorem Qjc{o:Array (Option Nat)}(h:Uniq o)(n:Nat):(((List.range n).filterMap fun j=>(o.getD j none).map (j,·)).map (·.2)).Nodup:=by
 unfold List.Nodup
 rw[jYb]
 refine List.Pairwise.filterMap (R:=(· < ·)) _ (fun a a' hlt b hb b' hb' e=>?_) yXe
 obtain⟨x,hx,rfl⟩:=zV.mp hb
 obtain⟨y,hy,rfl⟩:=zV.mp hb'
 have e:x=y:=e
 subst e
 have g:∀c,o.getD c none=some x->o[c]?=some (some x):=fun c hc=>by
  rw[jXa]at hc
  cases g:o[c]? with
  |none=>rw[g]at hc;cases hc
  |some u=>rw[g]at hc;exact congrArg some hc
 have:=h a a' x (g a hx) (g a' hy)
 lia
theorem Qdy{mask k:Nat}(hk:mask+1=2 ^ k):∀(hs:List Int) (o:Array (Option Nat)) (n:Nat),o.size=mask+1->own o=n->n+hs.length<=mask->(∀v,some v∈o.toList->v<n)->Uniq o ->
  ∃o',hs.foldl (Qfl mask) (some (o,n))=some (o',n+hs.length)/\o'.size=mask+1/\own o'=n+hs.length/\(∀v,some v∈o'.toList->v<n+hs.length)/\Uniq o'
 |[],o,n,h1,h2,_,h4,h5=>⟨o,rfl,h1,h2,h4,h5⟩
 |x::hs,o,n,h1,h2,h3,h4,h5=>by
  rw[yW]at h3
  obtain⟨e,he,ho⟩:=Qpx h1 Om
  obtain⟨m,hm,em⟩:=Qmf (i:=SetTable.bits x % (mask+1)) hk (kKb (yJd _ (yKf _))) (Qme x) he
  obtain⟨j,hj,ej⟩:=Qat h1 m (SetTable.turns mask) _ _ e (by unfold SetTable.turns;lia) em (kKb (yJd _ (yKf _))) he ho
  have s1:Qfl mask (some (o,n)) x=some (o.setIfInBounds j (some n),n+1):=by
   show(SetTable.layClean.free mask o (SetTable.turns mask) (SetTable.bits x % (mask+1)) (SetTable.bits x)).bind (fun j=>some (o.setIfInBounds j (some n),n+1))=_
   rw[hj];rfl
  rw[kKa,s1]
  obtain⟨o',a,b,c,d,u⟩:=Qdy hk hs (o.setIfInBounds j (some n)) (n+1) (by rw[yQf];exact h1) (by rw[Qtr ej,h2]) Om (fun v hv=>by
   rw[kYa]at hv
   rcases List.mem_or_eq_of_mem_set hv with g | g
   .have:=h4 v g;lia
   .cases g;lia) (h5.set h4)
  rw[yW]
  exact⟨o',by rw[a,show n+1+hs.length=n+(hs.length+1)by lia],b,by rw[c];lia,fun v hv=>by have:=d v hv;lia,u⟩
theorem Kb{α:Type}[DecidableEq α]:∀(ys zs:List α),ys.Nodup->(∀y∈ys,y∈zs)->zs.length<=ys.length->ys.Perm zs
 |[],zs,_,_,h=>by
  have:zs=[]:=xJ (by simpa using h)
  rw[this]
 |y::ys,zs,nd,hm,h=>by
  have hy:=hm y zJ
  obtain⟨n1,n2⟩:=jZe.mp nd
  refine List.Perm.trans ?_ (List.perm_cons_erase hy).symm
  refine .cons y (Kb ys (zs.erase y) n2 (fun x hx=>?_) ?_)
  .refine(yYf fun e=>n1 (by rw[<-e];exact hx)).mpr (hm x (zY _ hx))
  .rw[yQe hy]
   rw[yW]at h
   lia
theorem Qqj{mask k:Nat}(hk:mask+1=2 ^ k)(finger moves:Nat)(led plain:Bool)(hs:Array Int)(h:hs.size<=mask) :
  ∃t order,SetTable.laid mask finger moves led plain hs=some (t,order)/\t.mask=mask/\t.place.size=hs.size/\t.dummies=#[]/\t.led=led/\Srt t.place/\order.toList.Perm (List.range hs.size):=by
 obtain⟨o,a,b,c,d,u⟩:=Qdy hk hs.toList (Array.replicate (mask+1) none) 0 (by simp) (by unfold own;simp) (by rw[zX];lia) (fun v hv=>by simp at hv) (fun i j v e=>by
  rw[Array.getElem?_replicate]at e
  split at e<;>cases e)
 rw[zX,kKf]at a c d
 have lc:SetTable.layClean mask hs=some o:=by
  unfold SetTable.layClean
  rw[<-Array.foldl_toList]
  show(hs.toList.foldl (Qfl mask) (some (Array.replicate (mask+1) none,0))).map (·.1)=_
  rw[a];rfl
 unfold SetTable.laid
 rw[lc]
 have ll:=Qpy o
 rw[b,c]at ll
 refine⟨_,_,rfl,rfl,?_,rfl,rfl,?_,?_⟩
 .show(List.toArray _).size=_
  rw[kJ,jX];exact ll
 .exact Qqi _ _
 .show(((List.range (mask+1)).filterMap fun j=>(o.getD j none).map (j,·)).map (·.2)).Perm _
  have nd:=Qjc u (mask+1)
  have lz:(((List.range (mask+1)).filterMap fun j=>(o.getD j none).map (j,·)).map (·.2)).length=hs.size:=by rw[jX];exact ll
  have mem:∀v∈(((List.range (mask+1)).filterMap fun j=>(o.getD j none).map (j,·)).map (·.2)),v∈List.range hs.size:=fun v hv=>by
   obtain⟨⟨j,v'⟩,hp,rfl⟩:=zQ.mp hv
   obtain⟨j',_,e⟩:=yJb.mp hp
   refine yQ.mpr (d v' ?_)
   rw[jXa]at e
   cases g:o[j']? with
   |none=>rw[g]at e;cases e
   |some u=>
    rw[g]at e
    cases u with
    |none=>cases e
    |some u=>
     cases e
     rw[<-yX]at g
     exact kY g
  generalize (((List.range (mask+1)).filterMap fun j=>(o.getD j none).map (j,·)).map (·.2))=ys at nd lz mem
  exact Kb _ _ nd mem (by rw[lz,kQ];exact jW _)
theorem Qhs{t:SetTable}(hd:t.dummies=#[])(hashAt:Nat->Int)(x:Int):∀(m:Nat) (p:Pr) (fuel:Nat),m<fuel->t.slot (st t p m).j=.empty->p.dummy=none ->
  (∃j,t.slot j=.empty/\SetTable.probe.go t hashAt x fuel p=some (.empty j none))\/∃m' j i,m'<m/\j=(st t p m').j/\t.slot j=.live i/\t.place[i]?=some j/\hashAt i=x/\SetTable.probe.go t hashAt x fuel p=some (.candidate j i (st t p (m'+1)))
 |m,p,0,h,_,_=>absurd h (kZa _)
 |m,p,fuel+1,h,he,hn=>by
  unfold SetTable.probe.go
  rcases Qmh hd p.j with e | ⟨i,e,ep⟩
  .rw[e,hn];exact .inl ⟨_,e,rfl⟩
  .rw[e]
   dsimp only
   cases m with
   |zero=>rw[show st t p 0=p from rfl,e]at he;cases he
   |succ m=>
    by_cases c:(hashAt i == x)=true
    .rw[if_pos c]
     exact .inr ⟨0,p.j,i,yKf _,rfl,e,ep,by simpa using c,rfl⟩
    .rw[if_neg c]
     have he':t.slot (st t (t.advance p) m).j=.empty:=by rw[show st t (t.advance p) m=st t p (1+m)by rw[Qas];rfl,yXd];exact he
     rcases Qhs hd hashAt x m (t.advance p) fuel Om he' (by rw[Qdn];exact hn)with⟨j,j0,g⟩ | ⟨m',j,i',a,b,c',d,f,g⟩
     .exact .inl ⟨j,j0,g⟩
     .refine .inr ⟨m'+1,j,i',Om,?_,c',d,f,?_⟩
      .rw[b,show st t (t.advance p) m'=st t p (1+m')by rw[Qas];rfl,yXd]
      .rw[g,show st t (t.advance p) (m'+1)=st t p (m'+1+1)by rw[yXd (m'+1) 1,Qas t p 1 (m'+1)];rfl]
end Nb
namespace L2
open PySem PySem.Spec PyProof.Rows PySem.SeqAt
section
variable{ad:Addr->Prop}{prog:Program}{w:World}{A:Around}{E:Value->Shared->Prop}{s:Shared}
abbrev TKey(prog:Program)(w:World)(h:Heap)(r:D)(a:Addr):Prop:=(Yg prog w).is h r a
theorem TKey.at{h h':Heap}{r:D}{a:Addr}(x:TKey prog w h r a)(hs:∀b o,h.get? b=some o->(∃items n,o.data=.seq items n)->h'.get? b=some o):TKey prog w h' r a:=⟨x.1.same hs,x.2⟩
structure TEnts(prog:Program)(w:World)(ad:Addr->Prop)(h:Heap)(rs:List D)(es:List (Int×Value)):Prop where
 of:∀e∈es,∃r a,e=(Zi prog w 3 r,.ref a)/\TKey prog w h r a/\r∈rs/\ad a
 cov:∀r∈rs,∃e∈es,∃a,e.2=.ref a/\TKey prog w h r a
structure TrSet(prog:Program)(w:World)(ad:Addr->Prop)(h:Heap)(a:Addr)(rs:List D)(o:Obj)(es:Array (Int×Value))(ep:Nat)(t:SetTable):Prop where
 get:h.get? a=some o
 ex:o.ExactSet
 dat:o.data=.set es ep t
 ents:TEnts prog w ad h rs es.toList
 size:es.size<=rs.length
 ok:Nb.TOk t es.size
 low:t.mask<=8191
 srt:Nb.Srt t.place
 led:t.led=!w.params.followText "set-order"
theorem Qjd{r:D}{x:Addr}{Q:Bool->Shared->Prop}(hk:TKey prog w s.heap r x)(ys:List Value)(hy:∀y∈ys,∃r' a,y=.ref a/\TKey prog w s.heap r' a)(h:Q false s):wpAny (model prog w) A (searchCouldBeSeen (.ref x) ys) Q E s:=by
 unfold searchCouldBeSeen
 refine jQ ?_
 refine wpAny_forIn_list _ (fun rest q s'=>q.1=none/\s'=s/\∀y∈rest,∃r' a,y=.ref a/\TKey prog w s.heap r' a) _ ?_ ?_ _ _ ⟨rfl,rfl,hy⟩
 .rintro y rest q s' ⟨hr,rfl,hall⟩
  obtain⟨r',a,rfl,ha⟩:=hall y zJ
  have hrest:∀y∈rest,∃r' a,y=.ref a/\TKey prog w s'.heap r' a:=fun u hu'=>hall u (zY _ hu')
  dsimp only
  by_cases c:(x == a)=true
  .rw[c]
   simp only[Bool.true_or,if_true]
   exact jJ ⟨rfl,rfl,hrest⟩
  .have cf:(x == a)=false:=by simpa using c
   rw[cf]
   simp only[carriedByValue,Bool.false_or,Bool.and_self,yJ,if_false]
   refine jQ (Qfm Dc hk.1 ?_)
   simp only[jJf,yJ,if_false]
   refine jQ (Qfm Dc ha.1 ?_)
   simp only[jJf,yJ,if_false]
   refine jQ (Qmm Dc hk.1 ?_)
   simp only[yJ,if_false]
   refine jQ (Qmm Dc ha.1 ?_)
   simp only[yJ,if_false]
   exact jJ ⟨rfl,rfl,hrest⟩
 .rintro⟨r1,r2⟩ s' ⟨hr,rfl,_⟩
  simp only at hr
  subst hr
  exact jJ h
variable{d x:Addr}{r:D}{rs:List D}{o:Obj}{es:Array (Int×Value)}{ep:Nat}{t:SetTable}
theorem Qtu{Q:SetFound->Shared->Prop}(hu:A.units+3<cLine)(hS:TrSet prog w ad s.heap d rs o es ep t)(hk:TKey prog w s.heap r x)(q:∀slot,t.slot slot=.empty->Q (.free slot false) s)(q2:r∈rs->Q (.there none) s) :
  ∀(m fuel:Nat) (p:Nb.Pr) (stand:Option Nb.Pr),m<fuel->m<10*SetTable.turns t.mask->stand.getD (t.probeStart (Zi prog w 3 r))=p->t.slot (Nb.st t p m).j=.empty->p.dummy=none ->
   wpAny (model prog w) A (setSearchFrom d (.ref x) (Zi prog w 3 r) true fuel stand) Q E s:=by
 intro m
 induction m using Nat.strongRecOn with
 |ind m ih=>
  intro fuel p stand hm hf hp he hn
  cases fuel with
  |zero=>exact absurd hm (kZa _)
  |succ fuel=>
   unfold setSearchFrom
   refine jQ (wpAny_setState_of hS.get hS.dat (Kq hS.ok) ?_)
   dsimp only
   rw[Qpz hS.ok,if_neg xQ]
   first | refine jQ (jJ ?_) | skip
   rw[hp]
   unfold SetTable.probe
   have red:∀i,t.place[i]?=none\/∃e,es[i]?=some e:=fun i=>by
    by_cases c:i<es.size
    .exact .inr ⟨_,jXd c⟩
    .exact .inl (kJc (by rw[hS.ok.size];lia))
   rcases Nb.Qhs hS.ok.dum _ (Zi prog w 3 r) m p (10*SetTable.turns t.mask) hf he hn with⟨j,j0,g⟩ | ⟨m',j,i,a,b,c,dd,f,g⟩
   .rw[g]
    dsimp only
    exact jJ (q j j0)
   .rw[g]
    dsimp only
    obtain⟨e,ee⟩:∃e,es[i]?=some e:=by
     rcases red i with z | z
     .rw[z]at dd;cases dd
     .exact z
    obtain⟨r',a',rfl,ha',hr',_⟩:=hS.ents.of e (by rw[<-yX]at ee;exact kY ee)
    have tail:wpAny (model prog w) A (do
      let some (_,y):=es[i]? | unsupported "internal:set-entry"
      let equal ← holding [y] (eqBool y (.ref x))
      let (es',_,t') ← setState d
      if true&&equal then return .there none
      let some same:=t'.sameMemory t.moves t.mask | unsupported "set.changed-during-lookup:is-the-new-block-at-the-old-address"
      let still ← match (if same then t'.slot j else .empty)with
       |.live i'=>match es'[i']? with
        |some (_,y')=>do pure (if ← isSame y' y then some i' else none)
        |none=>pure none
       |_=>pure none
      match still with
      |none=>rule "set.search.anew";setSearchFrom d (.ref x) (Zi prog w 3 r) true fuel none
      |some i'=>if equal then return .there (some i')else setSearchFrom d (.ref x) (Zi prog w 3 r) true fuel (some (Nb.st t p (m'+1)))) Q E s:=by
     rw[ee]
     dsimp only
     refine jQ (wpAny_holding ((Yg prog w).eqBool hu ha' hk ?_))
     by_cases ce:r'=r
     .rw[xW ce]
      refine jQ (wpAny_setState_of hS.get hS.dat (Kq hS.ok) ?_)
      dsimp only
      simp only[Bool.and_self,if_true]
      exact jJ (q2 (by rw[<-ce];exact hr'))
     rw[wQ ce]
     refine jQ (wpAny_setState_of hS.get hS.dat (Kq hS.ok) ?_)
     dsimp only
     have sm:t.sameMemory t.moves t.mask=some true:=by unfold SetTable.sameMemory;rw[if_pos (by simp)]
     rw[sm]
     simp only[Bool.and_false,yJ,if_false,if_true]
     rw[c]
     dsimp only
     rw[ee]
     dsimp only
     refine jQ (wpAny_isSame_ref_self ?_)
     simp only[if_true]
     refine jQ (jJ ?_)
     dsimp only
     refine ih (m-(m'+1)) Om fuel _ _ Om Om rfl ?_ (by show(Nb.st t p (m'+1)).dummy=none;rw[Nb.Qhn];exact hn)
     show t.slot (Nb.st t (Nb.st t p (m'+1)) (m-(m'+1))).j=.empty
     rw[<-Nb.Qas,show m'+1+(m-(m'+1))=m by lia];exact he
    by_cases l:t.led=true
    .rw[l]
     simp only[jJf,yJ,if_false]
     first | exact tail | exact jQ (jJ tail)
    .have lf:t.led=false:=by simpa using l
     rw[lf]
     simp only[yJe,if_true]
     refine jQ (Qjd hk _ (fun y hy=>?_) ?_)
     .obtain⟨e,he',rfl⟩:=zQ.mp hy
      rw[Array.toList_filter]at he'
      obtain⟨r2,a2,rfl,h2,_⟩:=hS.ents.of e (wK.mp he').1
      exact⟨r2,a2,rfl,h2⟩
     .simp only[yJ,if_false]
      first | exact tail | exact jQ (jJ tail)
theorem TEnts.snoc(had:ad x){h h':Heap}{l l':List (Int×Value)}(he:TEnts prog w ad h rs l)(hk:TKey prog w h r x)(p:List.Perm l' (l++[(Zi prog w 3 r,.ref x)]))(hs:∀b o,h.get? b=some o->(∃items n,o.data=.seq items n)->h'.get? b=some o):TEnts prog w ad h' (rs++[r]) l' where
 of:=fun e z=>by
  rcases wX.mp (p.mem_iff.mp z)with y | y
  .obtain⟨r',a,e',k,m⟩:=he.of e y
   exact⟨r',a,e',k.at hs,jYc _ m.1,m.2⟩
  .rw[kW]at y
   exact⟨r,x,y,hk.at hs,wJ _ (kW.mpr rfl),had⟩
 cov:=fun r' hr'=>by
  rcases wX.mp hr' with y | y
  .obtain⟨e,he',a,e1,k⟩:=he.cov r' y
   exact⟨e,p.mem_iff.mpr (jYc _ he'),a,e1,k.at hs⟩
  .rw[kW.mp y]
   exact⟨_,p.mem_iff.mpr (wJ _ (kW.mpr rfl)),x,rfl,hk.at hs⟩
theorem TEnts.again{h:Heap}{l:List (Int×Value)}(he:TEnts prog w ad h rs l)(hr:r∈rs):TEnts prog w ad h (rs++[r]) l where
 of:=fun e z=>let ⟨r',a,e',k,m⟩:=he.of e z;⟨r',a,e',k,jYc _ m.1,m.2⟩
 cov:=fun r' hr'=>he.cov r' (by
  rcases wX.mp hr' with y | y
  .exact y
  .rw[kW.mp y];exact hr)
theorem TrSet.again{h:Heap}(hS:TrSet prog w ad h d rs o es ep t)(hr:r∈rs):TrSet prog w ad h d (rs++[r]) o es ep t :=
 { hS with ents:=hS.ents.again hr,size:=by have:=hS.size;rw[yV];exact Nat.le_succ_of_le this }
theorem Qnb{Q:Unit->Shared->Prop}{wanted:Nat}(ho:s.heap.get? d=some o)(hex:o.ExactSet)(hd:o.data=.set es ep t)(hsz:t.place.size=es.size)(hdm:t.dummies=#[])(hfm:es.size<=t.mask)(hw:wanted=es.size*4)(hz:es.size<=2000)(h0:0<es.size)
  (he:TEnts prog w ad s.heap rs es.toList) (hl:es.size<=rs.length) (hled:t.led=!w.params.followText "set-order") (q:∀h' o' es' ep' t',Heap.SameBut d s.heap h'->TrSet prog w ad h' d rs o' es' ep' t'->Q () { s with heap:=h' }):wpAny (model prog w) A (setRelay d wanted) Q E s:=by
 obtain⟨k,k3,ek,lk,bk⟩:=Nb.above wanted Om
 have k13:k<=13:=by
  rcases bk with e | e
  .exact kXb fun c=>by
    have:=kKe (show 0<2 by decide) (show 14<=k from c)
    lia
  .exact kXb fun c=>by
    have:=kKe (show 0<2 by decide) (show 14<=k from c)
    lia
 have p13:2 ^ k<=8192:=kKe (show 0<2 by decide) k13
 have kp:0<2 ^ k:=Nat.pow_pos Dc
 obtain⟨t',order,el,m1,m2,m3,m6,m7,m4⟩:=Nb.Qqj (mask:=2 ^ k-1) (k:=k) Om t.finger (t.movedTo (2 ^ k-1)) t.led t.plain (es.map (·.1)) (by rw[Array.size_map];lia)
 rw[Array.size_map]at m2 m4
 have m5:∀v∈order.toList,v<es.size:=fun v hv=>yQ.mp (m4.mem_iff.mp hv)
 have m4':order.toList.length=es.size:=by rw[m4.length_eq,kQ]
 have er:t.relaid (es.map (·.1)) wanted=some (t',order):=by
  unfold SetTable.relaid
  rw[ek];exact el
 have ez:(order.filterMap (fun i=>es[i]?)).size=es.size:=by
  rw[<-zX,Array.toList_filterMap,Nb.Qhp es _ m5,m4']
 have hfit:t.fits es.size=true:=by
  unfold SetTable.fits SetTable.fill
  rw[hsz,hdm]
  simp
  lia
 have hfit':t'.fits (order.filterMap (fun i=>es[i]?)).size=true:=by
  unfold SetTable.fits SetTable.fill
  rw[m2,m3,ez,m1]
  simp
  lia
 have big:(8192:Nat)<sizeLine:=Dc
 unfold setRelay
 refine jQ (wpAny_setState_of ho hd hfit ?_)
 dsimp only
 rw[if_neg (show ¬SetTable.sizeAbove wanted > sizeLine by rw[ek];lia)]
 first | refine jQ (jJ ?_) | skip
 rw[er]
 refine jQ (wpAny_of_eq (a:=(order.filterMap (fun i=>es[i]?),t')) ?_ ?_)
 .show(if ((order.filterMap (fun i=>es[i]?)).size != es.size)=true then _ else _)=_
  rw[ez,if_neg (by simp)]
 .dsimp only
  refine wpAny_storeSet_of ho hd ?_ (by rw[ez];lia)
  have hsb:=Heap.SameBut.update s.heap d (Obj.putSet (order.filterMap (fun i=>es[i]?)) t')
  have hg:(s.heap.update d (Obj.putSet (order.filterMap (fun i=>es[i]?)) t')).get? d=some { o with data:=.set (order.filterMap (fun i=>es[i]?)) (ep+1) t' }:=by
   have:=jJc (Obj.putSet (order.filterMap (fun i=>es[i]?)) t') ho (by rw[putSet_of _ t' hd];rfl)
   rw[putSet_of _ t' hd]at this;exact this
  have ex:∀e,e∈(order.filterMap (fun i=>es[i]?)).toList↔e∈es.toList:=fun e=>by
   rw[Array.toList_filterMap,yJb]
   constructor
   .rintro⟨i,_,ei⟩
    rw[<-yX]at ei
    exact kY ei
   .intro z
    obtain⟨i,ei⟩:=jZc.mp z
    have li:=(jK.mp ei).1
    rw[zX]at li
    rw[yX]at ei
    exact⟨i,m4.mem_iff.mpr (yQ.mpr li),ei⟩
  refine q _ _ _ _ _ hsb ⟨hg,hex,rfl,⟨fun e z=>?_,fun r' hr'=>?_⟩,by rw[ez];exact hl,⟨by rw[m2,ez],m3,⟨k,k3,by rw[m1];lia⟩,by rw[ez,m1];lia⟩,by rw[m1];lia,m7,m6.trans hled⟩
  .obtain⟨r',a,e',k',m⟩:=he.of e ((ex e).mp z)
   exact⟨r',a,e',k'.at (Vo ho hd hsb),m⟩
  .obtain⟨e,z,a,e1,k'⟩:=he.cov r' hr'
   exact⟨e,(ex e).mpr z,a,e1,k'.at (Vo ho hd hsb)⟩
theorem Qqk{Q:Bool->Shared->Prop}(hu:A.units+3<cLine)(hS:TrSet prog w ad s.heap d rs o es ep t)(hk:TKey prog w s.heap r x)(had:ad x)(hn:rs.length<2000)
  (q:∀b h' o' es' ep' t',Heap.SameBut d s.heap h'->TrSet prog w ad h' d (rs++[r]) o' es' ep' t'->Q b { s with heap:=h' }):wpAny (model prog w) A (setAddHashed d (.ref x) (Zi prog w 3 r)) Q E s:=by
 have hf:=Kq hS.ok
 have big:(8192:Nat)<sizeLine:=Dc
 have hes:=hS.size
 have hful:=hS.ok.full
 unfold setAddHashed setAddHashedIn
 refine wpAny_holding (jQ (wpAny_setState_of hS.get hS.dat hf ?_))
 dsimp only
 rw[if_neg (show ¬byScan (.ref x) es=true by unfold byScan;simp[Value.scannable])]
 obtain⟨m,hm,he⟩:=Nb.Qfk hS.ok (Zi prog w 3 r)
 have hl:=hS.low
 unfold setSearch
 refine jQ (Qtu hu hS hk (fun slot hslot=>?_) (fun hr=>?_) m 100000 _ none (by unfold SetTable.turns at hm;lia) hm rfl he rfl)
 rotate_left
 .dsimp only
  exact jJ (q _ s.heap _ _ _ _ (Heap.SameBut.refl d s.heap) (hS.again hr))
 dsimp only
 refine jQ (wpAny_setState_of hS.get hS.dat hf ?_)
 dsimp only
 have hp:List.Perm (SetTable.insertAt es (t.put slot).2 (Zi prog w 3 r,Value.ref x)).toList (es.toList++[(Zi prog w 3 r,.ref x)]):=by
  have:=SetTable.insertAt_perm es (t.put slot).2 (Zi prog w 3 r,Value.ref x)
  rw[wV]at this;exact this
 have hsr:Nb.Srt (t.put slot).1.place:=Nb.Qja hS.srt (Nb.Qjb hS.srt hS.ok.dum hslot)
 have hld:(t.put slot).1.led=t.led:=rfl
 have hz:=Nb.Wn es (t.put slot).2 (Zi prog w 3 r,Value.ref x)
 generalize SetTable.insertAt es (t.put slot).2 (Zi prog w 3 r,Value.ref x)=es1 at hp hz⊢
 have hpl:=Nb.Qmj t slot
 have hpd:=Nb.Qtq hS.ok.dum slot
 have hpm:(t.put slot).1.mask=t.mask:=rfl
 generalize (t.put slot).1=t1 at hpl hpd hpm hsr hld⊢
 rw[hS.ok.size]at hpl
 have fin:∀t2:SetTable,t2.place=t1.place->t2.dummies=t1.dummies->t2.mask=t1.mask->t2.led=t1.led->wpAny (model prog w) A (do
   storeSet d es1 t2
   if !false&&t2.tooFull then setRelay d (SetTable.grown (es.size+1))
   return true) Q E s:=by
  intro t2 e1 e2 e3 e9
  have hsr2:Nb.Srt t2.place:=by rw[e1];exact hsr
  have hld2:t2.led=!w.params.followText "set-order":=e9.trans (hld.trans hS.led)
  have hsb:=Heap.SameBut.update s.heap d (Obj.putSet es1 t2)
  have hg:(s.heap.update d (Obj.putSet es1 t2)).get? d=some { o with data:=.set es1 (ep+1) t2 }:=by
   have:=jJc (Obj.putSet es1 t2) hS.get (by rw[putSet_of _ t2 hS.dat];rfl)
   rw[putSet_of _ t2 hS.dat]at this;exact this
  have hen:TEnts prog w ad (s.heap.update d (Obj.putSet es1 t2)) (rs++[r]) es1.toList:=TEnts.snoc had hS.ents hk hp (Vo hS.get hS.dat hsb)
  refine jQ (wpAny_storeSet_of hS.get hS.dat ?_ Om)
  by_cases c:t2.tooFull=true
  .rw[c]
   simp only[yJe,Bool.and_self,if_true]
   refine jQ (Qnb (rs:=rs++[r]) (s:={ s with heap:=s.heap.update d (Obj.putSet es1 t2) }) hg hS.ex rfl (by rw[e1,hpl,hz]) (by rw[e2,hpd]) (by rw[e3,hpm,hz];lia) (by unfold SetTable.grown;rw[if_neg Om,hz]) Om Om hen (by rw[yV,hz];exact Nat.succ_le_succ hes) hld2 fun h' o' es' ep' t' hsb' hS'=>?_)
   exact jJ (q _ _ _ _ _ _ (hsb.trans hsb') hS')
  .have cf:t2.tooFull=false:=by simpa using c
   rw[cf]
   simp only[Bool.and_false,yJ,if_false]
   have nf:es1.size*5<t2.mask*3:=by
    unfold SetTable.tooFull SetTable.fill at cf
    rw[e1,e2,hpl,hpd]at cf
    simp at cf
    rw[hz];exact cf
   obtain⟨k,k3,ek⟩:=hS.ok.pow
   have:=q true _ _ _ _ _ hsb ⟨hg,hS.ex,rfl,hen,by rw[yV,hz];exact Nat.succ_le_succ hes,⟨by rw[e1,hpl,hz],by rw[e2,hpd],⟨k,k3,by rw[e3,hpm];exact ek⟩,nf⟩,by rw[e3,hpm];exact hl,hsr2,hld2⟩
   first | exact jJ this | exact jQ (jJ (jJ this))
 by_cases c:t1.plain=true
 .rw[c]
  simp only[if_true]
  refine jQ (hbv_T Dc hk.1 ?_)
  simp only[if_true]
  exact fin t1 rfl rfl rfl rfl
 .have cf:t1.plain=false:=by simpa using c
  rw[cf]
  simp only[yJ,if_false]
  refine jQ (jJ ?_)
  simp only[if_true]
  exact fin t1 rfl rfl rfl rfl
end
section
variable{ad:Addr->Prop}{prog:Program}{w:World}{A:Around}{R:Result->Shared->Prop}{I:Addr}{fp wr:List Addr}{G:Array GenState->Array GenState->Prop}{n:Nat}{P:Nat->Value->Prop}{St:Nat->Shared->Prop}
def TrSetE(prog:Program)(w:World)(ad:Addr->Prop)(h:Heap)(a:Addr)(rs:List D):Prop:=∃o es ep t,TrSet prog w ad h a rs o es ep t
theorem TrSetE.at{h h':Heap}{a:Addr}{rs:List D}(x:TrSetE prog w ad h a rs)(hs:∀b o,h.get? b=some o->(b=a\/∃items n,o.data=.seq items n)->h'.get? b=some o):TrSetE prog w ad h' a rs:=by
 obtain⟨o,es,ep,t,S⟩:=x
 exact⟨o,es,ep,t,{ S with
  get:=hs a o S.get (.inl rfl)
  ents:=⟨fun e m=>let ⟨r,b,e',k,i⟩:=S.ents.of e m;⟨r,b,e',k.at fun c o e z=>hs c o e (.inr z),i⟩,fun r m=>let ⟨e,he,b,e',k⟩:=S.ents.cov r m;⟨e,he,b,e',k.at fun c o e z=>hs c o e (.inr z)⟩⟩ }⟩
theorem Qje(W:WalksS prog w A.in1 I fp wr G n P St)(S:Addr)(hSf:S∉fp)(hu:A.units+5<cLine)(rs:List D)(hn:n=rs.length)(hz:rs.length<=2000)(hwr:∀(s:Shared) b o,b∈wr->s.heap.get? b=some o->∀i,St i s->∀items m,o.data≠.seq items m)
  (keys:Nat->Addr) (hka:∀j,j<n->ad (keys j)) (hval:∀i v,P i v->v=.ref (keys i)) :
  ∀(k i:Nat) (s:Shared),n-i=k->i<=n->St i s->TrSetE prog w ad s.heap S (rs.take i)->(∀j r,rs[j]?=some r->TKey prog w s.heap r (keys j)) ->
   (∀s',Moved (S::wr) G s s'->TrSetE prog w ad s'.heap S rs->R (.ok (.ret .none)) s') ->
   codeAny (model prog w) A (.builtin "set.update.loop" ⟨[.ref S,.ref I],[]⟩) R s:=by
 have hSw:S∉wr:=fun h=>hSf (W.sub _ h)
 have hsub:∀b∈wr,b∈S::wr:=fun b hb=>zY _ hb
 intro k
 induction k with
 |zero=>
  intro i s hk hi hst hS hK hR
  have hin:i=n:=Om
  subst hin
  refine codeAny_builtin F.entry_set_update_loop ?_
  rw[Around.under_plainId F.plain_set_update_loop _]
  show wpAny _ A.in1 (pyNext (.ref I) >>= _) _ _ s
  refine jQ (W.done s _ _ hst fun s' hm=>?_)
  show wpAny _ A.in1 (ret Value.none) _ _ s'
  rw[hn,wW]at hS
  refine jJ (hR s' (hm.mono hsub) (hS.at fun b o e z=>hm.heap b o (fun hb=>?_) e))
  rcases z with rfl | ⟨items,m,z⟩
  .exact hSw hb
  .exact hwr s b o hb e _ hst items m z
 |succ k ih=>
  intro i s hk hi hst hS hK hR
  have hlt:i<n:=Om
  refine codeAny_builtin F.entry_set_update_loop ?_
  rw[Around.under_plainId F.plain_set_update_loop _]
  show wpAny _ A.in1 (pyNext (.ref I) >>= _) _ _ s
  refine jQ (W.item i s _ _ hlt hst fun v s' hP hst' hm=>?_)
  obtain rfl:=hval i v hP
  have old:∀b o,s.heap.get? b=some o->(b=S\/∃items n,o.data=.seq items n)->s'.heap.get? b=some o:=fun b o e z=>hm.heap b o (fun hb=>by
   rcases z with rfl | ⟨items,m,z⟩
   .exact hSw hb
   .exact hwr s b o hb e _ hst items m z) e
  obtain⟨o,es,ep,t,hS'⟩:=hS.at old
  have hK':∀j r,rs[j]?=some r->TKey prog w s'.heap r (keys j):=fun j r e=>(hK j r e).at fun b o e z=>old b o e (.inr z)
  obtain⟨r,er⟩:∃r,rs[i]?=some r:=⟨_,gE Om⟩
  have hkr:=hK' i r er
  show wpAny _ A.in1 (holding [Value.ref (keys i)] (setAdd S (.ref (keys i))) >>= _) _ _ s'
  refine jQ (wpAny_holding ?_)
  unfold setAdd
  refine wpAny_holding ?_
  refine jQ ((Yg prog w).pyHash (by show A.units+1+3<cLine;lia) hkr ?_)
  refine Qqk (s:={ s' with toks:=s'.toks+Ju 3 r }) (by show A.units+1+3<cLine;lia) hS' hkr (hka i hlt) (by rw[wZ];lia) fun bb h' o' es' ep' t' hsb hS2=>?_
  have e1:rs.take i++[r]=rs.take (i+1):=by rw[List.take_add_one,er];rfl
  rw[e1]at hS2
  have fr:=Vo (d:=S) (h:=s'.heap) hS'.get hS'.dat hsb
  refine jJ ⟨kQd F.plain_set_update_loop _,ih (i+1) _ Om hlt (W.frame _ s' _ _ hst' (by show _<=s'.toks+_;lia) fun b hb o e=>?_) ⟨_,_,_,_,hS2⟩ (fun j r e=>(hK' j r e).at fr) fun s'' hm'' hS''=>?_⟩
  .rw[hsb.2 b (fun h:b=S=>hSf (by rw[<-h];exact hb))];exact e
  .refine hR s'' (Moved.trans W.gtrans ((hm.mono hsub).then_heap (by show _<=s'.toks+_;lia) fun b o hb e=>?_) hm'') hS''
   rw[hsb.2 b (fun h:b=S=>hb (by rw[h];exact zJ))];exact e
end
section
variable{ad:Addr->Prop}{prog:Program}{w:World}{A:Around}{E:Value->Shared->Prop}{s:Shared}
theorem Qaj{l:Addr}{its:List Addr}{rs:List D}{Q:Value->Shared->Prop}(hh:A.handled=none)(hu:A.units+8<cLine)(hl:s.heap.IsList l (its.map Value.ref).toArray)(hk:∀(j:Nat) (r:D),rs[j]?=some r->∃a:Addr,its[j]?=some a/\TKey prog w s.heap r a)(hlen:its.length=rs.length)(hz:rs.length<=2000)
  (h:∀(h':Heap) (tk:Nat),TrSetE prog w (·∈its) h' s.heap.objs.size rs->(∀b o,b<s.heap.objs.size->s.heap.get? b=some o->h'.get? b=some o)->Q (.ref s.heap.objs.size) { s with heap:=h',toks:=tk }) :
  wpAny (model prog w) A (call (.type "set") [.ref l]) Q E s:=by
 obtain⟨c,tl,hmro⟩:=PySem.F.called_set.mro
 have m0:=PySem.F.called_set.made
 have m1:=PySem.F.called_set.sub
 refine wpAny_call (codeAny_of_tree ?_)
 show wpAny _ _ (callAny (.type "set") _) _ _ _
 refine jJ ⟨Code.quiet_builtin _ Dk,codeAny_builtin PySem.F.entry_type_call ?_⟩
 rw[Around.under_plain (weight_type_call_type "set" [.ref l] []) rfl]
 have m2:=PySem.F.called_set.notType
 have m3:=PySem.F.called_set.canCreate
 have m4:=PySem.F.typeCall_set_1 (.ref l)
 repeat (any_goals (first | assumption | wp_step))
 refine codeAny_mono (Qqh (.ref l) (E:=E) (Q:=fun b s₁=>b=.ref s.heap.objs.size/\s₁={ s with heap:=s.heap.push (newL w) }) ⟨rfl,rfl⟩) fun r s₁ hr=>?_
 cases r with
 |error e=>exact hr
 |ok fl=>
  cases fl with
  |ret obj=>
   obtain⟨rfl,rfl⟩:=hr
   have hS:(s.heap.push (newL w)).get? s.heap.objs.size=some (newL w):=kX _ rfl
   have hT:Shared.TypeIs { s with heap:=s.heap.push (newL w) } (.ref s.heap.objs.size) "set":=⟨_,hS,rfl⟩
   have m5:=PySem.F.called_set.init.lookup
   have m6:=PySem.F.called_set.init.bind (.ref s.heap.objs.size)
   repeat (any_goals (first | assumption | wp_step))
   refine codeAny_mono (codeAny_call_builtin (R:=wants (fun r s₂=>r=.none/\∃h' tk,s₂={ s with heap:=h',toks:=tk }/\TrSetE prog w (·∈its) h' s.heap.objs.size rs/\(∀b o,b<s.heap.objs.size->s.heap.get? b=some o->h'.get? b=some o)) E) PySem.F.called_set.init.plain PySem.F.entry_set_init (check_set_init_1 hT ?_)) fun r₂ s₂ hr₂=>?_
   .obtain⟨ol,hol,hcl,nl,hdl⟩:=hl
    obtain⟨ocls,odict,odata,oslots⟩:=ol
    simp only at hcl hdl
    subst hcl;subst hdl
    have hol':(s.heap.push (newL w)).get? l=some { cls:=.type "list",dict:=odict,data:=.seq (its.map Value.ref).toArray nl,slots:=oslots }:=jZ _ hol
    have m7:=PySem.F.sub_list_set
    have m8:=PySem.F.sub_list_frozenset
    have m9:(Value.type "list" == Value.type "dict")=false:=Dc
    have hl1:(s.heap.push (newL w)).IsList l (its.map Value.ref).toArray:=⟨_,hol',rfl,nl,rfl⟩
    unfold Builtin.«set.__init__» noKeywords Builtin.Frozenset.updateFrom
    generalize hPI:pyIter=PI
    wp_walk
    subst hPI
    refine wpAny_pyIter_list hl1 ?_
    refine jQ (wpAny_runValue ?_)
    have hlS:l<s.heap.objs.size:=kK hol
    have hne:l≠(s.heap.push (newL w)).objs.size:=by rw[jYf];exact yZ (jJa hlS)
    have hSf:s.heap.objs.size∉[(s.heap.push (newL w)).objs.size,l]:=by
     rw[jYf]
     intro z
     simp only[yY,kXe,or_false]at z
     rcases z with z | z
     .exact yZ (kQb _) z
     .exact kJa hlS z
    refine Qje (ad:=(·∈its)) ((Walks.list (show A.in1.in1.in1.handled=none by simp[hh]) _ l hne (its.map Value.ref).toArray).toS) s.heap.objs.size hSf ?hu rs (by simp[hlen]) hz ?hwr (fun i=>its.getD i 0) ?hka ?hval (rs.length-0) 0 _ (by simp[hlen]) (wY _)
     ⟨⟨_,kX _ rfl,rfl,rfl⟩,(hl1.push _)⟩ ?hS0 ?hK ?hR
    case hu=>show A.units+1+1+5<cLine;lia
    case hwr=>
     intro s2 b o hb e i hst items m z
     rw[kW]at hb
     subst hb
     obtain⟨⟨o2,e2,_,d2⟩,_⟩:=hst
     rw[e]at e2;cases e2
     rw[z]at d2;cases d2
    case hka=>
     intro j hj
     have lj:j<its.length:=by simpa using hj
     show its.getD j 0∈its
     rw[jY,gE lj]
     exact jXf _
    case hval=>
     intro i v hv
     have e:((its.map Value.ref)[i]?:Option Value)=some v:=by simpa using hv
     rw[jV]at e
     cases g:its[i]? with
     |none=>rw[g]at e;cases e
     |some a=>rw[g]at e;cases e;rw[jY,g];rfl
    case hS0=>
     have hget:((s.heap.push (newL w)).push { cls:=.type "list_iterator",data:=.fields #[.ref l,.int 0 0] }).get? s.heap.objs.size=some (newL w):=jZ _ hS
     have tk:Nb.TOk (.fresh 0 0 (!w.params.followText "set-order")) 0:=⟨rfl,rfl,⟨3,jW _,rfl⟩,by show 0<21;decide⟩
     exact⟨newL w,#[],0,_,{ get:=hget,ex:=⟨rfl,rfl,rfl⟩,dat:=rfl,ents:=⟨fun e z=>by simp at z,fun r hr=>by simp at hr⟩,size:=jW _,ok:=tk,low:=(by show 7<=8191;decide),srt:=.nil,led:=rfl }⟩
    case hK=>
     intro j r e
     obtain⟨a,ea,ka⟩:=hk j r e
     rw[jY,ea]
     exact ka.at fun b o e _=>jZ _ (jZ _ e)
    case hR=>
     intro s' hm hS'
     obtain⟨h',g',d',tk',os'⟩:=s'
     have eg:g'=s.gens:=hm.gens
     have ed:d'=s.drawn:=hm.drawn
     have eo:os'=s.os:=hm.os
     subst eg;subst ed;subst eo
     show wpAny _ _ _ _ _ _
     refine jJ ?_
     show wpAny _ _ (ret Value.none) _ _ _
     refine jJ ⟨rfl,h',tk',rfl,hS',fun b o hb e=>hm.heap b o (fun z=>?_) (jZ _ (jZ _ e))⟩
     simp only[yY,kXe,or_false]at z
     rcases z with z | z
     .exact yZ hb z
     .rw[jYf]at z;exact yZ (jJa hb) z
   .cases r₂ with
    |error e=>exact hr₂
    |ok fl₂=>
     cases fl₂ with
     |ret r=>
      obtain⟨rfl,h',tk,rfl,hS',hk'⟩:=hr₂
      repeat (any_goals (first | assumption | wp_step))
      exact h _ _ hS' hk'
     |_=>exact hr₂.elim
  |_=>exact hr.elim
end
theorem si_next:Slot "set_iterator" "__next__" "set_iterator.__next__" :=
 .of (owner:="set_iterator") (n:="__next__") (by rw[typeLookup_type,builtinLookup_eq_fast];kernel_rfl) Dk Dk Dk
  (by first | exact .inl Dk | exact .inr Dk) (by rw[isSubtype_type];kernel_rfl)
theorem Vs:entryFor table "set_iterator.__next__"=some Builtin.«set_iterator.__next__»:=entryFor_of_tree (by kernel_rfl)
theorem Qht:Manifest.owners.lookup (String.ofList ['r','o','t','a','r','e','t','i','_','t','e','s'].reverse)=some Manifest.sig_set_iterator:=by kernel_rfl
theorem Qbt(a:Value):argsOk "set_iterator.__next__" ⟨[a],[]⟩:=by
 unfold argsOk;rw[signature?_of (id:="set_iterator.__next__") (n:=['_','_','t','x','e','n','_','_']) (o:=['r','o','t','a','r','e','t','i','_','t','e','s']) (by kernel_rfl) Qht];kernel_rfl
theorem Qql:entryFor table "set.__iter__"=some Builtin.«frozenset.__iter__»:=entryFor_alias (id':="frozenset.__iter__") (by kernel_rfl) rfl Dk (by kernel_rfl)
theorem Qnc:Slot "set_iterator" "__iter__" "set_iterator.__iter__" :=
 .of (owner:="set_iterator") (n:="__iter__") (by rw[typeLookup_type,builtinLookup_eq_fast];kernel_rfl) Dk Dk Dk
  (by first | exact .inl Dk | exact .inr Dk) (by rw[isSubtype_type];kernel_rfl)
theorem Qnd:entryFor table "set_iterator.__iter__"=some Builtin.«dict_keyiterator.__iter__»:=entryFor_alias (id':="dict_keyiterator.__iter__") (by kernel_rfl) rfl Dk (by kernel_rfl)
theorem Qqm(a:Value):argsOk "set_iterator.__iter__" ⟨[a],[]⟩:=by
 unfold argsOk;rw[signature?_of (id:="set_iterator.__iter__") (n:=['_','_','r','e','t','i','_','_']) (o:=['r','o','t','a','r','e','t','i','_','t','e','s']) (by kernel_rfl) Qht];kernel_rfl
section
variable{prog:Program}{w:World}{A:Around}{E:Value->Shared->Prop}{s:Shared}{d I:Addr}{n:Nat}{ep:Nat}
abbrev siO(f:Value)(i:Nat)(d:Addr)(n ep:Nat):Obj:={ cls:=.type "set_iterator",data:=.fields #[f,.int i 0,.ref d,.int n 0,.int ep 0] }
theorem Qdz{h:Heap}{Q:Option Value->Shared->Prop}(hh:A.handled=none)(eb:Heap.ExtBut I s.heap h)(q:∀h',Heap.ExtBut I s.heap h'->Q none { s with heap:=h' }) :
  wpAny (model prog w) A.in1 ((newExc (.type "StopIteration") [] >>= fun x=>raiseNew x):Sem PySem.Fin) (fun fin s'=>∃v,fin=PySem.Fin.done (Flow.ret v)/\wpAny (model prog w) A (pure (some v)) Q E s') (fun e s'=>wpAny (model prog w) A (isInstance e (.type "StopIteration") >>= fun b=>if b=true then pure none else throw e) Q E s') { s with heap:=h }:=by
 refine jQ ?_
 simp only[newExc,newTuple]
 refine jQ (wpAny_newObj_type ?_ (by size_fits))
 refine jQ (m:=firstArgMember _ _) (wpAny_of_eq (a:=Value.none) (by first | rfl | (simp only[firstArgMember];rfl)) ?_)
 refine wpAny_newObj_type ?_ (by size_fits)
 simp only[raiseNew]
 refine jQ (wpAny_handled ?_)
 rw[show A.in1.handled=none from hh]
 refine jQ (jJ (wpAny_throw ?_))
 refine jQ (wpAny_isInstance (T:="StopIteration") (b:=true) ⟨_,kX _ rfl,rfl⟩ isSubtype_stop ?_)
 exact jJ (q _ ((eb.push _).push _))
theorem Qne{f:Value}{i:Nat}{Q:Value->Shared->Prop}(hI:s.heap.get? I=some (siO f i d n ep))(q:Q (.ref I) s):wpAny (model prog w) A (pyIter (.ref I)) Q E s:=by
 have hT:s.TypeIs (.ref I) "set_iterator":=⟨_,hI,rfl⟩
 refine wpAny_pyIter_slot hT Qnc (wpAny_call_entry Qnc hT Qnd ?_ (Qqm _))
 show wpAny _ _ (ret (.ref I)) _ _ s
 exact jJ ⟨_,rfl,"set_iterator",_,hT,si_next.lookup,q⟩
end
section
variable{prog:Program}{w:World}{A:Around}{E:Value->Shared->Prop}{s:Shared}
theorem Qnf{m:Nat}{src:Source}{Q:Nat->Shared->Prop}(hm:m≠0)(q:∀i dr,i<m->Q i { s with drawn:=dr }):wpAny (model prog w) A (choose src m) Q E s :=
 fun _ _ _=>⟨hm,q _ _ (yJd _ (Nat.pos_of_ne_zero hm))⟩
end
end L2
namespace L2
open PySem PySem.Spec PyProof.Rows PySem.W
section
variable{prog:Program}{w:World}{A:Around}{E:Value->Shared->Prop}{s:Shared}{d:Addr}
theorem Qqn{Q:Bool->Shared->Prop}(hT:s.TypeIs (.ref d) "set")(h:Q false s):wpAny (model prog w) A (Builtin.List.listLengthHint (.ref d)) Q E s:=by
 unfold Builtin.List.listLengthHint
 refine jQ (wpAny_specialOf hT PySem.F.slot_set_len.lookup ?_)
 generalize hx:("set.__len__":String)=y
 wp_delta
 rw[show splitId y=some ("set","__len__")from by subst hx;decide +kernel]
 subst hx
 refine jQ (wpAny_isInstance (T:="set") (b:=true) hT sub_set_self ?_)
 refine wpAny_ite_split (fun z=>absurd z Dc) (fun _=>?_)
 refine wpAny_ite_split (fun _=>?_) (fun z=>absurd Dk z)
 exact jQ (wpAny_typeOf hT (jJ h))
end
end L2
namespace L2.V
open PySem PySem.Spec PyProof.Rows L2
structure SwO(prog:Program)(w:World)(o:Obj)(es:Array (Int×Value))(ep:Nat)(t:SetTable):Prop where
 ex:o.ExactSet
 dat:o.data=.set es ep t
 low:es.size<4096
 fit:t.fits es.size=true
 srt:Nb.Srt t.place
 psz:t.place.size=es.size
 led:t.led=!w.params.followText "set-order"
section
variable{prog:Program}{w:World}{A:Around}{E:Value->Shared->Prop}{s:Shared}{d:Addr}{o:Obj}{es:Array (Int×Value)}{ep:Nat}{t:SetTable}
theorem Qbu{Q:Bool->Shared->Prop}(q:Q (w.params.followText "set-order") s):wpAny (model prog w) A setsByText Q E s:=by
 unfold setsByText
 exact jQ (wpAny_askSetting (jJ q))
def Nx(prog:Program)(w:World)(d:Addr)(o:Obj)(ep sl i:Nat)(r:Option (Value×Nat)):Prop:=∀(A:Around) (E:Value->Shared->Prop) (s:Shared) (Q:Option (Value×Nat)->Shared->Prop),s.heap.get? d=some o->Q r s->wpAny (model prog w) A (setNext d sl i ep) Q E s
theorem Qtv(F:SwO prog w o es ep t)(h:w.params.followText "set-order"=true)(sl i:Nat):Nx prog w d o ep sl i (((pickOrder (w.params.setOrder d ep) es)[i]?).map fun e=>(e.2,sl)):=by
 intro A E s Q hd q
 unfold setNext
 refine jQ (wpAny_setState_of hd F.dat F.fit ?_)
 dsimp only
 refine jQ (Qbu ?_)
 rw[if_pos h,if_neg (by simp)]
 first | refine jQ (jJ ?_) | skip
 unfold setWalk
 refine jQ (jQ (wpAny_setState_of hd F.dat F.fit ?_))
 dsimp only
 refine jQ (Qbu ?_)
 rw[if_pos h]
 exact jQ (wpAny_askSetting (jJ (jJ q)))
def nxP(es:Array (Int×Value))(t:SetTable)(sl:Nat):Option (Value×Nat):=match es[SetTable.below t.place sl]?,t.place[SetTable.below t.place sl]? with
 |some (_,x),some j=>some (x,j+1)
 |_,_=>none
theorem Qqo(F:SwO prog w o es ep t)(h:w.params.followText "set-order"=false)(hd:(!t.plain&&decide (es.size > 1))=false)(sl i:Nat):Nx prog w d o ep sl i (nxP es t sl):=by
 intro A E s Q hg q
 unfold setNext
 refine jQ (wpAny_setState_of hg F.dat F.fit ?_)
 dsimp only
 refine jQ (Qbu ?_)
 rw[if_neg (by rw[h];exact xQ)]
 first | refine jQ (jJ ?_) | skip
 show wpAny _ _ (if (!t.plain&&decide (es.size > 1))=true then _ else _) _ _ _
 rw[if_neg (by rw[hd];exact xQ)]
 first | refine jQ (jJ ?_) | skip
 show wpAny _ _ ((if (!t.led&&!es.isEmpty)=true then unsupported "set:maker-not-led" else pure ()) >>= _) _ _ _
 have hl:t.led=true:=by rw[F.led,h];rfl
 rw[hl]
 simp only[jJf,Bool.false_and,yJ,if_false]
 exact jQ (jJ (jJ q))
end
structure Wk(nx:Nat->Nat->Option (Value×Nat))(vs:List Value)(sl:Nat->Nat):Prop where
 item:∀k v,vs[k]?=some v->nx (sl k) k=some (v,sl (k+1))
 done:nx (sl vs.length) vs.length=none
theorem Qqp{es:Array (Int×Value)}{t:SetTable}(hs:Nb.Srt t.place)(hp:t.place.size=es.size):∃f,f 0=0/\Wk (fun s _=>nxP es t s) (es.toList.map (·.2)) f:=by
 let f:Nat->Nat:=fun k=>match k with | 0=>0 | k+1=>t.place.getD k 0+1
 have at':∀k,k<t.place.size->t.place[k]?=some (t.place.getD k 0):=fun k hk=>by
  rw[jXa,jXd hk];rfl
 have bel:∀k,k<=t.place.size->SetTable.below t.place (f k)=k:=fun k hk=>by
  obtain⟨h1,h2⟩:=Nb.Ve hs (f k)
  generalize SetTable.below t.place (f k)=p at h1 h2
  have lo:k<=p:=by
   cases k with
   |zero=>exact wY _
   |succ k=>exact(h2 k _ (at' k Om)).mpr (kQb _)
  refine Nat.le_antisymm (kXb fun c=>?_) lo
  have g:=(h2 k _ (at' k Om)).mp c
  cases k with
  |zero=>exact absurd g (kZa _)
  |succ k=>
   have:=hs.lt (at' k Om) (at' (k+1) Om) (kQb _)
   have g:t.place.getD (k+1) 0<t.place.getD k 0+1:=g
   lia
 refine⟨f,rfl,fun k v e=>?_,?_⟩
 .rw[jV,yX]at e
  obtain⟨p,ep,rfl⟩:=zV.mp e
  have hk:=(Array.getElem?_eq_some_iff.mp ep).1
  show nxP es t (f k)=some (p.2,t.place.getD k 0+1)
  unfold nxP
  rw[bel k Om,ep,at' k Om]
 .rw[jX,zX]
  show nxP es t (f es.size)=none
  unfold nxP
  rw[bel es.size Om,kJc (jW _)]
theorem Vf{α:Type}:∀{l:List α} {i:Nat} {x:α},l[i]?=some x->l.Perm (x::l.eraseIdx i)
 |[],_,_,h=>nomatch h
 |a::l,0,x,h=>by cases h;exact .refl _
 |a::l,i+1,x,h=>(List.Perm.cons a (Vf (l:=l) (i:=i) h)).trans (.swap x a _)
theorem Qea{α:Type}(next:Nat->Nat):∀(fuel k:Nat) (left:List α) (out:Array α),left.length<=fuel->(pickOrder.go next fuel k left out).toList.Perm (out.toList++left)
 |0,_,left,out,h=>by
  have:left=[]:=xJ Om
  rw[this,jZa];exact .refl _
 |fuel+1,k,left,out,h=>by
  unfold pickOrder.go
  cases e:left[next k % left.length]? with
  |none=>
   have:left=[]:=by
    cases left with
    |nil=>rfl
    |cons a l=>rw[gE (yJd _ (by simp))]at e;cases e
   rw[this,jZa]
  |some y=>
   have hl:=(jK.mp e).1
   have:=Qea next fuel (k+1) (left.eraseIdx (next k % left.length)) (out.push y) (by rw[List.length_eraseIdx,if_pos hl];lia)
   rw[wV,kZ]at this
   exact this.trans ((Vf e).symm.append_left _)
theorem Qtw(es:Array (Int×Value))(next:Nat->Nat):∃vs,vs.Perm (es.toList.map (·.2))/\Wk (fun s i=>((pickOrder next es)[i]?).map fun e=>(e.2,s)) vs (fun _=>0):=by
 refine⟨(pickOrder next es).toList.map (·.2),?_,fun k v e=>?_,?_⟩
 .have:=Qea next es.size 0 es.toList #[] (by rw[zX];exact jW _)
  exact this.map _
 .rw[jV,yX]at e
  obtain⟨p,ep,rfl⟩:=zV.mp e
  rw[ep]
  try rfl
 .rw[jX,zX,kJc (jW _)];rfl
section
variable{prog:Program}{w:World}{A:Around}{E:Value->Shared->Prop}{s:Shared}{d I:Addr}{o:Obj}{es:Array (Int×Value)}{ep:Nat}{t:SetTable}
theorem Qtx{sl sl' i:Nat}{v:Value}{Q:Option Value->Shared->Prop}(F:SwO prog w o es ep t)(hI:s.heap.get? I=some (siO (.int sl 0) i d es.size ep))(hd:s.heap.get? d=some o)(hn:Nx prog w d o ep sl i (some (v,sl')))
  (q:∀h',h'.get? I=some (siO (.int sl' 0) (i+1) d es.size ep)->Heap.SameBut I s.heap h'->Q (some v) { s with heap:=h' }):wpAny (model prog w) A (pyNext (.ref I)) Q E s:=by
 have hT:s.TypeIs (.ref I) "set_iterator":=⟨_,hI,rfl⟩
 unfold pyNext
 refine jQ (wpAny_attempt (wpAny_callSpecial?_slot (name:=Str.ofString "__next__") hT si_next (wpAny_call_entry si_next hT Vs ?_ (Qbt _))))
 unfold Builtin.«set_iterator.__next__»
 refine jQ (jJ ?_)
 refine jQ (wpAny_fieldsOf hI rfl ?_)
 show wpAny _ _ (setEntries d >>= _) _ _ s
 refine jQ (wpAny_setEntries_of hd F.dat F.fit ?_)
 show wpAny _ _ (if ((es.size:Int) != (es.size:Int))=true then _ else _) _ _ s
 rw[if_neg (by simp)]
 show wpAny _ _ (setNext d (sl:Int).toNat (i:Int).toNat (ep:Int).toNat >>= _) _ _ s
 refine jQ (hn _ _ _ _ hd ?_)
 show wpAny _ _ (setField (.ref I) 0 (rawInt (sl':Int)) >>= _) _ _ s
 refine jQ (wpAny_setField_rec hI (by simp) fun h1 g1 b1=>?_)
 refine jQ (wpAny_setField_rec (s:={ s with heap:=h1 }) g1 (by simp) fun h2 g2 b2=>?_)
 refine jJ ⟨_,rfl,jJ (q h2 ?_ (b1.trans b2))⟩
 rw[g2]
 simp[rawInt]
theorem Qty{sl i:Nat}{Q:Option Value->Shared->Prop}(hh:A.handled=none)(F:SwO prog w o es ep t)(hI:s.heap.get? I=some (siO (.int sl 0) i d es.size ep))(hd:s.heap.get? d=some o)(hn:Nx prog w d o ep sl i none)
  (q:∀h',Heap.ExtBut I s.heap h'->Q none { s with heap:=h' }):wpAny (model prog w) A (pyNext (.ref I)) Q E s:=by
 have hT:s.TypeIs (.ref I) "set_iterator":=⟨_,hI,rfl⟩
 unfold pyNext
 refine jQ (wpAny_attempt (wpAny_callSpecial?_slot (name:=Str.ofString "__next__") hT si_next (wpAny_call_entry si_next hT Vs ?_ (Qbt _))))
 unfold Builtin.«set_iterator.__next__»
 refine jQ (jJ ?_)
 refine jQ (wpAny_fieldsOf hI rfl ?_)
 show wpAny _ _ (setEntries d >>= _) _ _ s
 refine jQ (wpAny_setEntries_of hd F.dat F.fit ?_)
 show wpAny _ _ (if ((es.size:Int) != (es.size:Int))=true then _ else _) _ _ s
 rw[if_neg (by simp)]
 show wpAny _ _ (setNext d (sl:Int).toNat (i:Int).toNat (ep:Int).toNat >>= _) _ _ s
 refine jQ (hn _ _ _ _ hd ?_)
 show wpAny _ _ (setField (.ref I) 2 .none >>= _) _ _ s
 refine jQ (wpAny_setField hI rfl (by simp) ?_)
 exact Qdz hh (Heap.SameBut.update ..).extBut q
end
section
variable{prog:Program}{w:World}{A:Around}{E:Value->Shared->Prop}{s:Shared}{d I T:Addr}{o:Obj}{es:Array (Int×Value)}{ep:Nat}{t:SetTable}
theorem Qng{α:Type}:∀(m:Nat) (xs:List α) (s:Shared) (Q:List α->Shared->Prop),m=xs.length->(∀ys dr,ys.Perm xs->Q ys { s with drawn:=dr })->wpAny (model prog w) A (drawOrder m xs) Q E s
 |0,xs,s,Q,h,q=>by
  unfold drawOrder
  have:xs=[]:=xJ h.symm
  exact jJ (q [] s.drawn (by rw[this]))
 |m+1,[],s,Q,h,_=>absurd h (Nat.succ_ne_zero _)
 |m+1,x::xs,s,Q,h,q=>by
  unfold drawOrder
  refine jQ (Qnf (by simp) fun i dr hi=>?_)
  rw[gE hi]
  dsimp only
  refine jQ (Qng m _ _ _ (by rw[List.length_eraseIdx,if_pos hi];simp at h⊢;exact h) fun ys dr' p1=>jJ (q _ dr' ?_))
  exact(p1.cons _).trans (Vf (gE hi)).symm
theorem Qjf(hh:A.handled=none)(hne:d≠I)(F:SwO prog w o es ep t){nx:Nat->Nat->Option (Value×Nat)}{vs:List Value}(hx:∀sl i,Nx prog w d o ep sl i (nx sl i)){f:Nat->Nat}(W:Wk nx vs f) :
  Walks prog w A I [I,d] [I] vs.length (fun i v=>vs[i]?=some v) (fun i h=>h.get? I=some (siO (.int (f i) 0) i d es.size ep)/\h.get? d=some o) where
 sub:=fun b hb=>by simp at hb;simp[hb]
 frame:=fun _ _ _ st hk=>⟨hk I (by simp) _ st.1,hk d (by simp) _ st.2⟩
 item:=fun i s Q E hi st hQ=>by
  have hv:vs[i]?=some vs[i]:=gE hi
  have e:=W.item i _ hv
  have h1:=hx (f i) i
  rw[e]at h1
  refine Qtx F st.1 st.2 h1 fun h' g1 b1=>?_
  exact hQ _ h' s.toks hv ⟨g1,b1.extBut d _ hne st.2⟩ fun b o hb e=>b1.extBut b o (fun h=>hb (by simp[h])) e
 done:=fun s Q E st hQ=>by
  have h1:=hx (f vs.length) vs.length
  rw[W.done]at h1
  exact Qty hh F st.1 st.2 h1 fun h' b1=>hQ h' s.toks fun b o hb e=>b1 b o (fun h=>hb (by simp[h])) e
 self:=fun _ _ _ _ st hQ=>Qne st.1 hQ
theorem Qnh{i p tk:Nat}{ps:Array Value}{tn:Nat}{Q:Option Value->Shared->Prop}{e:Int×Value}{oT:Obj}(F:SwO prog w o es ep t)(hI:s.heap.get? I=some (siO (.ref T) i d es.size ep))(hd:s.heap.get? d=some o)(hT:s.heap.get? T=some oT)(hTd:oT.data=.seq ps tn)(hp:ps[i]?=some (.int p tk))(he:es[p]?=some e)
  (q:∀h',h'.get? I=some (siO (.ref T) (i+1) d es.size ep)->Heap.SameBut I s.heap h'->Q (some e.2) { s with heap:=h' }):wpAny (model prog w) A (pyNext (.ref I)) Q E s:=by
 have hTy:s.TypeIs (.ref I) "set_iterator":=⟨_,hI,rfl⟩
 unfold pyNext
 refine jQ (wpAny_attempt (wpAny_callSpecial?_slot (name:=Str.ofString "__next__") hTy si_next (wpAny_call_entry si_next hTy Vs ?_ (Qbt _))))
 unfold Builtin.«set_iterator.__next__»
 refine jQ (jJ ?_)
 refine jQ (wpAny_fieldsOf hI rfl ?_)
 show wpAny _ _ (setEntries d >>= _) _ _ s
 refine jQ (wpAny_setEntries_of hd F.dat F.fit ?_)
 show wpAny _ _ (if ((es.size:Int) != (es.size:Int))=true then _ else _) _ _ s
 rw[if_neg (by simp)]
 show wpAny _ _ (seqItems? (.ref T) >>= _) _ _ s
 refine jQ (wpAny_seqItems hT hTd ?_)
 dsimp only
 rw[jQe,hp]
 show wpAny _ _ (setNextDrawn d (p:Int).toNat (ep:Int).toNat >>= _) _ _ s
 unfold setNextDrawn
 refine jQ (jQ (wpAny_setState_of hd F.dat F.fit ?_))
 dsimp only
 rw[jQe,jQe,if_neg (by simp),he]
 refine jJ ?_
 show wpAny _ _ (setField (.ref I) 1 (rawInt ((i:Int)+1)) >>= _) _ _ s
 refine jQ (wpAny_setField_rec hI (by simp) fun h1 g1 b1=>?_)
 refine jJ ⟨_,rfl,jJ (q h1 ?_ b1)⟩
 rw[g1]
 simp[rawInt]
theorem Qni{i:Nat}{ps:Array Value}{tn:Nat}{Q:Option Value->Shared->Prop}{oT:Obj}(hh:A.handled=none)(F:SwO prog w o es ep t)(hI:s.heap.get? I=some (siO (.ref T) i d es.size ep))(hd:s.heap.get? d=some o)(hT:s.heap.get? T=some oT)(hTd:oT.data=.seq ps tn)(hp:ps[i]?=none)
  (q:∀h',Heap.ExtBut I s.heap h'->Q none { s with heap:=h' }):wpAny (model prog w) A (pyNext (.ref I)) Q E s:=by
 have hTy:s.TypeIs (.ref I) "set_iterator":=⟨_,hI,rfl⟩
 unfold pyNext
 refine jQ (wpAny_attempt (wpAny_callSpecial?_slot (name:=Str.ofString "__next__") hTy si_next (wpAny_call_entry si_next hTy Vs ?_ (Qbt _))))
 unfold Builtin.«set_iterator.__next__»
 refine jQ (jJ ?_)
 refine jQ (wpAny_fieldsOf hI rfl ?_)
 show wpAny _ _ (setEntries d >>= _) _ _ s
 refine jQ (wpAny_setEntries_of hd F.dat F.fit ?_)
 show wpAny _ _ (if ((es.size:Int) != (es.size:Int))=true then _ else _) _ _ s
 rw[if_neg (by simp)]
 show wpAny _ _ (seqItems? (.ref T) >>= _) _ _ s
 refine jQ (wpAny_seqItems hT hTd ?_)
 dsimp only
 rw[jQe,hp]
 show wpAny _ _ (setField (.ref I) 0 (rawInt 0) >>= _) _ _ s
 refine jQ (wpAny_setField_rec hI (by simp) fun h1 g1 b1=>?_)
 show wpAny _ _ (setField (.ref I) 2 .none >>= _) _ _ _
 refine jQ (wpAny_setField_rec (s:={ s with heap:=h1 }) g1 (by simp) fun h2 g2 b2=>?_)
 exact Qdz (s:=s) hh (b1.trans b2).extBut q
theorem Qnj(hh:A.handled=none)(hne:d≠I)(hnT:T≠I)(F:SwO prog w o es ep t){oT:Obj}{ps:List Nat}{tn:Nat}(hTd:oT.data=.seq (ps.map fun(i:Nat)=>rawInt i).toArray tn)(hp:∀p∈ps,p<es.size) :
  Walks prog w A I [I,d,T] [I] ps.length (fun i v=>(ps.map fun p=>(es.getD p (0,Value.none)).2)[i]?=some v) (fun i h=>h.get? I=some (siO (.ref T) i d es.size ep)/\h.get? d=some o/\h.get? T=some oT) where
 sub:=fun b hb=>by simp at hb;simp[hb]
 frame:=fun _ _ _ st hk=>⟨hk I (by simp) _ st.1,hk d (by simp) _ st.2.1,hk T (by simp) _ st.2.2⟩
 item:=fun i s Q E hi st hQ=>by
  have lp:=hp _ (jXf hi)
  refine Qnh (p:=ps[i]) (tk:=0) (e:=es[ps[i]]) F st.1 st.2.1 st.2.2 hTd (by simp[hi,rawInt]) (jXd lp) fun h' g1 b1=>?_
  exact hQ _ h' s.toks (by rw[jV,gE hi];show some (es.getD ps[i] (0,Value.none)).2=some es[ps[i]].2;rw[jXa,jXd lp];rfl) ⟨g1,b1.extBut d _ hne st.2.1,b1.extBut T _ hnT st.2.2⟩ fun b o hb e=>b1.extBut b o (fun h=>hb (by simp[h])) e
 done:=fun s Q E st hQ=>Qni hh F st.1 st.2.1 st.2.2 hTd (by simp) fun h' b1=>hQ h' s.toks fun b o hb e=>b1 b o (fun h=>hb (by simp[h])) e
 self:=fun _ _ _ _ st hQ=>Qne st.1 hQ
end
section
variable{prog:Program}{w:World}{A:Around}{E:Value->Shared->Prop}{s:Shared}{d:Addr}
theorem Qqq{Q:Value->Shared->Prop}(hh:A.handled=none){o:Obj}{es:Array (Int×Value)}{ep:Nat}{t:SetTable}(ho:s.heap.get? d=some o)(F:SwO prog w o es ep t)
  (q:∀(I:Addr) (h':Heap) (dr:_) (vs:List Value) (fp:List Addr) (St:Nat->Heap->Prop),vs.Perm (es.toList.map (·.2))->Walks prog w A I fp [I] vs.length (fun i v=>vs[i]?=some v) St->St 0 h'->s.heap.objs.size<=I->(∀b∈fp,b=d\/s.heap.objs.size<=b)->(∀b o,s.heap.get? b=some o->h'.get? b=some o)->Q (.ref I) { s with heap:=h',drawn:=dr }) :
  wpAny (model prog w) A (pyIter (.ref d)) Q E s:=by
 have hlt:=kK ho
 have hlow:=F.low
 have hT:s.TypeIs (.ref d) "set":=⟨_,ho,F.ex.1⟩
 refine wpAny_pyIter_slot hT PySem.F.slot_set_iter (wpAny_call_entry PySem.F.slot_set_iter hT Qql ?_ (PySem.F.args_set_iter_1 _))
 unfold Builtin.«frozenset.__iter__»
 refine jQ (jJ ?_)
 refine jQ ?_
 unfold Builtin.Frozenset.sizeOf
 refine jQ (wpAny_setEntries_of ho F.dat F.fit (jJ ?_))
 refine jQ ?_
 unfold setDrawn
 refine jQ (wpAny_setState_of ho F.dat F.fit ?_)
 dsimp only
 refine jQ (Qbu (jJ ?_))
 show wpAny _ _ (if (!w.params.followText "set-order" && (!t.plain&&decide (es.size > 1)))=true then _ else _) _ _ _
 have fin:∀nx vs f,(∀sl i,Nx prog w d o ep sl i (nx sl i))->vs.Perm (es.toList.map (·.2))->f 0=0->Wk nx vs f ->
   wpAny (model prog w) A.in1 (setEpoch d >>= fun k=>newFields "set_iterator" [rawInt 0,rawInt 0,.ref d,rawInt es.size,rawInt k] >>= fun x=>ret x) (fun fin s'=>∃v,fin=PySem.Fin.done (Flow.ret v)/\∃T' r,s'.TypeIs v T'/\typeLookup (.type T') "__next__"=pure (some r)/\Q v s') E s:=by
  intro nx vs f hx hN f0 W
  refine jQ (wpAny_setEpoch_of ho F.dat F.fit ?_)
  unfold newFields
  refine jQ (wpAny_newObj_type ?_ (by size_fits))
  have g:(s.heap.push (siO (.int (f 0) 0) 0 d es.size ep)).get? s.heap.objs.size=_:=kX _ rfl
  refine jJ ⟨_,rfl,"set_iterator",_,⟨_,kX _ rfl,rfl⟩,si_next.lookup,?_⟩
  have:=q s.heap.objs.size (s.heap.push (siO (.int (f 0) 0) 0 d es.size ep)) s.drawn vs _ _ hN (Qjf (A:=A) (I:=s.heap.objs.size) hh (yZ hlt) F hx W) ⟨g,jZ _ ho⟩ (jW _) (fun b hb=>by
   simp only[yY,kXe,or_false]at hb
   rcases hb with rfl | rfl
   .exact .inr (jW _)
   .exact .inl rfl) fun b o e=>jZ _ e
  rw[f0]at this
  exact this
 by_cases c:w.params.followText "set-order"=true
 .rw[c]
  simp only[jJf,Bool.false_and,yJ,if_false]
  refine jQ (jJ ?_)
  obtain⟨vs,hN,W⟩:=Qtw es (w.params.setOrder d ep)
  exact fin _ vs _ (fun sl i=>Qtv F c sl i) hN rfl W
 .have c':w.params.followText "set-order"=false:=by simpa using c
  rw[c']
  simp only[yJe,Bool.true_and]
  by_cases c2:(!t.plain&&decide (es.size > 1))=true
  .rw[if_pos c2]
   refine jQ (Qng _ _ _ _ (by rw[kQ]) fun ys dr m1=>?_)
   have l1:ys.length=es.size:=by rw[m1.length_eq,kQ]
   have hps:∀p∈ys,p<es.size:=fun p hp=>yQ.mp (m1.mem_iff.mp hp)
   have z1:(4096:Nat)<sizeLine:=Dc
   refine jQ (wpAny_newTuple ?_ (by rw[jX];lia))
   have gT:(s.heap.push { cls:=.type "tuple",data:=.seq (ys.map fun(i:Nat)=>rawInt i).toArray }).get? s.heap.objs.size=_:=kX _ rfl
   have gd:=jZ { cls:=.type "tuple",data:=.seq (ys.map fun(i:Nat)=>rawInt i).toArray } ho
   have kp:∀b o,s.heap.get? b=some o->(s.heap.push { cls:=.type "tuple",data:=.seq (ys.map fun(i:Nat)=>rawInt i).toArray }).get? b=some o:=fun b o e=>jZ _ e
   have zz:(s.heap.push { cls:=.type "tuple",data:=.seq (ys.map fun(i:Nat)=>rawInt i).toArray }).objs.size=s.heap.objs.size+1:=jYf ..
   show wpAny _ _ _ _ _ { s with heap:=s.heap.push { cls:=.type "tuple",data:=.seq (ys.map fun(i:Nat)=>rawInt i).toArray },drawn:=dr }
   generalize s.heap.push { cls:=.type "tuple",data:=.seq (ys.map fun(i:Nat)=>rawInt i).toArray }=h1 at gT gd kp zz⊢
   refine jQ (wpAny_setEpoch_of (s:={ s with heap:=h1,drawn:=dr }) gd F.dat F.fit ?_)
   unfold newFields
   refine jQ (wpAny_newObj_type ?_ (by size_fits))
   refine jJ ⟨_,rfl,"set_iterator",_,⟨_,kX _ rfl,rfl⟩,si_next.lookup,?_⟩
   have gI:(h1.push (siO (.ref s.heap.objs.size) 0 d es.size ep)).get? h1.objs.size=_:=kX _ rfl
   have pm:(ys.map fun p=>(es.getD p (0,Value.none)).2).Perm (es.toList.map (·.2)):=by
    have e1:es.toList.map (·.2)=(List.range es.size).map fun p=>(es.getD p (0,Value.none)).2:=by
     refine yQa (by simp) fun i a1 a2=>?_
     rw[jX,zX]at a1
     rw[kXd,kXd,kXf,kKd,jXa,jXd a1]
     rfl
    rw[e1]
    exact m1.map _
   have W:=Qnj (prog:=prog) (w:=w) (A:=A) (I:=h1.objs.size) (T:=s.heap.objs.size) (d:=d) hh (by rw[zz];exact yZ (jJa hlt)) (by rw[zz];exact yZ (kQb _)) F (oT:={ cls:=.type "tuple",data:=.seq (ys.map fun(i:Nat)=>rawInt i).toArray }) (ps:=ys) rfl hps
   rw[show ys.length=(ys.map fun p=>(es.getD p (0,Value.none)).2).length from(jX ..).symm]at W
   exact q h1.objs.size (h1.push (siO (.ref s.heap.objs.size) 0 d es.size ep)) dr (ys.map fun p=>(es.getD p (0,Value.none)).2) _ _ pm W ⟨gI,jZ _ gd,jZ _ gT⟩ (by rw[zz];exact kQe _) (fun b hb=>by
    simp only[yY,kXe,or_false]at hb
    rcases hb with rfl | rfl | rfl
    .exact .inr (by rw[zz];exact kQe _)
    .exact .inl rfl
    .exact .inr (jW _)) fun b o e=>jZ _ (kp b o e)
  .rw[if_neg c2]
   refine jQ (jJ ?_)
   obtain⟨f,f0,W⟩:=Qqp F.srt F.psz
   exact fin _ _ f (fun sl i=>Qqo F c' (by simpa using c2) sl i) (.refl _) f0 W
end
theorem Qjg{R:Result->Shared->Prop}(hh:A.handled=none){o:Obj}{es:Array (Int×Value)}{ep:Nat}{t:SetTable}(ho:s.heap.get? d=some o)(F:SwO prog w o es ep t)(T:Addr)(hTd:T≠d)(res:Value)(hT:s.heap.get? T=some { cls:=.type "list",data:=.seq #[] 0 })
  (q:∀h' tk dr (acc:Array Value) c,acc.toList.Perm (es.toList.map (·.2))->(∀b o,b≠T->s.heap.get? b=some o->h'.get? b=some o)->h'.get? T=some { cls:=.type "list",dict:=none,data:=.seq acc c,slots:=#[] }->R (.ok (.ret res)) { s with heap:=h',toks:=tk,drawn:=dr }) :
  wpAny (model prog w) A.in1 (Builtin.List.listExtendWith (.ref T) (.ref d) res)
   (fun fin s'=>match fin with | .done f=>R (.ok f) s' | .again c'=>c'.quiet=true/\codeAny (model prog w) A c' R s') (fun e s'=>R (.error e) s') s:=by
 have hTy:s.TypeIs (.ref d) "set":=⟨_,ho,F.ex.1⟩
 unfold Builtin.List.listExtendWith
 refine jQ (wpAny_typeOf hTy ?_)
 have h1:Builtin.List.listSameRef (.ref T) (.ref d)=false:=by simp[Builtin.List.listSameRef,hTd]
 have h2:(Value.type "set" == Value.type "list")=false:=Dc
 have h3:(Value.type "set" == Value.type "tuple")=false:=Dc
 simp only[h1,h2,h3,Bool.or_false,yJ,if_false]
 refine jQ (Qqq (A:=A.in1) hh ho F fun I h1 dr vs fp St hN W st hI hfp kp=>?_)
 have lvs:vs.length<4096:=by rw[hN.length_eq,jX,zX];exact F.low
 have lz:(4096:Nat)<sizeLine:=Dc
 have lT:=kK hT
 have hTf:T∉fp:=fun z=>by
  rcases hfp T z with e | e
  .exact hTd e
  .exact absurd lT (Nat.not_lt.mpr e)
 have key:∀(h:Heap) (c:Nat),St 0 h->(∀b o,b≠T->s.heap.get? b=some o->h.get? b=some o)->h.get? T=some { cls:=.type "list",data:=.seq #[] c } ->
   codeAny (model prog w) A (.builtin "list.extend.loop" ⟨[.ref T,.ref I,res],[]⟩) R { s with heap:=h,drawn:=dr }:=by
  intro h c hst hk g
  refine codeAny_extend_loopS W.toS Om T hTf res vs.length 0 _ #[] c rfl (wY _) hst g (ItemsOf.nil _) fun s' acc c' m g' ha=>?_
  rw[Moved.eq_with m]
  have ea:acc.toList=vs:=by
   refine yQa (by rw[zX];exact ha.1) fun i a1 a2=>?_
   have h3:vs[i]?=some acc[i]:=ha.2 i _ (jXd (by rw[<-zX];exact a1))
   rw[gE a2]at h3
   rw[kKd]
   exact(Option.some.inj h3).symm
  refine q s'.heap s'.toks dr acc c' (by rw[ea];exact hN) (fun b o hb e=>m.heap b o (fun z=>?_) (hk b o hb e)) g'
  rcases yY.mp z with e' | z
  .exact hb e'
  .exact absurd (kK e) (by rw[kW.mp z];exact Nat.not_lt.mpr hI)
 have g1:=kp T _ hT
 refine jQ (wpAny_holding (Qqn (s:={ s with heap:=h1,drawn:=dr }) (hTy.imp fun o ⟨x,y⟩=>⟨kp _ _ x,y⟩) ?_))
 refine wpAny_ite_split (fun _=>?_) (fun _=>jJ ⟨kQd PySem.F.plain_extend_loop _,key h1 0 st (fun b o _ e=>kp b o e) g1⟩)
 refine jQ (wpAny_rule (jQ ?_))
 show wpAny _ _ (updateSeq T (·.push .none) >>= fun _=>updateSeq T (·.pop)) _ _ _
 refine jQ (wpAny_updateSeq g1 rfl ?_)
 have g2:=jJc (Obj.mapSeq (·.push Value.none)) g1 rfl
 refine wpAny_updateSeq (hz:=by seq_fits) g2 rfl ?_
 have g3:=jJc (Obj.mapSeq (·.pop)) g2 rfl
 have oth:∀b o,b≠T->h1.get? b=some o->((h1.update T (Obj.mapSeq (·.push Value.none))).update T (Obj.mapSeq (·.pop))).get? b=some o:=fun b o hb e=>(jYe _ _ (Ne.symm hb)).trans ((jYe _ _ (Ne.symm hb)).trans e)
 exact jJ ⟨kQd PySem.F.plain_extend_loop _,key _ _ (W.frame 0 _ _ st fun b hb o e=>oth b o (fun z=>hTf (z▸hb)) e) (fun b o hb e=>oth b o hb (kp b o e)) g3⟩
theorem collect_set{R:List Value->Shared->Prop}(hh:A.handled=none){o:Obj}{es:Array (Int×Value)}{ep:Nat}{t:SetTable}(ho:s.heap.get? d=some o)(F:SwO prog w o es ep t)
  (q:∀(h':Heap) (tk:Nat) (dr:_) (acc:Array Value),acc.toList.Perm (es.toList.map (·.2))->(∀b o,s.heap.get? b=some o->h'.get? b=some o)->R acc.toList { s with heap:=h',toks:=tk,drawn:=dr }):wpAny (model prog w) A (collect (.ref d)) R E s:=by
 have hlt:d<s.heap.objs.size:=kK ho
 unfold collect
 refine jQ (wpAny_runValue (codeAny_builtin entry_proto_collect' ?_))
 rw[Around.under_plainId PySem.F.plain_proto_collect _]
 show wpAny _ A.in1 (newList [] >>= fun l=>again (.builtin "list.__iadd__" ⟨[l,.ref d],[]⟩)) _ _ s
 refine jQ (wpAny_newObj_type (jJ ⟨kQd PySem.F.plain_list_iadd _,codeAny_builtin entry_list_iadd' ?_⟩))
 rw[Around.under_plainId PySem.F.plain_list_iadd _]
 have g1:(s.heap.push { cls:=.type "list",data:=.seq ([]:List Value).toArray }).get? s.heap.objs.size=some { cls:=.type "list",data:=.seq #[] }:=kX _ rfl
 show wpAny _ A.in1 (Builtin.List.listExtendWith (.ref s.heap.objs.size) (.ref d) (.ref s.heap.objs.size)) _ _ _
 have key:=Qjg (A:=A) (s:={ s with heap:=s.heap.push { cls:=.type "list",data:=.seq ([]:List Value).toArray } })
  (R:=fun(r:Result) (s':Shared)=>∃(h':Heap) (tk:Nat) (dr:_) (acc:Array Value) (c:Nat),r=.ok (.ret (.ref s.heap.objs.size))/\s'={ s with heap:=h',toks:=tk,drawn:=dr }/\acc.toList.Perm (es.toList.map (·.2)) /\
   (∀b o,s.heap.get? b=some o->h'.get? b=some o)/\h'.get? s.heap.objs.size=some { cls:=.type "list",dict:=none,data:=.seq acc c,slots:=#[] })
  hh (jZ _ ho) F s.heap.objs.size (kJa hlt) (.ref s.heap.objs.size) g1
  (fun h' tk dr acc c hN hk hg=>⟨h',tk,dr,acc,c,rfl,rfl,hN,fun b o e=>hk b o (yZ (kK e)) (jZ _ e),hg⟩)
 refine wpAny_mono key (fun fin s' x=>?_) fun e s' x=>?_
 .cases fin with
  |done f=>
   obtain⟨h',tk,dr,acc,c,e,rfl,hN,hk,hg⟩:=x
   cases e
   show wpAny _ A (load s.heap.objs.size >>= _) _ _ _
   exact jQ (wpAny_load hg (jJ (q h' tk dr acc hN hk)))
  |again c₁=>
   refine⟨x.1,codeAny_mono x.2 fun r s₂ y=>?_⟩
   obtain⟨h',tk,dr,acc,c,rfl,rfl,hN,hk,hg⟩:=y
   show wpAny _ A (load s.heap.objs.size >>= _) _ _ _
   exact jQ (wpAny_load hg (jJ (q h' tk dr acc hN hk)))
 .obtain⟨_,_,_,_,_,e',_⟩:=x
  cases e'
end L2.V
namespace L2
open PySem PySem.Spec PyProof.Rows PySem.SeqAt PySem.W
def LksAre(K:Fg)(H:Hp):List V->List D->Prop:=Paired fun v k=>∃a,v=.ref a/\LkT K H a k
theorem LksAre.same{K:Fg}{H H':Hp}{vs:List V}{ks:List D}(h:LksAre K H vs ks)(s:Same H H'):LksAre K H' vs ks:=Paired.mapP h fun _ _ ⟨a,e,z⟩=>⟨a,e,z.same s⟩
structure LkSet(P:Program)(w:World)(K:Fg)(H:Hp)(d:Addr)(rs:List D):Prop where
 ex:∃(o:Obj) (es:Array (Int×Value)) (ep:Nat) (t:SetTable),H d=some (TDo d o)/\V.SwO P w o es ep t/\es.size<=rs.length /\
  (∀e∈es.toList,∃r a,e.2=.ref a/\LkT K H a r/\r∈rs)/\∀r∈rs,∃e∈es.toList,∃a,e.2=.ref a/\LkT K H a r
section
variable{X:Cx}
theorem Qqr{K:Fg}{H:Hp}:∀{ws:List V} {rs:List D} {us:List Value},LksAre K H ws rs->Vals ws us->∃its:List Addr,us=its.map Value.ref/\its.length=rs.length/\∀(j:Nat) (r:D),rs[j]?=some r->∃a:Addr,its[j]?=some a/\LkT K H a r:=by
 intro ws rs us h
 induction h generalizing us with
 |nil=>intro v;cases v;exact⟨[],rfl,rfl,fun j r e=>nomatch e⟩
 |cons a _ ih=>
  intro v
  cases v with
  |cons b c=>
   obtain⟨its,rfl,e2,e3⟩:=ih c
   obtain⟨t,rfl,ht⟩:=a
   cases b
   refine⟨t::its,rfl,by rw[yW,yW,e2],fun j r e=>?_⟩
   cases j with
   |zero=>cases e;exact⟨t,rfl,ht⟩
   |succ j=>exact e3 j r e
theorem Qfx(hc:X.calm=true)(hu:X.A.units+8<cLine):Yc X (.type "set") (fun xs H Q=>∃(l:Addr) (ws:List V) (rs:List D),xs=[.ref l]/\SqL X.K H l ws/\LksAre X.K H ws rs/\rs.length<=2000/\∀d ob,H d=none->LkSet X.prog X.w X.K (upd H d ob) d rs->Q (.ref d) (upd H d ob)):=by
 intro pins s σ H xs us Q I rv h
 obtain⟨l,ws,rs,rfl,hl,hr,hz,q⟩:=h
 obtain⟨u,rfl,ru⟩:=rv.one
 cases ru
 obtain⟨its0,r,pl,_⟩:=I.list hl
 obtain⟨its,rfl,e2,e3⟩:=Qqr hr r
 have e4:∀a∈its,∃r,r∈rs/\LkT X.K H a r:=fun a ha=>by
  obtain⟨j,ej⟩:=jZc.mp ha
  have lj:=(jK.mp ej).1
  obtain⟨a',ea,z⟩:=e3 j rs[j] (gE Om)
  rw[ej]at ea;cases ea
  exact⟨_,jXf _,z⟩
 refine Qaj (I.ok.hd hc) hu pl.isList (fun j r e=>?_) e2 hz fun h' tk hS hk=>?_
 .obtain⟨a,ea,ka⟩:=e3 j r e
  exact⟨a,ea,Zk I ka⟩
 .obtain⟨o,es,ep,t,S⟩:=hS
  have sz:=S.size
  have I2:Inv X pins σ (upd H s.heap.objs.size (TDo s.heap.objs.size o)) { s with heap:=h',toks:=tk }:=I.laid (o:=TDo s.heap.objs.size o) (fun b o e=>hk b o (kK e) e) (jW _) ⟨S.get,⟨o,S.get⟩,fun h1 h2 q1 q2=>q2 _ q1⟩
  have fr:=I.hok.fresh (a:=s.heap.objs.size) (jW _)
  have sm:Same H (upd H s.heap.objs.size (TDo s.heap.objs.size o)):=Qc fr _
  have key:∀r a,TKey X.prog X.w h' r a->a∈its->LkT X.K H a r:=fun r a k ha=>by
   obtain⟨r',_,z⟩:=e4 a ha
   have k':TKey X.prog X.w h' r' a:=(show TKey X.prog X.w s.heap r' a from Zk I z).at fun b o e _=>hk b o (kK e) e
   have:r=r':=(Yg X.prog X.w).inj k k'
   rw[this];exact z
  refine⟨.ref _,_,I2,rfl,q _ _ fr ⟨o,es,ep,t,Qb,⟨S.ex,S.dat,Om,Kq S.ok,S.srt,S.ok.size,S.led⟩,sz,fun e he=>?_,fun r hr'=>?_⟩⟩
  .obtain⟨r,a,rfl,k,m,ha⟩:=S.ents.of e he
   exact⟨r,a,rfl,(key r a k ha).same sm,m⟩
  .obtain⟨e,he,a,e1,k⟩:=S.ents.cov r hr'
   obtain⟨r',a',rfl,_,_,ha⟩:=S.ents.of e he
   have:a'=a:=by injection e1
   subst this
   exact⟨_,he,a',rfl,(key r a' k ha).same sm⟩
theorem Qbv(hc:X.calm=true)(hu:X.A.units+10<cLine):Yc X (.builtin "sorted") (fun xs H Q=>∃(d:Addr) (rs:List D),xs=[.ref d]/\LkSet X.prog X.w X.K H d rs/\rs.length<=2000/\(∀x∈rs,∀y∈rs,Comp 3 x y) /\
  ∀(D':Addr) (ws:List V) (ks:List D),H D'=none->LksAre X.K H ws ks->ks.length<=rs.length->(∀k∈ks,k∈rs)->(∀r∈rs,r∈ks)->Q (.ref D') (upd H D' (.lst ws))):=by
 intro pins s σ H xs us Q I rv h
 obtain⟨d,rs,rfl,g,hz,hcp,q⟩:=h
 obtain⟨u,rfl,ru⟩:=rv.one
 cases ru
 obtain⟨o,es,ep,t,hH,F,sz,h4,h5⟩:=g.ex
 obtain⟨ho,_⟩:=(show ObjOk X.prog X.w H s.heap d (TDo d o)from I.hok d _ hH)
 have hm:(1000000:Nat)<sizeLine:=Dc
 refine Calls.call_function_entry kind_sorted plain_sorted entry_sorted (args_sorted1 _) ?_
 unfold Builtin.«sorted»
 refine jQ (m:=checkCount "sorted" 1 1 _) (jJ ?_)
 refine jQ (V.collect_set (A:=X.A.in1) (I.ok.hd hc) ho F fun h' tk dr acc hp hk=>?_)
 have hl:acc.toList.length=es.size:=by rw[hp.length_eq,jX,zX]
 refine jQ (wpAny_newList ?_ (by rw[hl];have:=F.low;lia))
 have I1:Inv X pins σ H { s with drawn:=dr }:=⟨I.ok,I.os,I.bare,I.base,I.loc,I.cell,I.free,I.freeC,I.pin,I.hok,I.len⟩
 have I2:Inv X pins σ H { s with heap:=h',toks:=tk,drawn:=dr }:=I1.kept hk
 -- the things told,by their addresses and looks
 have at':∀u∈acc.toList,∃r a,u=Value.ref a/\LkT X.K H a r/\r∈rs:=fun u hu'=>by
  obtain⟨e,he,rfl⟩:=zQ.mp (hp.mem_iff.mp hu')
  exact h4 e he
 obtain⟨ps,eps,hps⟩:∃ps:List (Addr×D),acc.toList=ps.map (fun p=>Value.ref p.1)/\∀p∈ps,LkT X.K H p.1 p.2/\p.2∈rs:=by
  have:∀us:List Value,(∀u∈us,∃r a,u=Value.ref a/\LkT X.K H a r/\r∈rs)->∃ps:List (Addr×D),us=ps.map (fun p=>Value.ref p.1)/\∀p∈ps,LkT X.K H p.1 p.2/\p.2∈rs:=by
   intro us
   induction us with
   |nil=>intro _;exact⟨[],rfl,fun p hp=>nomatch hp⟩
   |cons u us ih=>
    intro h
    obtain⟨r,a,rfl,z,m⟩:=h u zJ
    obtain⟨ps,e,h2⟩:=ih fun v hv=>h v (zY _ hv)
    refine⟨(a,r)::ps,by rw[e];rfl,fun p hp=>?_⟩
    rcases yY.mp hp with rfl | hp
    .exact⟨z,m⟩
    .exact h2 p hp
  exact this _ at'
 have lps:ps.length=es.size:=by rw[<-hl,eps,jX]
 have hoL:(h'.push (seqObj "list" acc.toList.toArray 0)).get? h'.objs.size=some (seqObj "list" acc.toList.toArray 0):=kX _ rfl
 show wpAny _ _ _ _ _ { s with heap:=h'.push (seqObj "list" acc.toList.toArray 0),toks:=tk,drawn:=dr }
 have hr':Paired (TrA X.prog X.w h' 3) (ps.map (·.2)) acc.toList:=by
  rw[eps]
  refine Yq (by rw[jX,jX]) fun i x u e1 e2=>?_
  rw[jV]at e1 e2
  cases e3:ps[i]? with
  |none=>rw[e3]at e1;cases e1
  |some p=>
   rw[e3]at e1 e2
   cases e1;cases e2
   exact(Zk (s:={ s with heap:=h',toks:=tk,drawn:=dr }) I2 (hps p (kY e3)).1).1
 have hh:∀t∈ps.map (·.2),Qds true t:=fun t ht=>by
  obtain⟨p,hp,rfl⟩:=zQ.mp ht
  obtain⟨c,qs,e⟩:=(hps p hp).1.2.ex
  rw[e]
  exact⟨.int c,_,rfl,by rw[if_pos rfl];exact⟨c,rfl⟩⟩
 have hcp':∀x∈ps.map (·.2),∀y∈ps.map (·.2),Comp 3 x y:=fun x hx y hy=>by
  obtain⟨p,hp,rfl⟩:=zQ.mp hx
  obtain⟨p',hp',rfl⟩:=zQ.mp hy
  exact hcp _ (hps p hp).2 _ (hps p' hp').2
 have ext:∀b ob,h'.get? b=some ob->b≠h'.objs.size/\(h'.push (seqObj "list" acc.toList.toArray 0)).get? b=some ob:=fun b ob e=>⟨yZ (kK e),jZ _ e⟩
 have lv:acc.toList.length=(ps.map (·.2)).length:=by rw[eps,jX,jX]
 have at2:∀i,i<acc.toList.length->∃x,x∈ps.map (·.2)/\TrA X.prog X.w h' 3 x (acc.toList.getD i Value.none):=fun i hi=>by
  obtain⟨u,e,ht⟩:=Paired.getR hr' (gE (show i<(ps.map (·.2)).length by lia))
  refine⟨_,jXf (show i<(ps.map (·.2)).length by lia),?_⟩
  rw[jY,e]
  exact ht
 refine jQ (wpAny_holding (wpAny_call_entry slot_list_sort ⟨_,hoL,rfl⟩ entry_list_sort (Qmq (κ:=Qsd X.prog X.w h' 3 (ps.map (·.2))) (kd:=tuples' true) (s:={ s with heap:=h'.push (seqObj "list" acc.toList.toArray 0),toks:=tk,drawn:=dr }) hoL ext (fun p hp=>?_) (fun s' k=>?_) (fun s' {Q' E'} k h0 hq=>?_) (by rw[hl];have:=F.low;lia) fun p pp _=>⟨_,rfl,?_⟩) (args_list_sort _)))
 .rw[Vd]at hp
  obtain⟨v,hv,rfl⟩:=zQ.mp hp
  obtain⟨i,hi,e⟩:=yZa.mp hv
  obtain⟨x,hx,hT⟩:=at2 i hi
  rw[jY,gE hi]at hT
  rw[<-e]
  exact⟨_,Vq hx hT⟩
 .intro u v a c Q' E' ea ec q'
  obtain⟨x,hx,hT,rfl⟩:=Jn ea
  obtain⟨y,hy,hT',rfl⟩:=Jn ec
  exact Qms (by show X.A.units+1+1+2<cLine;lia) (hT.same fun b o e _=>k b o e) (hT'.same fun b o e _=>k b o e) (hcp' x hx y hy) (hh x hx) (hh y hy) q'
 .exact Qdu (Paired.mapP hr' fun _ _ z=>z.same fun b o e _=>k b o e) hh h0 hq
 refine jJ ⟨_,rfl,?_⟩
 have lp:p.length=ps.length:=by rw[pp.length_eq,kQ,lv,jX]
 obtain⟨e,he⟩:=sortedHeap_at (h:=h'.push (seqObj "list" acc.toList.toArray 0)) (vs:=acc.toList) (out:=List.toArray (p.map fun i=>acc.toList.getD i Value.none)) hoL
 have pi:∀i∈p,i<ps.length:=fun i hi=>by
  have:=yQ.mp (pp.mem_iff.mp hi)
  rw[lv,jX]at this;exact this
 let qs:=p.map fun i=>ps.getD i (0,.non)
 have eo:(p.map fun i=>acc.toList.getD i Value.none)=qs.map fun x=>Value.ref x.1:=by
  show _=(p.map fun i=>ps.getD i (0,.non)).map _
  rw[jQb]
  refine kXa fun i hi=>?_
  show acc.toList.getD i Value.none=Value.ref (ps.getD i (0,.non)).1
  rw[eps,jY,jY,jV,gE (pi i hi)]
  rfl
 have hqs:∀x∈qs,x∈ps:=fun x hx=>by
  obtain⟨i,hi,rfl⟩:=zQ.mp hx
  rw[jY,gE (pi i hi)]
  exact jXf _
 have lq:qs.length=ps.length:=by rw[<-lp];exact jX ..
 refine⟨.ref h'.objs.size,_,I2.laid (t':=tk) (o:=.lst (qs.map fun x=>V.ref x.1)) (fun b ob z5=>?_) (jW _) ⟨by rw[jX];have:=F.low;lia,p.map fun i=>acc.toList.getD i Value.none,e,?_,he⟩,rfl,q _ (qs.map fun x=>V.ref x.1) (qs.map (·.2)) (I2.hok.fresh (jW _)) ?_ (by rw[jX];lia) (fun k hk'=>?_) fun r hr2=>?_⟩
 .have hb:h'.get? b=some ob:=z5
  have lb:=kK hb
  rw[sortedHeap_old (yZ lb) (by rw[size_push'];exact jJa lb),Heap.get?_push_ne _ _ _ (yZ lb)]
  exact hb
 .rw[eo]
  refine Yq (by simp only[jX]) fun i x u e1 e2=>?_
  rw[jV]at e1 e2
  cases e3:qs[i]? with
  |none=>rw[e3]at e1;cases e1
  |some y=>rw[e3]at e1 e2;cases e1;cases e2;rfl
 .refine Yq (by simp only[jX]) fun i x u e1 e2=>?_
  rw[jV]at e1 e2
  cases e3:qs[i]? with
  |none=>rw[e3]at e1;cases e1
  |some y=>
   rw[e3]at e1 e2;cases e1;cases e2
   exact⟨y.1,rfl,(hps y (hqs y (kY e3))).1⟩
 .obtain⟨x,hx,rfl⟩:=zQ.mp hk'
  exact(hps x (hqs x hx)).2
 .obtain⟨e0,he0,a,e1,z⟩:=h5 r hr2
  have hm0:Value.ref a∈acc.toList:=hp.mem_iff.mpr (zQ.mpr ⟨e0,he0,e1⟩)
  rw[eps]at hm0
  obtain⟨y,hy,ey⟩:=zQ.mp hm0
  have ea:y.1=a:=by injection ey
  have ek:y.2=r:=by
   have k1:=Zk (s:={ s with heap:=h',toks:=tk,drawn:=dr }) I2 (hps y hy).1
   have k2:=Zk (s:={ s with heap:=h',toks:=tk,drawn:=dr }) I2 z
   rw[ea]at k1
   exact(Yg X.prog X.w).inj k1 k2
  obtain⟨j,ej⟩:=jZc.mp hy
  have lj:=(jK.mp ej).1
  refine zQ.mpr ⟨y,zQ.mpr ⟨j,pp.mem_iff.mpr (yQ.mpr (by rw[lv,jX];exact lj)),?_⟩,ek⟩
  rw[jY,ej];rfl
end
end L2
namespace Nb
open PySem L2
def fl2:List (Int×Int)->List Int
 |[]=>[]
 |p::ps=>p.1::p.2::fl2 ps
theorem Jh(p:Int×Int):flat 1 (prD p)=[p.1,p.2]:=rfl
theorem Jo:∀ps:List (Int×Int),flat 2 (.tup (ps.map prD))=fl2 ps
 |[]=>rfl
 |p::ps=>by
  show flat 1 (prD p)++flat 2 (.tup (ps.map prD))=_
  rw[Jo ps];rfl
theorem Qeb(c:Int)(ps:List (Int×Int)):flat 3 (Qdv c ps)=c::fl2 ps:=by
 show[c]++(flat 2 (.tup (ps.map prD))++[])=_
 rw[Jo,jZa];rfl
theorem Qfy:∀{ps qs:List (Int×Int)},fl2 ps=fl2 qs->ps=qs
 |[],[],_=>rfl
 |[],_::_,h=>nomatch h
 |_::_,[],h=>nomatch h
 |(a,b)::ps,(c,d)::qs,h=>by
  injection h with h1 h
  injection h with h2 h
  have h1:a=c:=h1
  have h2:b=d:=h2
  rw[Qfy h,h1,h2]
theorem Qtz{x y:D}(hx:LookS x)(hy:LookS y)(h:flat 3 x=flat 3 y):x=y:=by
 obtain⟨c,ps,rfl⟩:=hx.ex
 obtain⟨d,qs,rfl⟩:=hy.ex
 rw[Qeb,Qeb]at h
 injection h with h1 h2
 rw[h1,Qfy h2]
theorem Qec(p q:Int×Int):Comp 1 (prD p) (prD q):=by
 refine⟨.inl rfl,fun i x y e1 e2=>?_⟩
 match i with
 |0=>
  cases e1;cases e2
  exact⟨trivial,fun e=>by rw[Qw,Qw]at e;injection e with e;rw[e],.inl (by rw[Qw,Qw];rfl)⟩
 |1=>
  cases e1;cases e2
  exact⟨trivial,fun e=>by rw[Qw,Qw]at e;injection e with e;rw[e],.inl (by rw[Qw,Qw];rfl)⟩
 |i+2=>cases e1
theorem Qbw{x y:D}(hx:LookS x)(hy:LookS y):Comp 3 x y:=by
 obtain⟨c,ps,rfl⟩:=hx.ex
 obtain⟨d,qs,rfl⟩:=hy.ex
 have ne:∀(ps:List (Int×Int)),∀x∈ps.map prD,flat 1 x≠[]:=fun ps x hx=>by
  obtain⟨p,_,rfl⟩:=zQ.mp hx
  rw[Jh];simp
 have c2:Comp 2 (.tup (ps.map prD)) (.tup (qs.map prD)):=by
  refine⟨.inr ⟨ne ps,ne qs⟩,fun i x y e1 e2=>?_⟩
  rw[jV]at e1 e2
  obtain⟨p,_,rfl⟩:=zV.mp e1
  obtain⟨q,_,rfl⟩:=zV.mp e2
  refine⟨Qec p q,fun e=>?_,.inl rfl⟩
  rw[Jh,Jh]at e
  injection e with e1 e
  injection e with e2 e
  show D.tup [.int p.1,.int p.2]=D.tup [.int q.1,.int q.2]
  rw[e1,e2]
 refine⟨.inl rfl,fun i x y e1 e2=>?_⟩
 match i with
 |0=>
  cases e1;cases e2
  exact⟨trivial,fun e=>by rw[Qw,Qw]at e;injection e with e;rw[e],.inl (by rw[Qw,Qw];rfl)⟩
 |1=>
  cases e1;cases e2
  refine⟨c2,fun e=>?_,.inr ⟨rfl,rfl⟩⟩
  have e:flat 2 (.tup (ps.map prD))=flat 2 (.tup (qs.map prD)):=e
  rw[Jo,Jo]at e
  show D.tup (ps.map prD)=D.tup (qs.map prD)
  rw[Qfy e]
 |i+2=>cases e1
theorem Qnk{x:D}(h:LookS x):Qds true x:=by
 obtain⟨c,ps,rfl⟩:=h.ex
 exact⟨_,_,rfl,by rw[if_pos rfl];exact⟨c,rfl⟩⟩
theorem Qed:∀{xs ys:List D},(∀x∈xs,LookS x)->xs.Perm ys->xs.Pairwise (fun x y=>¬flat 3 y<flat 3 x)->ys.Pairwise (fun x y=>¬flat 3 y<flat 3 x)->xs=ys
 |[],ys,_,p,_,_=>(List.nil_perm.mp p).symm
 |x::xs,[],_,p,_,_=>absurd (List.perm_nil.mp p) (by simp)
 |x::xs,y::ys,hl,p,h1,h2=>by
  obtain⟨a1,a2⟩:=yXb.mp h1
  obtain⟨b1,b2⟩:=yXb.mp h2
  have hy:y∈x::xs:=p.mem_iff.mpr (zJ ..)
  have hx:x∈y::ys:=p.mem_iff.mp (zJ ..)
  have e:x=y:=by
   rcases yY.mp hy with e | m1
   .exact e.symm
   .rcases yY.mp hx with e | m2
    .exact e
    .exact Qtz (hl x (zJ ..)) (hl y hy) (List.le_antisymm (a1 y m1) (b1 x m2))
  subst e
  rw[Qed (fun z hz=>hl z (zY _ hz)) p.cons_inv a2 b2]
theorem Qjh{ks:List D}:∀k∈ks,∃i:Nat,valV (Yr (ks.mapIdx fun i k=>(k,V.int (i:Nat)))) k=some (.int (i:Nat))/\ks[i]?=some k:=by
 have h:∀(n:Nat),n<=ks.length->∀k,(∀i:Nat,i<n->ks[i]?≠some k)/\valV (Yr ((ks.mapIdx fun i k=>(k,V.int (i:Nat))).take n)) k=none\/∃i:Nat,i<n/\valV (Yr ((ks.mapIdx fun i k=>(k,V.int (i:Nat))).take n)) k=some (.int (i:Nat))/\ks[i]?=some k:=by
  intro n
  induction n with
  |zero=>exact fun _ k=>.inl ⟨fun i hi=>absurd hi (kZa i),rfl⟩
  |succ n ih=>
   intro hn k
   have e:(ks.mapIdx fun i k=>(k,V.int (i:Nat)))[n]?=some (ks[n],V.int (n:Nat)):=by
    rw[List.getElem?_mapIdx,gE Om];rfl
   rw[Ws e,Qgw]
   by_cases c:k=ks[n]
   .exact .inr ⟨n,kQb n,by rw[if_pos c],by rw[gE Om,c]⟩
   .rw[if_neg c]
    rcases ih Om k with⟨h1,h2⟩ | ⟨i,h1,h2,h3⟩
    .refine .inl ⟨fun i hi=>?_,h2⟩
     rcases Nat.lt_succ_iff_lt_or_eq.mp hi with z | z
     .exact h1 i z
     .rw[z,gE Om]
      exact fun y=>c (Option.some.inj y).symm
    .exact .inr ⟨i,jJa h1,h2,h3⟩
 intro k hk
 rcases h ks.length (jW _) k with⟨h1,_⟩ | ⟨i,_,h2,h3⟩
 .obtain⟨i,hi,e⟩:=jXc hk
  exact absurd (by rw[gE hi,e]) (h1 i hi)
 .refine⟨i,?_,h3⟩
  rw[jKc (by rw[List.length_mapIdx];exact jW _)]at h2
  exact h2
end Nb
namespace L2
open PySem PySem.Spec PyProof.Rows
theorem Wu{H H1:Hp}{D:Addr}{o:HO}(s:Same H H1)(hD:H D=none):Same H (upd H1 D o):=fun b u e=>by
 rw[Qk (Ql e hD)];exact s b u e
structure Walk{α:Type}(J:It)(H:Hp)(xs:List α)(val:α->V):Prop where
 go:∀i H1,Same H H1->i<xs.length->J.go i H1
 stop:∀H1,Same H H1->J.stop xs.length H1
 yl:∀i H1 v H2,Same H H1->J.yld i H1 v H2->i<xs.length->H2=H1/\∃x,xs[i]?=some x/\v=val x
theorem Ji{α:Type}{K:Fg}{H:Hp}{a:Addr}{xs:List α}{val:α->V}(h:SqL K H a (xs.map val)):Walk (Itl K a) H xs val where
 go i H1 s hi:=⟨_,_,s.seq h,gE (by rw[jX];exact hi)⟩
 stop H1 s:=⟨_,s.seq h,by rw[jX];exact jW _⟩
 yl i H1 v H2 s:=by
  rintro⟨rfl,e1⟩ hi
  have e:=e1 _ (s.seq h)
  rw[jV]at e
  obtain⟨x,ex,ev⟩:=zV.mp e
  exact⟨rfl,x,ex,ev.symm⟩
theorem Qnl{α:Type}{xs:List α}{i:Nat}{x:α}(h:xs[i]?=some x):xs.take (i+1)=xs.take i++[x]:=by
 obtain⟨hi,e⟩:=jK.mp h
 rw[List.take_succ,h]
 rfl
theorem Qua{α β:Type}{J:It}{H:Hp}{xs:List α}{val:α->V}{D:Addr}{cs τ0:St}{te:TE}{Q:Addr->Hp->Prop}(R:Hp->V->β->Prop)(f:α->β)(hτ:τ0=none::cs)(hw:Walk J H xs val)(fw:xs.length<sizeLine)(hD:H D=none)
  (Rs:∀{H1 H2 v x},Same H H1->Same H1 H2->R H1 v x->R H2 v x) (Ru:∀{H1 v x zs},R H1 v x->R (upd H1 D (.lst zs)) v x)
  (hs:∀x∈xs,∀H1,Same H H1->H1 D≠none->∀P:V->Hp->Prop,(∀v H2,Same H1 H2->R H2 v (f x)->P v H2)->te (some (val x)::cs) H1 P)
  (hd:∀H1 ys,Same H H1->H1 D=some (.lst ys)->Paired (R H1) ys (xs.map f)->Q D H1) :
  LcW J D τ0 H (Qag 0) tYes te Q:=by
 subst hτ
 let Pv11:Nat->St->List V->Hp->Prop:=fun i τ ys H1=>∃v:Option V,τ=v::cs/\H1 D=some (.lst ys)/\Same H H1/\i<=xs.length/\Paired (R H1) ys ((xs.take i).map f)
 refine Zx (n:=xs.length) Pv11 ?_ (fun i τ ys H1 hi h=>?_) (fun i τ ys H1 hi h=>?_) (fun τ ys H1 h=>?_) ?_ ?_
 .exact⟨none,rfl,Qb,Qc hD _,wY _,.nil⟩
 .obtain⟨v,rfl,hD1,s1,_,hp⟩:=h
  refine⟨hD1,?_⟩
  have:=Paired.length hp
  rw[jX,wZ]at this
  lia
 .obtain⟨v,rfl,hD1,s1,_,hp⟩:=h
  exact hw.go i H1 s1 hi
 .obtain⟨v,rfl,hD1,s1,_,hp⟩:=h
  exact hw.stop H1 s1
 .rintro i τ ys H1 x H2 hi ⟨v,rfl,hD1,s1,_,hp⟩ hy
  obtain⟨rfl,y,ey,rfl⟩:=hw.yl i H1 x H2 s1 hy hi
  refine hs y (kY ey) _ s1 (by rw[hD1];exact Option.some_ne_none _) _ fun v' H3 s3 r=>⟨s3 _ _ hD1,_,rfl,Qb,Wu (s1.trans s3) hD,hi,?_⟩
  rw[Qnl ey,zK]
  have h1:Paired (R (upd H3 D (.lst (ys++[v'])))) ys ((xs.take i).map f):=by
   clear hD1
   generalize ((xs.take i).map f)=bs at hp
   generalize hz:(HO.lst (ys++[v']))=o
   have:∀v b,R _ v b->R (upd H3 D o) v b:=fun v b h=>by rw[<-hz];exact Ru (Rs s1 s3 h)
   clear hz
   induction hp with
   |nil=>exact .nil
   |cons z _ ih=>exact .cons (this _ _ z) ih
  exact Paired.snoc h1 (Ru r)
 .rintro τ ys H1 ⟨v,rfl,hD1,s1,_,hp⟩
  rw[wW]at hp
  exact hd H1 ys s1 hD1 hp
theorem Qaw{α:Type}{g:α->V}:∀{ys:List V} {xs:List α},Paired (fun v x=>v=g x) ys xs->ys=xs.map g
 |_,_,.nil=>rfl
 |_,_,.cons e t=>by rw[e,Qaw t];rfl
theorem Qbx{α β:Type}{J:It}{H:Hp}{xs:List α}{val:α->V}{D:Addr}{cs τ0:St}{te:TE}{Q:Addr->Hp->Prop}(g:β->V)(f:α->β)(hτ:τ0=none::cs)(hw:Walk J H xs val)(fw:xs.length<sizeLine)(hD:H D=none)
  (hs:∀x∈xs,∀H1,Same H H1->∀P:V->Hp->Prop,(∀H2,Same H1 H2->P (g (f x)) H2)->te (some (val x)::cs) H1 P)
  (hd:∀H1,Same H H1->H1 D=some (.lst ((xs.map f).map g))->Q D H1) :
  LcW J D τ0 H (Qag 0) tYes te Q :=
 Qua (fun _ v x=>v=g x) f hτ hw fw hD (fun _ _ h=>h) (fun h=>h) (fun x hx H1 s1 _ P h=>hs x hx H1 s1 P fun H2 s2=>h _ H2 s2 rfl) fun H1 ys s1 h1 h2=>hd H1 s1 (by rw[h1,Qaw h2])
theorem Wv{α β:Type}{xs:List α}{i:Nat}{x:α}(h:xs[i]?=some x)(pr:α->Bool):(xs.take (i+1)).filter pr=(xs.take i).filter pr++(if pr x=true then[x]else[]):=by
 rw[Qnl h,yKa]
 congr 1
 by_cases c:pr x=true
 .rw[if_pos c,jZd c];rfl
 .rw[if_neg c,jYa c];rfl
structure WalkP{α:Type}(K:Fg)(J:It)(H:Hp)(xs:List α)(v1 v2:α->V):Prop where
 go:∀i H1,Same H H1->i<xs.length->J.go i H1
 stop:∀H1,Same H H1->J.stop xs.length H1
 yl:∀i H1 v H2,Same H H1->J.yld i H1 v H2->i<xs.length->Same H1 H2/\∃x T,xs[i]?=some x/\v=.ref T/\SqT K H2 T [v1 x,v2 x]
section
variable{α β:Type}{K:Fg}{H:Hp}{xs:List α}{v1 v2:α->V}
theorem Jp{m:Bool}{a:Addr}{n:Nat}{g:Nat->V}(h:∀H1,Same H H1->Sq K m H1 a ((List.range n).map g)):WalkP K (Ite K m a) H (List.range n) (fun k=>.int ((k:Nat):Int)) g where
 go i H1 s hi:=⟨_,g i,h H1 s,by rw[jV,xY (by rw[kQ]at hi;exact hi)];rfl⟩
 stop H1 s:=⟨_,h H1 s,by rw[jX];exact jW _⟩
 yl i H1 v H2 s:=by
  rintro⟨T,x,rfl,hT,rfl,e⟩ hi
  have q:=e _ (h H1 s)
  rw[kQ]at hi
  rw[jV,xY hi]at q
  cases q
  exact⟨Qc hT _,i,T,xY hi,rfl,Qr Qb⟩
theorem Vg{l:Addr}{vs:List V}(hl:SqL K H l vs)(hp:Paired (fun v x=>∃t,v=.ref t/\SqT K H t [v1 x,v2 x]) vs xs):WalkP K (Itl K l) H xs v1 v2 where
 go i H1 s hi:=⟨vs,vs[i]'(by rw[Paired.length hp];exact hi),s.seq hl,gE _⟩
 stop H1 s:=⟨vs,s.seq hl,by rw[Paired.length hp];exact jW _⟩
 yl i H1 v H2 s:=by
  rintro⟨rfl,e⟩ hi
  obtain⟨x,ex,t,rfl,ht⟩:=L2.Paired.getR hp (e _ (s.seq hl))
  exact⟨fun _ _ z=>z,x,t,ex,rfl,s.tup ht⟩
theorem Ww{J:It}{D:Addr}{cs τ0:St}{tt:TT}{te:TE}{Q:Addr->Hp->Prop}(R:Hp->V->β->Prop)(f:α->β)(pr:α->Bool)(hτ:τ0=none::none::cs)(hw:WalkP K J H xs v1 v2)(fw:xs.length<sizeLine)(hD:H D=none)
  (Rs:∀{H1 H2 v x},Same H H1->Same H1 H2->R H1 v x->R H2 v x) (Ru:∀{H1 v x zs},R H1 v x->R (upd H1 D (.lst zs)) v x)
  (ht:∀x∈xs,∀H1,Same H H1->∀P:Bool->Hp->Prop,(∀H2,Same H1 H2->P (pr x) H2)->tt (some (v1 x)::some (v2 x)::cs) H1 P)
  (hs:∀x∈xs,pr x=true->∀H1,Same H H1->H1 D≠none->∀P:V->Hp->Prop,(∀v H2,Same H1 H2->R H2 v (f x)->P v H2)->te (some (v1 x)::some (v2 x)::cs) H1 P)
  (hd:∀H1 ys,Same H H1->H1 D=some (.lst ys)->Paired (R H1) ys ((xs.filter pr).map f)->Q D H1) :
  LcW J D τ0 H (gPair K 0 1) tt te Q:=by
 subst hτ
 let Pv12:Nat->St->List V->Hp->Prop:=fun i τ ys H1=>∃u v:Option V,τ=u::v::cs/\H1 D=some (.lst ys)/\Same H H1/\i<=xs.length/\Paired (R H1) ys (((xs.take i).filter pr).map f)
 refine Zx (n:=xs.length) Pv12 ?_ (fun i τ ys H1 hi h=>?_) (fun i τ ys H1 hi h=>?_) (fun τ ys H1 h=>?_) ?_ ?_
 .exact⟨none,none,rfl,Qb,Qc hD _,wY _,.nil⟩
 .obtain⟨u,v,rfl,hD1,s1,_,hp⟩:=h
  refine⟨hD1,?_⟩
  have:=Paired.length hp
  have h1:=jJd pr (xs.take i)
  rw[jX]at this
  rw[wZ]at h1
  lia
 .obtain⟨u,v,rfl,hD1,s1,_,hp⟩:=h
  exact hw.go i H1 s1 hi
 .obtain⟨u,v,rfl,hD1,s1,_,hp⟩:=h
  exact hw.stop H1 s1
 .rintro i τ ys H1 x H2 hi ⟨u,v,rfl,hD1,s1,_,hp⟩ hy
  obtain⟨s2,y,T,ey,rfl,hT⟩:=hw.yl i H1 x H2 s1 hy hi
  have grow:∀{H3:Hp} {o:HO},Same H1 H3->(∀v b,R H3 v b->R (upd H3 D o) v b)->Paired (R (upd H3 D o)) ys (((xs.take i).filter pr).map f):=fun{H3 o} s3 ru=>by
   clear hD1
   generalize (((xs.take i).filter pr).map f)=bs at hp
   have:∀v b,R H1 v b->R (upd H3 D o) v b:=fun v b h=>ru v b (Rs s1 s3 h)
   induction hp with
   |nil=>exact .nil
   |cons z _ ih=>exact .cons (this _ _ z) ih
  refine⟨T,_,rfl,hT,rfl,_,_,rfl,_,_,rfl,rfl,?_⟩
  refine ht y (kY ey) _ (s1.trans s2) _ fun H3 s3=>?_
  have s13:=s2.trans s3
  by_cases c:pr y=true
  .rw[c]
   refine iteT (hs y (kY ey) c _ (s1.trans s13) (by rw[s13 _ _ hD1];exact Option.some_ne_none _) _ fun v' H4 s4 r=>⟨(s13.trans s4) _ _ hD1,_,_,rfl,Qb,Wu ((s1.trans s13).trans s4) hD,hi,?_⟩)
   rw[Wv (β:=β) ey pr,if_pos c,zK]
   exact Paired.snoc (grow (s13.trans s4) fun v b h=>Ru h) (Ru r)
  .rw[Bool.eq_false_iff.mpr c]
   refine iteF ⟨_,_,rfl,s13 _ _ hD1,s1.trans s13,hi,?_⟩
   rw[Wv (β:=β) ey pr,if_neg c,jZa]
   clear hD1 grow
   generalize (((xs.take i).filter pr).map f)=bs at hp
   induction hp with
   |nil=>exact .nil
   |cons z _ ih=>exact .cons (Rs s1 s13 z) ih
 .rintro τ ys H1 ⟨u,v,rfl,hD1,s1,_,hp⟩
  rw[wW]at hp
  exact hd H1 ys s1 hD1 hp
end
end L2
namespace Nb
open PySem L2
abbrev Qhu:Stmt:=top 7
section
variable{P:Program}{w:World}{K:Fg}{mg:Str->Option Value}{base:Heap}
theorem un8{u:Nat}(h:u+16*0+200<cLine):u+2+6<cLine:=Om
theorem Qhv{X:Cx}{o e:Expr}{td ty:TE}{pos:Pos}{P:Program}{w:World}{K:Fg}(h1:X.prog=P)(h2:X.w=w)(h3:X.K=K)(hu:X.A.units+4<cLine)(ho:PE X o td)(hi:PE X e ty)(hs:NoSl e):PE X (.Subscript o e pos) (tTGet P w K td ty):=by
 subst h1 h2 h3;exact Qts hu ho hi hs
theorem Qee{X:Cx}{P:Program}{w:World}{K:Fg}(h1:X.prog=P)(h2:X.w=w)(h3:X.K=K)(hc:X.calm=true)(hu:X.A.units+8<cLine):Yc X (.type "set") (fun xs H Q=>∃(l:Addr) (ws:List V) (rs:List D),xs=[.ref l]/\SqL K H l ws/\LksAre K H ws rs/\rs.length<=2000/\∀d ob,H d=none->LkSet P w K (upd H d ob) d rs->Q (.ref d) (upd H d ob)):=by
 subst h1 h2 h3;exact Qfx hc hu
theorem Qak{X:Cx}{P:Program}{w:World}{K:Fg}(h1:X.prog=P)(h2:X.w=w)(h3:X.K=K)(hc:X.calm=true)(hu:X.A.units+10<cLine):Yc X (.builtin "sorted") (fun xs H Q=>∃(d:Addr) (rs:List D),xs=[.ref d]/\LkSet P w K H d rs/\rs.length<=2000/\(∀x∈rs,∀y∈rs,Comp 3 x y) /\
  ∀(D':Addr) (ws:List V) (ks:List D),H D'=none->LksAre K H ws ks->ks.length<=rs.length->(∀k∈ks,k∈rs)->(∀r∈rs,r∈ks)->Q (.ref D') (upd H D' (.lst ws))):=by
 subst h1 h2 h3;exact Qbv hc hu
theorem Qby{X:Cx}{P:Program}{w:World}{K:Fg}(h1:X.prog=P)(h2:X.w=w)(h3:X.K=K)(hc:X.calm=true)(hu:X.A.units+6<cLine):Yc X (.type "dict") (fun xs H Q=>∃(l:Addr) (vs:List V) (ps:List (D×V)),xs=[.ref l]/\SqL K H l vs/\Qfv K H vs ps/\ps.length<sizeLine/\∀d ob,H d=none->TD P w K (upd H d ob) d (Yr ps)->Q (.ref d) (upd H d ob)):=by
 subst h1 h2 h3;exact Qdx hc hu
def PrK(K:Fg)(D:Addr)(ws:List V)(H:Hp)(v:V)(k:Nat):Prop:=∃t,t≠D/\v=.ref t/\SqT K H t [ws.getD k .non,.int (k:Nat)]
theorem PrK.upd{K:Fg}{D:Addr}{ws:List V}{H:Hp}{v:V}{k:Nat}{zs:List V}(h:PrK K D ws H v k):PrK K D ws (upd H D (.lst zs)) v k:=by
 obtain⟨t,n,e,r⟩:=h
 refine⟨t,n,e,?_⟩
 rcases r with z | z
 .left
  rcases z with z | ⟨o,z⟩
  .exact .inl (by rw[Qk n];exact z)
  .exact .inr ⟨o,by rw[Qk n];exact z⟩
 .exact .inr z
theorem PrK.same{K:Fg}{D:Addr}{ws:List V}{H H':Hp}{v:V}{k:Nat}(h:PrK K D ws H v k)(s:Same H H'):PrK K D ws H' v k:=by
 obtain⟨t,n,e,r⟩:=h
 exact⟨t,n,e,s.tup r⟩
theorem lksD{K:Fg}{H:Hp}{l:Addr}{vs:List V}{ks:List D}(h:SqL K H l vs)(k:LksAre K H vs ks):HasD K H (.ref l) (.lst ks):=by
 refine .lst h (Paired.length k) fun i v x e1 e2=>?_
 obtain⟨y,ey,a,rfl,z⟩:=Paired.getR k e1
 rw[e2]at ey;cases ey
 exact z.1
theorem Qqs{xs ys:List D}(h1:∀x∈xs,LookS x)(h2:∀y∈ys,LookS y):Alike 4 (.lst xs) (.lst ys) :=
 .lst fun i x y e1 e2=>(Qbw (h1 x (kY e1)) (h2 y (kY e2))).alike
def Qnm(P:Program)(w:World)(K:Fg):Sp:=fun vs H Q _=>∃(a b:Addr) (u1 u2:List V) (r1 r2:List D),vs=[.ref a,.ref b]/\SqL K H a u1/\LksAre K H u1 r1/\SqL K H b u2/\LksAre K H u2 r2/\r1.length<=1000/\r2.length<=1000 /\
 (∀H',Same H H'->¬r1.Perm r2->Q .non H')/\∀(p A B:Addr) (nm:D->Nat) (H':Hp),Same H H'->r1.Perm r2->SqT K H' p [.ref A,.ref B]->H' A=some (.lst (r1.map fun r=>V.int (nm r:Nat)))->H' B=some (.lst (r2.map fun r=>V.int (nm r:Nat))) ->
  (∀x∈r1,nm x<r1.length)->(∀x∈r1,∀y∈r1,nm x=nm y->x=y)->Q (.ref p) H'
theorem scNamed:FnScope ["one","other","names"] ["one","other"] (Qh Qhu):=⟨rfl,rfl,rfl,Dk,rfl,Dk,Dk⟩
theorem Qub(F:Fn K mg "named" Qhu)(M:Mg mg):Cal P w K mg base 1 "named" ["one","other"] (Qnm P w K):=by
 refine Xy F scNamed (fun _ _ _ _ _ _=>Vn (fun _ _=>rfl)) (fun vs H Q E h=>?_) (fun f cdv A outer s H vs Q E hr h=>?_)
 .obtain⟨a,b,u1,u2,r1,r2,rfl,_⟩:=h
  rfl
 obtain⟨a,b,u1,u2,r1,r2,rfl,ha,k1,hb,k2,n1,n2,q0,q⟩:=h
 refine⟨_,(Qg (Zn (Xc (Qcy (n:=4) (xX (xZ Dc _) hr.un)) (Qn (Yw (K:=K) rfl 2 true (un8 hr.un)) rfl M.sorted Xq (Qa (pv 0) Qf)) (Qn (Yw (K:=K) rfl 2 true (un8 hr.un)) rfl M.sorted Xq (Qa (pv 1) Qf)) (Xf _)) (Qm (Qs Ys)) Xi)
  (Qg (Qo (i:=2) scNamed.nd rfl (Or.inr rfl) (Qt (Qby (P:=P) (w:=w) (K:=K) rfl rfl rfl rfl (xX (xZ Dc _) hr.un)) rfl M.dict_ Qtb (Qa (Zy ["name","thing"] [none,none] rfl (Wd true rfl M.enumerate_ (Qa (Qn (Qak (P:=P) (w:=w) (K:=K) rfl rfl rfl rfl (xX (xZ Dc _) hr.un)) rfl M.sorted Xq (Qa (Qt (Qee (P:=P) (w:=w) (K:=K) rfl rfl rfl rfl (xX (xZ Dc _) hr.un)) rfl M.set_ Qlr (Qa (pv 0) Qf)) Qf)) Qf)) (fun _ _ _=>(Yf (K:=K) (i:=0) (j:=1) rfl rfl (show(["name","thing"]:List Str).Nodup by decide +kernel) rfl rfl rfl rfl)) (fun _ _ _=>Ye) (fun _ _ _=>(Yd (Qa (pv 1) (Qa (pv 0) Qf))))) Qf)))
  (Qm (Qs (Yd (Qa (Zy ["thing","names"] [none,some 2] rfl (Xj (pv 0)) (fun _ _ _=>(Qz (i:=0) (show(["thing","names"]:List Str).Nodup by decide +kernel) rfl (Or.inl rfl) (Or.inr rfl))) (fun _ _ _=>Ye) (fun _ _ _=>(Qhv (P:=P) (w:=w) (K:=K) rfl rfl rfl (xX (xZ Dc _) hr.un) (pv 1) (pv 0) (fun _ _=>rfl)))) (Qa (Zy ["thing","names"] [none,some 2] rfl (Xj (pv 1)) (fun _ _ _=>(Qz (i:=0) (show(["thing","names"]:List Str).Nodup by decide +kernel) rfl (Or.inl rfl) (Or.inr rfl))) (fun _ _ _=>Ye) (fun _ _ _=>(Qhv (P:=P) (w:=w) (K:=K) rfl rfl rfl (xX (xZ Dc _) hr.un) (pv 1) (pv 0) (fun _ _=>rfl)))) Qf))))))),?_⟩
 refine Yu ?_
 intro rT3 rT2
 have hz:(1000:Nat)<sizeLine:=Dc
 have hm:(1000000:Nat)<sizeLine:=Dc
 have l1:=Paired.length k1
 have l2:=Paired.length k2
 have lk:∀{H':Hp} {u:List V} {r:List D},LksAre K H' u r->∀x∈r,LookS x:=fun{H' u r} k x hx=>by
  obtain⟨i,hi,e⟩:=jXc hx
  obtain⟨y,ey,a,_,z⟩:=Paired.getR k (gE (show i<u.length by have:=Paired.length k;lia))
  rw[gE hi,e]at ey
  cases ey
  exact z.2
 have La:=lk k1
 have Lb:=lk k2
 have hp:∀{H':Hp} {u:List V} {r:List D},LksAre K H' u r->Paired (HasD K H') u r:=fun k=>Paired.mapP k fun v x ⟨a,e,z⟩=>e▸z.1
 refine⟨_,rfl,a,u1,r1,rfl,ha,hp k1,Om,fun t ht=>⟨(La t ht).ok,Qnk (La t ht)⟩,fun x hx y hy=>Qbw (La x hx) (La y hy),fun d1 p1 hd1 pp1 so1=>?_⟩
 have s1:=Qc hd1 (.lst (p1.map fun i=>u1.getD i .non))
 have hd1':upd H d1 (.lst (p1.map fun i=>u1.getD i .non)) d1=some (.lst (p1.map fun i=>u1.getD i .non)):=Qb
 generalize upd H d1 (.lst (p1.map fun i=>u1.getD i .non))=H1 at s1 hd1'⊢
 refine⟨_,rfl,b,u2,r2,rfl,s1.seq hb,hp (k2.same s1),Om,fun t ht=>⟨(Lb t ht).ok,Qnk (Lb t ht)⟩,fun x hx y hy=>Qbw (Lb x hx) (Lb y hy),fun d2 p2 hd2 pp2 so2=>?_⟩
 have s2:=s1.trans (Qc hd2 (.lst (p2.map fun i=>u2.getD i .non)))
 have hd1b:=Qc hd2 (.lst (p2.map fun i=>u2.getD i .non)) _ _ hd1'
 have hd2':upd H1 d2 (.lst (p2.map fun i=>u2.getD i .non)) d2=some (.lst (p2.map fun i=>u2.getD i .non)):=Qb
 generalize upd H1 d2 (.lst (p2.map fun i=>u2.getD i .non))=H2 at s2 hd1b hd2'⊢
 have pk:∀{H':Hp} {u:List V} {r:List D} {p:List Nat},LksAre K H' u r->p.Perm (List.range u.length)->LksAre K H' (p.map fun i=>u.getD i .non) (p.map fun i=>r.getD i .non)/\(p.map fun i=>r.getD i .non).Perm r:=fun{H' u r p} k pp=>by
  have lu:=Paired.length k
  refine⟨Paired.pick k .non .non p fun i hi=>yQ.mp (pp.mem_iff.mp hi),(pp.map _).trans (.of_eq ?_)⟩
  rw[lu]
  exact Xb r .non
 obtain⟨g1,m1⟩:=pk (k1.same s2) pp1
 obtain⟨g2,m2⟩:=pk (k2.same s2) pp2
 refine⟨d1,d2,_,_,rfl,rfl,lksD (Qi hd1b) g1,lksD (Qi hd2') g2,Qqs (lk g1) (lk g2),fun c hc=>⟨_,rfl,?_⟩⟩
 have key:(D.lst (p1.map fun i=>r1.getD i .non)=D.lst (p2.map fun i=>r2.getD i .non))↔r1.Perm r2:=by
  constructor
  .intro e
   injection e with e
   exact m1.symm.trans ((List.Perm.of_eq e).trans m2)
  .intro pr
   rw[Qed (lk g1) (m1.trans (pr.trans m2.symm)) so1 so2]
 rw[key]at hc
 cases c with
 |false=>exact iteT (q0 H2 s2 fun z=>nomatch hc.mpr z)
 |true=>
  have pr:=hc.mp rfl
  refine iteF ?_
  refine⟨_,rfl,a,u1,r1,rfl,s2.seq ha,k1.same s2,Om,fun S ob hS gS=>?_⟩
  have s3:=s2.trans (Qc hS ob)
  generalize upd H2 S ob=H3 at s3 gS⊢
  refine⟨S,r1,rfl,gS,Om,fun x hx y hy=>Qbw (La x hx) (La y hy),fun E' ws ks hE kk lle sub sup=>?_⟩
  have s4:=s3.trans (Qc hE (.lst ws))
  have hE':upd H3 E' (.lst ws) E'=some (.lst ws):=Qb
  have kk:=kk.same (Qc hE (.lst ws))
  generalize upd H3 E' (.lst ws)=H4 at s4 hE' kk⊢
  have lw:=Paired.length kk
  have hE2:=hE'
  rw[<-Xb ws .non]at hE2
  refine⟨E',rfl,⟨_,Qi hE'⟩,fun Dx hD=>?_⟩
  refine Ww (K:=K) (xs:=List.range ws.length) (v1:=fun k=>.int ((k:Nat):Int)) (v2:=fun k=>ws.getD k .non) (PrK K Dx ws) (fun k=>k) (fun _=>true) rfl (Jp (m:=true) fun H5 s=>s.seq (Qi hE2)) (by rw[kQ];lia) hD (fun _ s h=>h.same s) (fun h=>h.upd) (fun k _ H5 _ P h=>h H5 fun _ _ z=>z) (fun k hk _ H5 s5 hD5 P h=>?_) fun H5 ys s5 hD5 hp5=>?_
  .refine⟨_,rfl,_,rfl,by show 2<=sizeLine;decide,fun t ht=>?_⟩
   exact h _ _ (Qc ht _) ⟨t,fun y=>hD5 (by rw[<-y];exact ht),rfl,Qr Qb⟩
  rw[List.map_id',yQc.mpr (fun _ _=>rfl)]at hp5
  have ly:=Paired.length hp5
  rw[kQ]at ly
  have s5':=s4.trans s5
  refine⟨Dx,ys,ks.mapIdx fun i k=>(k,V.int (i:Nat)),rfl,Qi hD5,Yq (by rw[List.length_mapIdx,ly,lw]) fun i v p e1 e2=>?_,by rw[List.length_mapIdx];lia,fun d ob hd gT=>?_⟩
  .obtain⟨k,ek,t,_,rfl,ht⟩:=Paired.getR hp5 e1
   have hi:i<ws.length:=by rw[<-ly];exact(jK.mp e1).1
   rw[xY hi]at ek
   cases ek
   obtain⟨y,ey,b',eb,z⟩:=Paired.getR kk (gE hi)
   rw[List.getElem?_mapIdx,ey]at e2
   cases e2
   rw[jY,gE hi,show(some ws[i]).getD V.non=ws[i]from rfl,eb]at ht
   exact⟨t,b',rfl,ht,z.same s5⟩
  have s6:=s5'.trans (Qc hd ob)
  generalize upd H5 d ob=H6 at s6 gT⊢
  have nmE:∃nm:D->Nat,∀x∈ks,valV (Yr (ks.mapIdx fun i k=>(k,V.int (i:Nat)))) x=some (.int (nm x:Nat))/\ks[nm x]?=some x:=by
   have ex:∀x:D,∃i:Nat,x∈ks->valV (Yr (ks.mapIdx fun i k=>(k,V.int (i:Nat)))) x=some (.int (i:Nat))/\ks[i]?=some x:=fun x=>by
    by_cases h:x∈ks
    .obtain⟨i,hi⟩:=Qjh x h
     exact⟨i,fun _=>hi⟩
    .exact⟨0,fun z=>absurd z h⟩
   exact⟨fun x=>Classical.choose (ex x),fun x hx=>Classical.choose_spec (ex x) hx⟩
  obtain⟨nm,hnm⟩:=nmE
  have hnm1:∀x∈r1,valV (Yr (ks.mapIdx fun i k=>(k,V.int (i:Nat)))) x=some (.int (nm x:Nat))/\ks[nm x]?=some x:=fun x hx=>hnm x (sup x hx)
  have one:∀{u:List V} {r:List D} {H7:Hp} {k:Nat},LksAre K H u r->(∀x∈r,x∈r1)->Same H6 H7->k<u.length->∃b' x,u.getD k .non=.ref b'/\r.getD k .non=x/\LkT K H7 b' x/\valV (Yr (ks.mapIdx fun i k=>(k,V.int (i:Nat)))) x=some (.int (nm x:Nat)):=fun{u r H7 k} kr sub1 s7 hk=>by
   obtain⟨y,ey,b',eb,z⟩:=Paired.getR kr (gE hk)
   refine⟨b',y,?_,?_,z.same (s6.trans s7),(hnm1 y (sub1 y (kY ey))).1⟩
   .rw[jY,gE hk];exact eb
   .rw[jY,ey];rfl
  refine⟨_,rfl,a,rfl,⟨_,s6.seq ha⟩,fun A1 hA1=>?_⟩
  refine Qbx (fun k:Nat=>V.int (k:Nat)) (fun i:Nat=>nm (r1.getD i .non)) rfl (Ji (xs:=List.range u1.length) (val:=fun k=>u1.getD k .non) (by rw[Xb];exact s6.seq ha)) (by rw[kQ];lia) hA1 (fun k hk H7 s7 P h=>?_) fun H7 s7 hA7=>?_
  .obtain⟨b',x,e1,e2,z,v⟩:=one k1 (fun _ y=>y) s7 (yQ.mp hk)
   exact⟨_,rfl,_,rfl,d,b',_,x,_,rfl,e1,gT.same s7,z,v,by rw[<-e2];exact h H7 fun _ _ y=>y⟩
  have s67:=s6.trans s7
  refine⟨_,rfl,b,rfl,⟨_,s67.seq hb⟩,fun A2 hA2=>?_⟩
  refine Qbx (fun k:Nat=>V.int (k:Nat)) (fun i:Nat=>nm (r2.getD i .non)) rfl (Ji (xs:=List.range u2.length) (val:=fun k=>u2.getD k .non) (by rw[Xb];exact s67.seq hb)) (by rw[kQ];lia) hA2 (fun k hk H8 s8 P h=>?_) fun H8 s8 hA8=>?_
  .obtain⟨b',x,e1,e2,z,v⟩:=one k2 (fun _ y=>pr.mem_iff.mpr y) (s7.trans s8) (yQ.mp hk)
   exact⟨_,rfl,_,rfl,d,b',_,x,_,rfl,e1,gT.same (s7.trans s8),z,v,by rw[<-e2];exact h H8 fun _ _ y=>y⟩
  refine⟨by show 2<=sizeLine;decide,fun p hpp=>?_⟩
  have s9:=Qc hpp (.tup [.ref A1,.ref A2])
  have mp:∀{u:List V} {r:List D},u.length=r.length->(((List.range u.length).map fun i:Nat=>nm (r.getD i .non)).map fun k:Nat=>V.int (k:Nat))=r.map fun x=>V.int (nm x:Nat):=fun{u r} e=>by
   rw[jQb,e]
   conv=>rhs;rw[<-Xb r .non]
   rw[jQb];rfl
  refine q p A1 A2 nm _ ((s67.trans s8).trans s9) pr (Qr Qb) ?_ ?_ (fun x hx=>?_) fun x hx y hy e=>?_
  .rw[<-mp l1];exact s9 _ _ (s8 _ _ hA7)
  .rw[<-mp l2];exact s9 _ _ hA8
  .have:=(jK.mp (hnm1 x hx).2).1
   lia
  .have h1:=(hnm1 x hx).2
   rw[e,(hnm1 y hy).2]at h1
   exact(Option.some.inj h1).symm
def prt(r:List Int×Int):List (Nat×Int):=((List.range r.1.length).filter fun j=>!decide (r.1.getD j 0=0)).map fun j=>(j,r.1.getD j 0)
def PtA(K:Fg)(H:Hp):List V->List (Nat×Int)->Prop:=Paired fun v p=>∃t,v=V.ref t/\SqT K H t [.int ((p.1:Nat):Int),.int p.2]
def Pr2(K:Fg)(D:Addr)(H:Hp)(v:V)(y:Nat×Int):Prop:=∃t,t≠D/\v=.ref t/\SqT K H t [.int ((y.1:Nat):Int),.int y.2]
theorem Pr2.upd{K:Fg}{D:Addr}{H:Hp}{v:V}{y:Nat×Int}{zs:List V}(h:Pr2 K D H v y):Pr2 K D (upd H D (.lst zs)) v y:=by
 obtain⟨t,n,e,h⟩:=h
 refine⟨t,n,e,?_⟩
 rcases h with(h | ⟨o,h⟩) | h
 .exact .inl (.inl (by rw[Qk n];exact h))
 .exact .inl (.inr ⟨o,by rw[Qk n];exact h⟩)
 .exact .inr h
theorem Pr2.same{K:Fg}{D:Addr}{H H':Hp}{v:V}{y:Nat×Int}(h:Pr2 K D H v y)(s:Same H H'):Pr2 K D H' v y:=by
 obtain⟨t,n,e,h⟩:=h
 exact⟨t,n,e,s.tup h⟩
theorem Quc{K:Fg}{D:Addr}{H:Hp}{vs:List V}{ps:List (Nat×Int)}(h:Paired (Pr2 K D H) vs ps):PtA K H vs ps:=Paired.mapP h fun _ _ ⟨t,_,e,y⟩=>⟨t,e,y⟩
theorem Qud{xs:List Int}:xs.map V.int=(List.range xs.length).map fun k=>V.int (xs.getD k 0):=by
 refine yQa (by simp) fun i h1 h2=>?_
 rw[kXd,kXd,kXf,jY,gE]
 rfl
abbrev sPts:Stmt:=top 2
def spPts(K:Fg):Sp:=fun vs H Q _=>∃(t:Addr) (r:List Int×Int),vs=[.ref t]/\RowAt K H t r/\r.1.length<=1000/\∀(l:Addr) (ts:List V) (H':Hp),Same H H'->H l=none->H' l=some (.lst ts)->PtA K H' ts (prt r)->Q (.ref l) H'
theorem scPts:FnScope ["row"] ["row"] (Qh sPts):=⟨rfl,rfl,rfl,Dk,rfl,Dk,Dk⟩
theorem okPts (F:Fn K mg "parts_of" sPts)(M:Mg mg):Cal P w K mg base 1 "parts_of" ["row"] (spPts K):=by
 refine Xy F scPts (fun _ _ _ _ _ _=>bind1 (fun _=>rfl)) (fun vs H Q E h=>?_) (fun f cdv A outer s H vs Q E hr h=>?_)
 .obtain⟨t,r,rfl,_⟩:=h
  rfl
 obtain⟨t,r,rfl,⟨c,h1,h2⟩,hl,q⟩:=h
 refine⟨_,(Qm (Qs (Zy ["choice","number"] [none,none] rfl (Wd false rfl M.enumerate_ (Qa (Qu Qy (pv 0) Qj (fun _ _=>rfl)) Qf)) (fun _ _ _=>(Yf (K:=K) (i:=0) (j:=1) rfl rfl (show(["choice","number"]:List Str).Nodup by decide +kernel) rfl rfl rfl rfl)) (fun _ _ _=>(Qkr (Xc Qop (pv 1) Qj (Xf _)))) (fun _ _ _=>(Yd (Qa (pv 0) (Qa (pv 1) Qf))))))),?_⟩
 have hz:(1000:Nat)<sizeLine:=Dc
 rw[Qud]at h2
 refine⟨_,rfl,t,_,_,_,rfl,rfl,h1,at0,c,rfl,⟨_,h2⟩,fun D hD=>?_⟩
 refine Ww (K:=K) (xs:=List.range r.1.length) (v1:=fun k=>.int ((k:Nat):Int)) (v2:=fun k=>.int (r.1.getD k 0)) (Pr2 K D) (fun k=>(k,r.1.getD k 0)) (fun k=>!decide (r.1.getD k 0=0)) rfl (Jp (m:=false) fun H1 s=>s.tup h2) (by rw[kQ];lia) hD (fun _ s h=>h.same s) (fun h=>h.upd) (fun k hk H1 s1 P h=>?_) (fun k hk c H1 s1 hD1 P h=>?_) fun H1 ys s1 h1 hp=>?_
 .refine⟨_,rfl,rfl,_,rfl,?_⟩
  rw[show decide (V.int (r.1.getD k 0)=V.int 0)=decide (r.1.getD k 0=0)from decide_eq_decide.mpr ⟨fun z=>V.int.inj z,fun z=>by rw[z]⟩]
  exact h H1 fun _ _ z=>z
 .refine⟨_,rfl,_,rfl,by show 2<=sizeLine;decide,fun t ht=>?_⟩
  exact h _ _ (Qc ht _) ⟨t,fun y=>hD1 (by rw[<-y];exact ht),rfl,Qr Qb⟩
 .exact q D ys H1 s1 hD h1 (Quc hp)
end
theorem okT_pr(p:Int×Int):okT 1 (prD p):=fun x hx=>by
 rcases yY.mp hx with rfl | hx
 .trivial
 .rw[kW.mp hx];trivial
theorem Qqt(x y:Int×Int):decide (flat 1 (prD y)<flat 1 (prD x))=Kl (prR y) (prR x):=by
 have h:=Qav (x:=prR x) (y:=prR y) rfl
 rw[Vr,Vr]at h
 rw[<-h,Jh,Jh]
 rfl
theorem Zt{X:Cx}{K:Fg}(hK:X.K=K)(hu:X.A.units+6<cLine):Yc X (.builtin "sorted") (fun xs H Q=>∃(l:Addr) (vs:List V) (qs:List (Int×Int)),xs=[.ref l]/\SqL K H l vs/\Qlt K H vs qs/\vs.length<=1000 /\
  ∀(Dx:Addr) (ws:List V) (ps:List (Int×Int)),H Dx=none->Qlt K H ws ps->ws.length=vs.length->ps.Perm qs->ps.Pairwise (fun x y=>Kl (prR y) (prR x)=false)->Q (.ref Dx) (upd H Dx (.lst ws))):=by
 intro pins s σ H xs us Q I rv h
 obtain⟨l,vs,qs,hx,hq,hr,hz,q⟩:=h
 have lr:=Paired.length hr
 refine Yw hK 0 true Om pins s σ H xs us Q I rv ⟨l,vs,qs.map prD,hx,hq,?_,Om,fun t ht=>?_,fun x hx y hy=>?_,fun Dx p hD pp so=>?_⟩
 .exact Ka hr fun a r ⟨t,e,z⟩=>by rw[e];exact pairD z (.int _) (.int _)
 .obtain⟨r,_,rfl⟩:=zQ.mp ht
  exact⟨okT_pr r,_,_,rfl,by rw[if_pos rfl];exact⟨_,rfl⟩⟩
 .obtain⟨r,_,rfl⟩:=zQ.mp hx
  obtain⟨r',_,rfl⟩:=zQ.mp hy
  exact Qec r r'
 .have plt:∀i∈p,i<vs.length:=fun i hi=>yQ.mp (pp.mem_iff.mp hi)
  have lp:p.length=vs.length:=by rw[pp.length_eq,kQ]
  have e0:∀i∈p,(qs.map prD).getD i .non=prD (qs.getD i (0,0)):=fun i hi=>by
   have:=plt i hi
   rw[jY,jY,jV,gE Om];rfl
  refine q Dx _ (p.map fun i=>qs.getD i (0,0)) hD ?_ (by rw[jX,lp]) ?_ ?_
  .exact Paired.pick hr .non (0,0) p plt
  .refine(pp.map _).trans (.of_eq ?_)
   rw[lr]
   exact Xb qs (0,0)
  .rw[jYb]at so⊢
   refine List.Pairwise.imp_of_mem (fun{a b} ha hb h=>?_) so
   rw[e0 a ha,e0 b hb]at h
   rw[<-Qqt]
   exact wQ h
end Nb
namespace L2
open PySem PySem.Spec PySem.W PyProof.Rows PySem.SeqAt
def Ext(h h':Heap):Prop:=∀b o,h.get? b=some o->h'.get? b=some o
theorem Ext.trans{a b c:Heap}(x:Ext a b)(y:Ext b c):Ext a c:=fun p o e=>y p o (x p o e)
def FunR(prog:Program)(w:World)(A:Around)(h₀:Heap)(s₀:Shared)(f:Value)(D:Value->Prop)(r:Value->Value->Prop):Prop :=
 ∀(v:Value) (h:Heap) (tk:Nat) (Q:Value->Shared->Prop) (E:Value->Shared->Prop),D v->Ext h₀ h->(∀u h' tk',r v u->Ext h h'->Q u { s₀ with heap:=h',toks:=tk' })->wpAny (model prog w) A (call f [v]) Q E { s₀ with heap:=h,toks:=tk }
section
variable{prog:Program}{w:World}{A:Around}{E:Value->Shared->Prop}{s:Shared}
def blKind:KeyKind where
 α:=Bool
 blt:=fun a b=>!a&&b
 irrefl:=Dc
 trans:=Dc
 negTrans:=Dc
 total:=Dc
 keyOf:=fun v=>match v with | .bool b=>some b | _=>none
 dflt:=false
theorem Qef{v:Value}{a:Bool}(h:blKind.keyOf v=some a):v=.bool a:=by
 unfold blKind at h
 dsimp only at h
 split at h
 .cases h;rfl
 .cases h
theorem lt_bl{p q:Bool}{Q:Bool->Shared->Prop}(h:Q (!p&&q) s):wpAny (model prog w) A (keyLt' oneType' (.bool p) (.bool q)) Q E s:=by
 rw[keyLt'_oneType,oneLt'_eq]
 simp only[if_true]
 refine jQ (wpAny_cRoomFor_byValue rfl ?_)
 refine jQ (wpAny_callSpecialIfBound?_slot (T:="bool") rfl PySem.F.slot_bool_lt (call_gives PySem.F.slot_bool_lt rfl PySem.F.entry_int_lt (PySem.F.args_int_lt_2 _ _) (gives_int_lt_bools p q) ?_))
 refine wpAny_truthy_bool ?_
 revert h
 cases p<;>cases q<;>exact fun h=>h
theorem lts_bl:U.LtS prog w A s blKind oneType':=fun x y a b Q E hx hy h=>by
 obtain rfl:=Qef hx
 obtain rfl:=Qef hy
 exact lt_bl h
theorem kk_bl{vs:List Value}(hb:∀v∈vs,∃b,v=.bool b)(h2:2<=vs.length):keyKind' vs.toArray=pure oneType':=by
 have m1:∀us:List Value,(∀v∈us,∃b,v=.bool b)->us.mapM firstOfTuple'=pure (us.map fun _=>none):=by
  intro us
  induction us with
  |nil=>intro _;simp
  |cons v us ih=>
   intro h
   obtain⟨b,rfl⟩:=h v (zJ ..)
   rw[List.mapM_cons,show firstOfTuple' (.bool b)=pure none from rfl,ih fun v hv=>h v (zY _ hv)]
   simp
 have m2:∀us:List Value,(∀v∈us,∃b,v=.bool b)->us.mapM typeOf=pure (us.map fun _=>Value.type "bool"):=by
  intro us
  induction us with
  |nil=>intro _;simp
  |cons v us ih=>
   intro h
   obtain⟨b,rfl⟩:=h v (zJ ..)
   rw[List.mapM_cons,ih fun v hv=>h v (zY _ hv)]
   show(pure (Value.type "bool") >>= fun b=>pure _ >>= fun bs=>pure (b::bs))=_
   simp
 obtain⟨v1,v2,rest,rfl⟩:∃v1 v2 rest,vs=v1::v2::rest:=by
  match vs,h2 with
  |v1::v2::rest,_=>exact⟨_,_,_,rfl⟩
 rw[keyKind'_eq,List.mapM_toArray,m1 _ hb]
 simp only[map_pure,pure_bind]
 rw[if_neg (by simp),if_neg (by simp)]
 rw[oneTypeOnly'_eq,List.mapM_toArray,m2 _ hb]
 simp only[map_pure,pure_bind]
 have hall:((List.map (fun _=>Value.type "bool") (v1::v2::rest)).toArray.all fun x=>x == Value.type "bool")=true:=by
  simp only[List.all_toArray,List.all_map,kZf]
  intro _ _
  rfl
 have h0:(List.map (fun _=>Value.type "bool") (v1::v2::rest)).toArray[0]?=some (Value.type "bool"):=by simp
 rw[h0]
 simp only[hall,if_true,pure_bind,Option.isSome_some]
theorem Que{keys:Array Value}{vs:List Value}(h:keys.size=vs.length){xs:Array Keyed}(p:xs.Perm (keys.zip vs.toArray)):(xs.map (·.2)).toList.Perm vs:=by
 have e:=(kYb.mp p).map (·.2)
 rw[Array.toList_map]
 refine e.trans (.of_eq ?_)
 rw[ksk_zip]
 exact List.map_snd_zip (by rw[zX];exact yXc h.symm)
theorem Qbz{h₀ h:Heap}{a:Addr}{g:Obj->Obj}(x:Ext h₀ h)(n:h₀.get? a=none):Ext h₀ (h.update a g):=fun b o e=>by
 rw[yZd _ _ _ _ (fun z=>by rw[z,n]at e;cases e)]
 exact x b o e
variable{h₀:Heap}{a kS:Addr}{vs:List Value}{e e1:Nat}{P:PySem.Fin->Shared->Prop}{keys:Array Value}
theorem sk_end(X:Ext h₀ s.heap)(n1:h₀.get? a=none)(n2:h₀.get? kS=none)(hne:kS≠a)(ok:s.heap.get? kS=some (seqObj "list" keys e))(oa:s.heap.get? a=some (seqObj "list" #[] e1))
  (hl:keys.size=vs.length) (hb:∀v∈keys.toList,∃b,v=.bool b) (hz:vs.length<=100000)
  (h:∀h' out c,Ext h₀ h'->h'.get? a=some (seqObj "list" out c)->out.toList.Perm vs->P (.done (.ret .none)) { s with heap:=h' }) :
  wpAny (model prog w) A (ksk_end a false vs.toArray e1 (.ref kS) keys) P E s:=by
 have hzs:(keys.zip vs.toArray).size=vs.length:=by rw[Array.size_zip,hl,kJ,Nat.min_self]
 have tail:∀st:SortSt,(arrOf st).Perm (keys.zip vs.toArray)->failedOf st=none->wpAny (model prog w) A (ksk_tail a false e1 (.ref kS) st) P E s:=by
  intro st hp hf
  have s1:=Heap.SameBut.update s.heap kS (Obj.mapSeq fun _=>(#[]:Array Value))
  have oa1:(s.heap.update kS (Obj.mapSeq fun _=>(#[]:Array Value))).get? a=some (seqObj "list" #[] e1):=(s1.2 a hne.symm).trans oa
  have lo:((arrOf st).map (·.2)).size=vs.length:=by rw[Array.size_map,hp.size_eq,hzs]
  obtain⟨c2,hc2⟩:∃c2,((s.heap.update kS (Obj.mapSeq fun _=>(#[]:Array Value))).update a (Obj.mapSeq fun _=>(arrOf st).map (·.2))).get? a=some (seqObj "list" ((arrOf st).map (·.2)) c2) :=
   ⟨_,get?_update_seq oa1 fun _=>(arrOf st).map (·.2)⟩
  unfold ksk_tail
  try dsimp only
  simp only[yJ,if_false]
  refine jQ (listUpdate_at ok rfl ?_ (by rw[hl,sizeLine_eq];lia) (wY _))
  refine jQ (wpAny_letGo ?_)
  refine jQ (seqEpoch_at oa1 rfl ?_)
  refine jQ (listUpdate_at oa1 rfl ?_ (wY _) (jQd (yXc lo) (by rw[sizeLine_eq];lia)))
  rw[hf]
  simp only[bne_self_eq_false,yJ,if_false]
  exact jJ (h _ _ c2 (Qbz (Qbz X n2) n1) hc2 (Que hl hp))
 have hko:KeysOf blKind (keys.zip vs.toArray):=fun p hp=>by
  rw[ksk_zip]at hp
  obtain⟨x,y⟩:=p
  obtain⟨b,rfl⟩:=hb _ (zQc hp).1
  exact⟨b,rfl⟩
 unfold ksk_end
 try dsimp only
 simp only[yJ,if_false]
 by_cases h2:vs.toArray.size<2
 .rw[if_pos h2,if_pos h2]
  refine jQ (jJ ?_)
  rw[StateT.run_pure]
  refine jQ (jJ ?_)
  try dsimp only
  exact tail (SortSt.mk' general' (keys.zip vs.toArray) #[] 7 none) (Array.Perm.refl _) rfl
 .rw[if_neg h2,if_neg h2]
  rw[kJ]at h2
  rw[show keys=keys.toList.toArray from(zXe).symm,kk_bl hb (by rw[zX,hl];lia),zXe]
  refine jQ (jJ ?_)
  refine jQ (wpAny_mono (U.wpS_sortRunsAny (κ:=blKind) (kd:=oneType') lts_bl (a₀:=keys.zip vs.toArray) hko (st:=SortSt.mk' oneType' (keys.zip vs.toArray) #[] 7 none)
   (Q:=fun _ st'=>(arrOf st').Perm (keys.zip vs.toArray)/\failedOf st'=none) ⟨Array.Perm.refl _,rfl,rfl,rfl⟩ fun st' a1 a2=>⟨a1,a2⟩) ?_ fun _ _ e=>e)
  rintro⟨⟨⟩,st'⟩ s' ⟨rfl,hp,hf⟩
  try dsimp only
  exact tail _ hp hf
theorem Quf{f:Value}(hf:FunR prog w A h₀ s f (fun v=>v∈vs) fun _ u=>∃b,u=.bool b)(X:Ext h₀ s.heap)(n1:h₀.get? a=none)(n2:h₀.get? kS=none)(hne:kS≠a)(ok:s.heap.get? kS=some (seqObj "list" #[] 0))(oa:s.heap.get? a=some (seqObj "list" #[] e1))
  (hz:vs.length<=100000)
  (h:∀h' tk out c,Ext h₀ h'->h'.get? a=some (seqObj "list" out c)->out.toList.Perm vs->P (.done (.ret .none)) { s with heap:=h',toks:=tk }) :
  wpAny (model prog w) A (ksk_rest a f false vs.toArray e1 (.ref kS)) P E s:=by
 unfold ksk_rest
 refine jQ (wpAny_rule ?_)
 first
  |rw[List.forIn_toArray]
  |(rw[<-kJd];simp only[List.toList_toArray])
  |rw[<-kJd]
 refine jQ (ksk_fold (fun i s'=>∃h' tk kA e,s'={ s with heap:=h',toks:=tk }/\Ext h₀ h'/\h'.get? kS=some (seqObj "list" kA e)/\h'.get? a=some (seqObj "list" #[] e1)/\kA.size=i/\∀v∈kA.toList,∃b,v=.bool b) vs 0 s
  ⟨s.heap,s.toks,#[],0,rfl,X,ok,oa,rfl,fun v hv=>by simp at hv⟩ ?step ?done)
 case step=>
  rintro j x s' hx ⟨h',tk,kA,e,rfl,X',ok',oa',hs,hb⟩
  have hj:j<vs.length:=(jK.mp hx).1
  refine jQ (wpAny_attempt (hf x h' tk _ _ (kY hx) X' fun u g tk2 ⟨b,hu⟩ xg=>?_))
  subst hu
  try dsimp only
  have nk:=xg _ _ ok'
  have na:=xg _ _ oa'
  have s1:=Heap.SameBut.update g kS (Obj.mapSeq (·.push (.bool b)))
  obtain⟨c2,hc2⟩:∃c2,(g.update kS (Obj.mapSeq (·.push (.bool b)))).get? kS=some (seqObj "list" (kA.push (.bool b)) c2):=⟨_,get?_update_seq nk (·.push (.bool b))⟩
  refine jQ (listUpdate_at nk rfl ?_ (by rw[sizeLine_eq];lia) (jQd (yXc (Array.size_push ..)) (by rw[sizeLine_eq];lia)))
  refine jJ ⟨rfl,_,_,kA.push (.bool b),c2,rfl,Qbz (X'.trans xg) n2,hc2,(s1.2 a hne.symm).trans na,by rw[Array.size_push,hs],fun v hv=>?_⟩
  rw[wV]at hv
  rcases wX.mp hv with hv | hv
  .exact hb v hv
  .exact⟨b,kW.mp hv⟩
 case done=>
  rintro s' ⟨h',tk,kA,e,rfl,X',ok',oa',hs,hb⟩
  try dsimp only
  refine jQ (listItems_at ok' rfl ?_)
  exact sk_end (s:={ s with heap:=h',toks:=tk }) X' n1 n2 hne ok' oa' (by rw[hs];lia) hb hz fun h2 out c x2 o2 p2=>h h2 tk out c x2 o2 p2
theorem Qug{f:Value}{n:Nat}(hf:FunR prog w A h₀ s f (fun v=>v∈vs) fun _ u=>∃b,u=.bool b)(X:Ext h₀ s.heap)(lt:h₀.objs.size<=s.heap.objs.size)(n1:h₀.get? a=none)(ho:s.heap.get? a=some (seqObj "list" vs.toArray n))(hz:vs.length<=100000)
  (h:∀h' tk out c,Ext h₀ h'->h'.get? a=some (seqObj "list" out c)->out.toList.Perm vs->P (.done (.ret .none)) { s with heap:=h',toks:=tk }) :
  wpAny (model prog w) A (ksk_tree a f false) P E s:=by
 have ha:a<s.heap.objs.size:=kK ho
 obtain⟨e1,ho1⟩:∃e1,(s.heap.update a (Obj.mapSeq fun _=>(#[]:Array Value))).get? a=some (seqObj "list" #[] e1):=⟨_,get?_update_seq ho fun _=>#[]⟩
 have hkS:((s.heap.update a (Obj.mapSeq fun _=>(#[]:Array Value))).push (seqObj "tuple" vs.toArray 0)).objs.size=s.heap.objs.size+1:=by rw[size_push',Heap.size_update]
 unfold ksk_tree
 refine jQ (listItems_at ho rfl ?_)
 refine jQ (listUpdate_at ho rfl ?_ (by rw[kJ,sizeLine_eq];lia) (wY _))
 refine jQ (seqEpoch_at ho1 rfl ?_)
 refine jQ (wpAny_newTuple ?_ (by show vs.length<=_;rw[sizeLine_eq];lia))
 refine jQ (wpAny_newList ?_ (wY _))
 refine wpAny_holding ?_
 have q1:h₀.get? ((s.heap.update a (Obj.mapSeq fun _=>(#[]:Array Value))).push (seqObj "tuple" vs.toArray 0)).objs.size=none:=zXa (hkS▸Nat.le_succ_of_le lt)
 have q2:((s.heap.update a (Obj.mapSeq fun _=>(#[]:Array Value))).push (seqObj "tuple" vs.toArray 0)).objs.size≠a:=hkS▸kJa (jJa ha)
 exact Quf (s:={ s with heap:=((s.heap.update a (Obj.mapSeq fun _=>(#[]:Array Value))).push (seqObj "tuple" vs.toArray 0)).push (seqObj "list" #[] 0) }) (kS:=((s.heap.update a (Obj.mapSeq fun _=>(#[]:Array Value))).push (seqObj "tuple" vs.toArray 0)).objs.size)
  hf (fun b o e=>jZ _ (jZ _ (Qbz X n1 b o e))) n1 q1 q2 (kX _ rfl) (jZ _ (jZ _ ho1)) hz h
end
section
variable{prog:Program}{w:World}{A:Around}{E:Value->Shared->Prop}{s:Shared}{l q:Addr}{vs:List Value}{Q:Value->Shared->Prop}
theorem Qnn(hf:FunR prog w A.in1.in1 s.heap s (.ref q) (fun v=>v∈vs) fun _ u=>∃b,u=.bool b)(hl:s.heap.IsList l vs.toArray)(hz:vs.length<=100000)
  (h:∀D h' tk out c,Ext s.heap h'->s.heap.objs.size<=D->h'.get? D=some (seqObj "list" out c)->out.toList.Perm vs->Q (.ref D) { s with heap:=h',toks:=tk }) :
  wpAny (model prog w) A (call (.builtin "sorted") [.ref l] [(Str.ofString "key",.ref q)]) Q E s:=by
 refine call_function_entry_kw kind_sorted plain_sorted entry_sorted (ksk_s1 _ _) ?_
 unfold Builtin.«sorted»
 refine jQ (m:=checkCount "sorted" 1 1 _) (jJ ?_)
 refine jQ (collect_list hl ?_ (by rw[sizeLine_eq];lia))
 refine jQ (wpAny_newList ?_ (by rw[sizeLine_eq];lia))
 have hsz:((s.heap.push (seqObj "list" #[] 0)).update s.heap.objs.size (Obj.mapSeq (· ++ vs.toArray))).objs.size=s.heap.objs.size+1:=by
  rw[Heap.size_update,size_push']
 have hoL:(((s.heap.push (seqObj "list" #[] 0)).update s.heap.objs.size (Obj.mapSeq (· ++ vs.toArray))).push (seqObj "list" vs.toArray 0)).get? (s.heap.objs.size+1)=some (seqObj "list" vs.toArray 0):=by
  rw[<-hsz];exact kX _ rfl
 have keep:Ext s.heap (((s.heap.push (seqObj "list" #[] 0)).update s.heap.objs.size (Obj.mapSeq (· ++ vs.toArray))).push (seqObj "list" vs.toArray 0)):=fun b o q=>by
  have hlt:b<s.heap.objs.size:=kK q
  rw[Heap.get?_push_ne _ _ _ (by rw[hsz];exact yZ (jJa hlt)),yZd _ _ _ _ (yZ hlt),Heap.get?_push_ne _ _ _ (yZ hlt)]
  exact q
 show wpAny _ _ _ _ _ { s with heap:=((s.heap.push (seqObj "list" #[] 0)).update s.heap.objs.size (Obj.mapSeq (· ++ vs.toArray))).push (seqObj "list" vs.toArray 0) }
 rw[hsz]
 refine jQ (wpAny_holding (wpAny_call_entry_kw slot_list_sort ⟨_,hoL,rfl⟩ entry_list_sort ?body (ksk_l1 _ _)))
 case body=>
  show wpAny (model prog w) A.in1.in1 (Builtin.«list.sort» ⟨[.ref (s.heap.objs.size+1)],[(Str.ofString "key",.ref q)]⟩) _ _ _
  rw[ksk_t1]
  refine Qug (h₀:=s.heap) (s:={ s with heap:=((s.heap.push (seqObj "list" #[] 0)).update s.heap.objs.size (Obj.mapSeq (· ++ vs.toArray))).push (seqObj "list" vs.toArray 0) }) hf keep
   (by dsimp only;rw[size_push',hsz];lia) (zXa (kQe _)) hoL hz fun h' tk out c x o p=>⟨_,rfl,?_⟩
  exact jJ ⟨_,rfl,h _ h' tk out c x (kQe _) o p⟩
end
end L2
namespace L2
open PySem PySem.Spec PySem.W PyProof.Rows
def LamT(H:Hp)(P:Addr)(pos:Pos)(q:Str):Prop :=
 ∃ps,H P=some (.tbl ps)/\(ps=#[]\/∃c' oc vs t,ps=#[rawInt pos.line,rawInt pos.col,.ref c']/\H c'=some (.frz oc (.own c'))/\oc.data=.fields vs/\vs[1]?=some (.str q t))
def SameT(H H':Hp):Prop:=∀a o,(∀ps,o≠.tbl ps)->H a=some o->H' a=some o
theorem SameT.refl(H:Hp):SameT H H:=fun _ _ _ e=>e
theorem SameT.trans{a b c:Hp}(x:SameT a b)(y:SameT b c):SameT a c:=fun p o n e=>y p o n (x p o n e)
def OthT(P:Addr)(H H':Hp):Prop:=∀b ps,b≠P->H b=some (.tbl ps)->H' b=some (.tbl ps)
theorem OthT.refl(P:Addr)(H:Hp):OthT P H H:=fun _ _ _ e=>e
theorem LamT.other{H H':Hp}{P P':Addr}{pos:Pos}{q:Str}(h:LamT H P' pos q)(S:SameT H H')(O:OthT P H H')(n:P'≠P):LamT H' P' pos q:=by
 obtain⟨ps,e,hh⟩:=h
 refine⟨ps,O _ _ n e,?_⟩
 rcases hh with e1 | ⟨c2,oc,vs,t,e1,e2,e3,e4⟩
 .exact .inl e1
 .exact .inr ⟨c2,oc,vs,t,e1,S _ _ (fun _ z=>nomatch z) e2,e3,e4⟩
def BltM(X:Cx):Prop:=∃bm o,X.mg "__builtins__"=some (.ref bm)/\bm≠builtinsNs/\bm≠mainGlobals/\X.base.get? bm=some o/\o.cls=.type "module"/\o.dict=some builtinsNs/\o.data=.plain
def BltK(K:Fg)(mg:Str->Option Value):Prop:=∃bm o,mg "__builtins__"=some (.ref bm)/\bm≠builtinsNs/\bm≠mainGlobals/\K.lookup bm=some o/\o.cls=.type "module"/\o.dict=some builtinsNs/\o.data=.plain
theorem BltK.of{X:Cx}{pins:List (Addr×Obj)}{σ:St}{H:Hp}{s:Shared}(B:BltK X.K X.mg)(I:Inv X pins σ H s):BltM X:=by
 obtain⟨bm,o,b1,b2,b3,b4,r⟩:=B;exact⟨bm,o,b1,b2,b3,I.ok.mod.kin _ _ b4,r⟩
structure FunL(K:Fg)(x qual:Str)(st:Stmt)(f:Addr)(fd:FuncData)(c P:Addr):Prop where
 ex:∃(oc:Value) (od:Option Addr) (kV doc pm:Value) (an:Option Addr) (ct:Value) (osl:Array (Option Value)),
  fd=PySem.W.fnOf x qual (Qv st) (Qq st) (Qh st) .none kV doc pm an (.ref c) ct/\K.lookup f=some ⟨oc,od,.func fd,osl⟩/\PySem.W.codeIn K (.ref c) qual=true
 kp:PySem.W.keepIn K (.ref f)=true
 hd:PySem.W.codeHdIn K c P=true
theorem FunL.fn{K:Fg}{x qual:Str}{st:Stmt}{f:Addr}{fd:FuncData}{c P:Addr}(F:FunL K x qual st f fd c P):Fun K x qual st f fd :=
 let ⟨⟨oc,od,kV,doc,pm,an,ct,osl,e,l,h⟩,k,_⟩:=F;⟨⟨oc,od,kV,doc,pm,an,.ref c,ct,osl,e,l,h⟩,k⟩
theorem FunL.ok{P:Program}{w:World}{K:Fg}{mg:Str->Option Value}{base:Heap}{x qual:Str}{st:Stmt}{f c T:Addr}{fd:FuncData}{N ps:List Str}{k:Nat}{sp:Sp}(F:FunL K x qual st f fd c T)(S:FnScope N ps (Qh st))(len:∀vs H Q E,sp vs H Q E->vs.length=ps.length)
  (hbody:∀(A:Around) (outer:List Env) (s:Shared) (H:Hp) (vs:List V) (Q:VK) (E:XK),Room k (A.deeper (envOfC qual (Qh st) s.heap.objs.size f (.ref c)))->sp vs H Q E ->
   ∃t,PSs (cxOf CX0 P w K mg base N qual (Qh st) f (.ref c) A outer s H E).nox (Qq st) t/\t { nx:=fun _ H'=>Q .non H',rt:=Q } (start N vs) H):FnOk P w K mg base CX0 (k+1) f fd ps sp:=by
 obtain⟨oc,od,kV,doc,pm,an,ct,osl,rfl,lk,hcd⟩:=F.ex
 refine fn_of lk hcd S len fun A outer s H vs Q E hr hsp=>?_
 obtain⟨t,h,q⟩:=hbody A outer s H vs Q E hr hsp
 exact⟨t,h.nox,q⟩
theorem Qno{K:Fg}{x qual:Str}{st:Stmt}{f c P:Addr}{oc:Value}{od an:Option Addr}{osl:Array (Option Value)}{kV doc pm ct:Value}(l:K.lookup f=some ⟨oc,od,.func (PySem.W.fnOf x qual (Qv st) (Qq st) (Qh st) .none kV doc pm an (.ref c) ct),osl⟩)
  (h:PySem.W.codeIn K (.ref c) qual=true) (k:PySem.W.keepIn K (.ref f)=true) (d:PySem.W.codeHdIn K c P=true):FunL K x qual st f (PySem.W.fnOf x qual (Qv st) (Qq st) (Qh st) .none kV doc pm an (.ref c) ct) c P:=⟨⟨oc,od,kV,doc,pm,an,ct,osl,rfl,l,h⟩,k,d⟩
def FnL(K:Fg)(mg:Str->Option Value)(x:Str)(st:Stmt)(c P:Addr):Prop:=∃f fd,FunL K x x st f fd c P/\mg x=some (.ref f)
theorem Quh{P:Program}{w:World}{K:Fg}{mg:Str->Option Value}{base:Heap}{k:Nat}{x:Str}{st:Stmt}{N ps:List Str}{sp:Sp}{c T:Addr}(F:FnL K mg x st c T)(S:FnScope N ps (Qh st))
  (hb:∀(kV doc pm:Value) (an:Option Addr) (cdv ct:Value) (us:List Value),us.length=ps.length->bindArgs (PySem.W.fnOf x x (Qv st) (Qq st) (Qh st) .none kV doc pm an cdv ct) ⟨us,[]⟩=pure (ps.zip us)) (len:∀vs H Q E,sp vs H Q E->vs.length=ps.length)
  (hbody:∀(f:Addr) (A:Around) (outer:List Env) (s:Shared) (H:Hp) (vs:List V) (Q:VK) (E:XK),Room k (A.deeper (envOfC x (Qh st) s.heap.objs.size f (.ref c)))->sp vs H Q E ->
   ∃t,PSs (cxOf CX0 P w K mg base N x (Qh st) f (.ref c) A outer s H E).nox (Qq st) t/\t { nx:=fun _ H'=>Q .non H',rt:=Q } (start N vs) H):Cal P w K mg base (k+1) x ps sp:=by
 obtain⟨f,fd,F,m⟩:=F
 exact⟨f,fd,F.ok S len (hbody f),m,F.kp,F.fn.binds hb⟩
section
variable{X:Cx}{pins:List (Addr×Obj)}{σ:St}{H:Hp}{s:Shared}{c P:Addr}{pos:Pos}{firstLine:Nat}{name qual:Str}{params:Arguments}{body:Expr}{scope:Scope}{clos:List (Str×Addr)}{M:Model}{A:Around}{E:Value->Shared->Prop}{Q:Value->Shared->Prop}
theorem Qhw(I:Inv X pins σ H s)(hcode:X.env.code=.ref c)(C:CodeHd X.base c P)(B:BltM X)(hcl:closureFor scope X.env=pure clos)(T:LamT H P pos qual)
  (h:∀f c' pm ctv h' tk H1,Inv X pins σ H1 { s with heap:=h',toks:=tk }->SameT H H1->OthT P H H1->LamT H1 P pos qual->h'.CodeRec (.ref c') qual->H1 f=none ->
   h'.get? f=some { cls:=.type "function",data:=.func (kla_fn name qual params body scope clos pm (.ref c') ctv) }->Q (.ref f) { s with heap:=h',toks:=tk }) :
  wpAny M A (makeFunction name qual params (.expr body) scope X.env [] [] [] pos firstLine) Q E s:=by
 obtain⟨ps,hP,T⟩:=T
 obtain⟨bm,ob,b1,b2,b3,b4,b5,b6,b7⟩:=B
 have oP:s.heap.get? P=some (tabObj ps):=I.hok P _ hP
 have nP:∀b o,X.base.get? b=some o->b≠P:=fun b o e z=>by
  have:=(I.bs b o e).2
  rw[z,hP]at this;cases this
 have hgP:mainGlobals≠P:=by
  obtain⟨o,es,ep,e,_⟩:=I.mod.glob
  exact nP _ _ e
 have hB:s.heap.BuiltinsAt X.mg P:=⟨bm,ob,b1,b2,b3,nP _ _ b4,I.bk _ _ b4,b5,b6,b7⟩
 have hns:s.heap.Ns mainGlobals X.mg:=I.mod.glob.keeps I.bk
 rcases T with rfl | ⟨c',oc,vs,t,rfl,hc',d1,d2⟩
 .refine kla_makeFunction hcl I.ok.glob hns hcode (C.keeps I.bk) oP True.intro rfl hgP hB fun c' ctv h' tk hx hge hlt hrec htb=>?_
  obtain⟨c2,oc,vs,t,e2,hoc,hd,hv⟩:=id hrec
  cases e2
  have ltP:P<s.heap.objs.size:=kK oP
  have ne1:P≠c':=yZ (xK ltP hge)
  have fr:∀b,s.heap.objs.size<=b->H b=none:=fun b hb=>I.hok.fresh hb
  have kp:∀(o2:Obj) b o,b≠P->s.heap.get? b=some o->(h'.push o2).get? b=some o:=fun o2 b o n e=>jZ _ (hx b o n e)
  have H1c:upd (upd H P (.tbl #[rawInt pos.line,rawInt pos.col,.ref c'])) c' (.frz oc (.own c')) c'=some (.frz oc (.own c')):=Qb
  have H1P:upd (upd H P (.tbl #[rawInt pos.line,rawInt pos.col,.ref c'])) c' (.frz oc (.own c')) P=some (.tbl #[rawInt pos.line,rawInt pos.col,.ref c']):=by rw[Qk ne1,Qb]
  have H1o:∀b,b≠P->b≠c'->upd (upd H P (.tbl #[rawInt pos.line,rawInt pos.col,.ref c'])) c' (.frz oc (.own c')) b=H b:=fun b n1 n2=>by rw[Qk n2,Qk n1]
  have H1s:∀b o,(∀ps,o≠.tbl ps)->H b=some o->upd (upd H P (.tbl #[rawInt pos.line,rawInt pos.col,.ref c'])) c' (.frz oc (.own c')) b=some o:=fun b o n e=>by
   rw[H1o b (fun z=>by rw[z,hP]at e;cases e;exact n _ rfl) (fun z=>by rw[z,fr c' hge]at e;cases e)]
   exact e
  refine h h'.objs.size c' _ ctv _ tk (upd (upd H P (.tbl #[rawInt pos.line,rawInt pos.col,.ref c'])) c' (.frz oc (.own c'))) ?_ H1s (fun b ps n e=>by rw[H1o b n (fun z=>by rw[z,fr c' hge]at e;cases e)];exact e) ⟨_,H1P,.inr ⟨c',oc,vs,t,rfl,H1c,hd,hv⟩⟩ ⟨c',oc,vs,t,rfl,jZ _ hoc,hd,hv⟩ ?_ (kX _ rfl)
  .refine I.step (g':=s.gens) (d':=s.drawn) (ch:=[]) (fun _ z=>nomatch z) (fun b o _ _ _ e n=>?_) (fun b o _ _ _ e n=>?_) (fun b o _ e n=>?_) (fun b o _ e=>?_) (fun b xs e=>H1s b _ (fun _ z=>nomatch z) e) (fun b o u e=>H1s b _ (fun _ z=>nomatch z) e)
    (fun b qs e=>?_) (fun m ⟨o,es,ep,e,r⟩=>⟨o,es,ep,kp _ _ _ (fun z=>by have:=I.free;rw[z,hP]at this;cases this) e,r⟩) ?_ I.bare
   .exact kp _ b o (fun z=>by rw[z,hP]at n;cases n) e
   .exact⟨o.slots,kp _ b o (fun z=>by rw[z,hP]at n;cases n) e⟩
   .rw[H1o b (fun z=>by rw[z,hP]at n;cases n) (yZ (xK (kK e) hge))]
    exact n
   .by_cases z:b=P
    .exact⟨_,z▸jZ _ htb⟩
    .exact⟨o,kp _ b o z e⟩
   .by_cases z:b=P
    .rw[z]at e⊢
     rw[hP]at e;cases e
     exact⟨#[rawInt pos.line,rawInt pos.col,.ref c'],by rw[H1P];rfl⟩
    .refine⟨#[],?_⟩
     rw[H1o b z (fun y=>by rw[y,fr c' hge]at e;cases e),e,yJc]
   .intro b u e
    by_cases z:b=c'
    .rw[z,H1c]at e;cases e
     rw[z]
     exact⟨jZ _ hoc,⟨_,jZ _ hoc⟩⟩
    .by_cases y:b=P
     .rw[y,H1P]at e;cases e
      rw[y]
      exact jZ _ htb
     .rw[H1o b y z]at e
      refine(I.hok b u e).stay (fun a v ha r=>kp _ a v (fun q=>?_) r) (fun a r=>H1s a _ (fun _ z=>nomatch z) r) fun a xs r=>H1s a _ (fun _ z=>nomatch z) r
      rcases ha with rfl | ha
      .exact y q
      .rw[q,hP]at ha;cases ha
  .rw[H1o _ (fun z=>by rw[z]at hlt;exact absurd (xK ltP (jQd hge (yZe hlt))) (jJe _)) (kJa hlt)]
   exact fr _ (jQd hge (yZe hlt))
 .obtain⟨q1,_⟩:=I.hok c' _ hc'
  refine kla_makeFunctionHit (cv:=.ref c') hcl I.ok.glob hns hcode (C.keeps I.bk) oP (by simp[TriplesOk,rawInt]) (by simp[codeAmong,rawInt]) hB fun ctv h' tk hk hsz=>?_
  have k2:∀(o2:Obj) b o,s.heap.get? b=some o->(h'.push o2).get? b=some o:=fun o2 b o e=>jZ _ (hk b o e)
  exact h h'.objs.size c' _ ctv _ tk H (I.kept (k2 _)) (SameT.refl H) (OthT.refl P H) ⟨_,hP,.inr ⟨c',oc,vs,t,rfl,hc',d1,d2⟩⟩ ⟨c',oc,vs,t,rfl,k2 _ _ _ q1,d1,d2⟩ (I.hok.fresh hsz) (kX _ rfl)
end
end L2
namespace Nb
open PySem L2
def coN:List Str:=["problem","patience","leasts","parts","stands"]
structure CoTxt(K:Fg)(mg:Str->Option Value)(C:Addr):Prop where
 cl:Cls K C
 na:∀f∈coN,NoAttr K C f
def ObF(C:Addr)(H:Hp)(p:Addr)(lk:Str->Option V):Prop:=∃dx fs,H p=some (.ins C dx fs)/\fs.length<100/\∀x,fs.lookup x=lk x
section
variable{K:Fg}{mg:Str->Option Value}{C:Addr}{H:Hp}{p:Addr}{lk:Str->Option V}
theorem ObF.fld{f:Str}{v:V}{Q:V->Prop}(S:ObF C H p lk)(T:CoTxt K mg C)(hf:f∈coN)(hv:lk f=some v)(q:Q v):∃a C dx fs v',V.ref p=.ref a/\H a=some (.ins C dx fs)/\Cls K C/\NoAttr K C f/\fs.lookup f=some v'/\Q v':=by
 obtain⟨dx,fs,h1,h2,h3⟩:=S
 exact⟨p,C,dx,fs,v,rfl,h1,T.cl,T.na f hf,(h3 f).trans hv,q⟩
theorem ObF.mt{nm:Str}{q:Prop}(S:ObF C H p lk)(hn:lk nm=none)(h:q):∃a dx fs,V.ref p=.ref a/\H a=some (.ins C dx fs)/\fs.lookup nm=none/\q:=by
 obtain⟨dx,fs,h1,h2,h3⟩:=S
 exact⟨p,dx,fs,rfl,h1,(h3 nm).trans hn,h⟩
theorem ObF.same{H':Hp}(S:ObF C H p lk)(s:∀o,H p=some o->H' p=some o):ObF C H' p lk:=by
 obtain⟨dx,fs,h1,h2,h3⟩:=S
 exact⟨dx,fs,s _ h1,h2,h3⟩
end
theorem ObF.sameT{C:Addr}{H H':Hp}{p:Addr}{lk:Str->Option V}(S:ObF C H p lk)(s:SameT H H'):ObF C H' p lk:=by
 obtain⟨dx,fs,h1,h2,h3⟩:=S
 exact⟨dx,fs,s _ _ (fun _ z=>nomatch z) h1,h2,h3⟩
def stn(rs:List Row)(j:Nat):List (Nat×Int):=((List.range rs.length).filter fun k=>!decide ((rs.getD k ([],0)).1.getD j 0=0)).map fun k=>(k,(rs.getD k ([],0)).1.getD j 0)
def PtsA(K:Fg)(H:Hp){α:Type}(f:α->List (Nat×Int)):List V->List α->Prop:=Paired fun v x=>∃l ts,v=V.ref l/\SqL K H l ts/\PtA K H ts (f x)
theorem PtsA.same{K:Fg}{H H':Hp}{α:Type}{f:α->List (Nat×Int)}{us:List V}{xs:List α}(h:PtsA K H f us xs)(s:Same H H'):PtsA K H' f us xs :=
 Paired.mapP h fun _ _ ⟨l,ts,e,h1,h2⟩=>⟨l,ts,e,s.seq h1,Paired.mapP h2 fun _ _ ⟨t,e,z⟩=>⟨t,e,s.tup z⟩⟩
def CoAt(K:Fg)(C:Addr)(H:Hp)(p:Addr)(rs:List Row)(cs:List Int):Prop :=
 ∃(lk:Str->Option V) (prb le pa st:Addr) (us ws:List V),ObF C H p lk/\(∀x∈(["__init__","row_looks","choice_looks","finer","fixed","is_tired","turn_by"]:List Str),lk x=none)/\lk "problem"=some (.ref prb)/\ProbAt K H prb rs cs/\lk "patience"=some .non /\
  lk "leasts"=some (.ref le)/\SqL K H le (rs.map fun r=>V.int r.2)/\lk "parts"=some (.ref pa)/\SqL K H pa us/\PtsA K H prt us rs/\lk "stands"=some (.ref st)/\SqL K H st ws/\PtsA K H (stn rs) ws (List.range cs.length)
theorem CoAt.same{K:Fg}{C:Addr}{H H':Hp}{p:Addr}{rs:List Row}{cs:List Int}(S:CoAt K C H p rs cs)(s:Same H H'):CoAt K C H' p rs cs:=by
 obtain⟨lk,prb,le,pa,st,us,ws,h1,h2,h3,h4,h5,h6,h7,h8,h9,h10,h11,h12,h13⟩:=S
 exact⟨lk,prb,le,pa,st,us,ws,h1.same fun o e=>s _ _ e,h2,h3,h4.same s,h5,h6,s.seq h7,h8,s.seq h9,h10.same s,h11,s.seq h12,h13.same s⟩
def PrI(K:Fg)(Dx:Addr)(H:Hp)(v:V)(p:Int×Int):Prop:=∃t,t≠Dx/\v=.ref t/\SqT K H t [.int p.1,.int p.2]
theorem PrI.upd{K:Fg}{Dx:Addr}{H:Hp}{v:V}{p:Int×Int}{zs:List V}(h:PrI K Dx H v p):PrI K Dx (upd H Dx (.lst zs)) v p:=by
 obtain⟨t,n,e,h⟩:=h
 refine⟨t,n,e,?_⟩
 rcases h with(h | ⟨o,h⟩) | h
 .exact .inl (.inl (by rw[Qk n];exact h))
 .exact .inl (.inr ⟨o,by rw[Qk n];exact h⟩)
 .exact .inr h
theorem PrI.same{K:Fg}{Dx:Addr}{H H':Hp}{v:V}{p:Int×Int}(h:PrI K Dx H v p)(s:Same H H'):PrI K Dx H' v p:=by
 obtain⟨t,n,e,h⟩:=h
 exact⟨t,n,e,s.tup h⟩
theorem Xz{α β:Type}{R:α->β->Prop}:∀{xs:List α} {ys:List β} {x:α} {y:β},Paired R xs ys->R x y->Paired R (xs++[x]) (ys++[y])
 |_,_,_,_,.nil,h=>.cons h .nil
 |_,_,_,_,.cons a t,h=>.cons a (Xz t h)
theorem Qca{K:Fg}{H:Hp}{vs:List V}{ks:List D}{a:Addr}{k:D}(h:LksAre K H vs ks)(z:LkT K H a k):LksAre K H (vs++[.ref a]) (ks++[k]):=Xz h ⟨a,rfl,z⟩
theorem Qnp{K:Fg}{H:Hp}{t u:Addr}{c:Int}{ws:List V}{ps:List (Int×Int)}(h:SqT K H t [.int c,.ref u])(hu:SqT K H u ws)(hp:Qlt K H ws ps):LkT K H t (Qdv c ps):=by
 refine⟨pairD h (.int _) (.tup hu (by rw[jX];exact Paired.length hp) fun i v x e1 e2=>?_),⟨_,_,rfl⟩⟩
 obtain⟨p,ep,a,rfl,z⟩:=Paired.getR hp e1
 rw[jV,ep]at e2
 cases e2
 exact pairD z (.int _) (.int _)
def LkOf(col:List Int)(c:Int)(qs:List (Nat×Int))(k:D):Prop:=∃ps:List (Int×Int),k=Qdv c ps/\ps.Perm (qs.map fun q=>(col.getD q.1 0,q.2))/\ps.Pairwise fun x y=>Kl (prR y) (prR x)=false
abbrev Qeg:Stmt:=inClass (top 8) 1
def Qnq(P:Program)(w:World)(K:Fg)(C:Addr):Sp:=fun vs H Q _=>∃(p l:Addr) (rs:List Row) (cs col:List Int),vs=[.ref p,.ref l]/\CoAt K C H p rs cs/\(SqL K H l (col.map V.int)\/SqT K H l (col.map V.int))/\(∀r∈rs,r.1.length=col.length)/\rs.length<=1000/\col.length<=100 /\
 ∀(d:Addr) (ws:List V) (ks:List D) (H':Hp),Same H H'->H' d=some (.lst ws)->LksAre K H' ws ks->Paired (fun r k=>LkOf col r.2 (prt r) k) rs ks->Q (.ref d) H'
section
variable{P:Program}{w:World}{K:Fg}{mg:Str->Option Value}{base:Heap}
theorem scRowLk:FnScope ["self","colours","looks","least","parts"] ["self","colours"] (Qh Qeg):=⟨rfl,rfl,rfl,Dk,rfl,Dk,Dk⟩
theorem Qui{f C:Addr}{fd:FuncData}(F:Fun K "row_looks" "Colours.row_looks" Qeg f fd)(M:Mg mg)(T:CoTxt K mg C):FnOk P w K mg base CX0 1 f fd ["self","colours"] (Qnq P w K C):=by
 refine F.ok scRowLk (fun vs H Q E h=>?_) (fun cdv A outer s H vs Q E hr h=>?_)
 .obtain⟨p,l,rs,cs,col,rfl,_⟩:=h
  rfl
 obtain⟨p,l,rs,cs,col,rfl,S,hl,hrl,h1,h2,q⟩:=h
 refine⟨_,(Qg (Qo (i:=2) scRowLk.nd rfl (Or.inl rfl) (Yj Qf))
  (Qg (Yb PassesOwn.never rfl (Qcw true true rfl M.zip_ (Qa (Zv (pv 0) rfl) (Qa (Zv (pv 0) rfl) Qf))) (Yf (K:=K) (i:=3) (j:=4) rfl rfl scRowLk.nd rfl rfl rfl rfl) (Qm (Zb (Vm PySem.F.plainAttrs_list PySem.F.slot_list_append PySem.F.type_list_append Xo (pv 2) (Qa (Yd (Qa (pv 3) (Qa (Qt Xd rfl M.tuple_ Yt (Qa (Qn (Zt (K:=K) rfl (xX (xZ Dc _) hr.un)) rfl M.sorted Xq (Qa (Zy ["choice","here","colours"] [none,none,some 1] rfl (Xj (pv 4)) (fun _ _ _=>(Yf (K:=K) (i:=0) (j:=1) rfl rfl (show(["choice","here","colours"]:List Str).Nodup by decide +kernel) rfl rfl rfl rfl)) (fun _ _ _=>Ye) (fun _ _ _=>(Yd (Qa (Qu ((Kh (K:=K) rfl).or (Zr (K:=K) rfl)) (pv 2) (pv 0) (fun _ _=>rfl)) (Qa (pv 1) Qf))))) Qf)) Qf)) Qf))) Qf)))))
  (Qm (Qs (pv 2))))),?_⟩
 have hz:(1000:Nat)<sizeLine:=Dc
 obtain⟨lk,prb,le,pa,st,us,ws,o1,o2,o3,o4,o5,o6,o7,o8,o9,o10,o11,o12,o13⟩:=id S
 have lu:=Paired.length o10
 refine⟨by show 0<=sizeLine;decide,fun L hL=>?_⟩
 have s0:=Qc hL (.lst [])
 have hL0:upd H L (.lst []) L=some (.lst []):=Qb
 generalize upd H L (.lst [])=H0 at s0 hL0⊢
 have T0:=o1.same fun o e=>s0 _ _ e
 refine⟨_,rfl,T0.fld T (by unfold coN;simp) o6 ⟨_,rfl,T0.fld T (by unfold coN;simp) o8 ?_⟩⟩
 refine⟨le,pa,rfl,⟨_,s0.seq o7⟩,⟨_,s0.seq o9⟩,Qbh (K:=K) (m1:=true) (m2:=true) (a:=le) (b:=pa) (xs:=rs.map fun r=>V.int r.2) (ys:=us) (fun i σ H2=>∃(x y:Option V) (ws:List V) (ks:List D),σ=[some (.ref p),some (.ref l),some (.ref L),x,y]/\H2 L=some (.lst ws)/\LksAre K H2 ws ks/\Paired (fun r k=>LkOf col r.2 (prt r) k) (rs.take i) ks/\Same H H2) ⟨none,none,[],[],rfl,hL0,.nil,.nil,s0⟩ (fun i σ H2 _ h=>?_) ?_ ?_⟩
 .obtain⟨x,y,ws,ks,rfl,hL2,g1,g2,s2⟩:=h
  exact⟨s2.seq o7,s2.seq o9⟩
 .rintro i x y σ H2 T2 e1 e2 ⟨x0,y0,ws2,ks,rfl,hL2,g1,g2,s2⟩ hT2
  obtain⟨r,er,lp,ts,rfl,z1,z2⟩:=Paired.getR o10 e2
  rw[jV,er]at e1
  cases e1
  have sT:=Qc hT2 (.tup [V.int r.2,V.ref lp])
  have s3:=s2.trans sT
  have hL3:=sT _ _ hL2
  have hT3:upd H2 T2 (.tup [V.int r.2,V.ref lp]) T2=some (.tup [V.int r.2,V.ref lp]):=Qb
  generalize upd H2 T2 (.tup [V.int r.2,V.ref lp])=H3 at sT s3 hL3 hT3⊢
  refine⟨T2,_,rfl,Qr hT3,rfl,_,_,rfl,_,_,rfl,rfl,?_⟩
  have hi:i<rs.length:=(jK.mp er).1
  have lr:=hrl r (kY er)
  have lp1:(prt r).length<=100:=by
   unfold prt
   rw[jX]
   have:=jJd (fun j=>!decide (r.1.getD j 0=0)) (List.range r.1.length)
   rw[kQ]at this
   lia
  have lz:=Paired.length z2
  refine⟨_,rfl,.inl ⟨rfl,_,Qi hL3⟩,_,rfl,?_⟩
  refine⟨_,rfl,lp,rfl,⟨_,s3.seq z1⟩,fun Dx hDx=>?_⟩
  refine Ww (K:=K) (xs:=prt r) (v1:=fun q=>.int ((q.1:Nat):Int)) (v2:=fun q=>.int q.2) (PrI K Dx) (fun q=>(col.getD q.1 0,q.2)) (fun _=>true) rfl (Vg (s3.seq z1) (Paired.mapP z2 fun _ _ ⟨t,e,z⟩=>⟨t,e,s3.tup z⟩)) Om hDx (fun _ s h=>h.same s) (fun h=>h.upd) (fun k _ H5 _ P h=>h H5 fun _ _ z=>z) (fun x hx _ H5 s5 hD5 P h=>?_) fun H5 ys s5 hD5 hp5=>?_
  .have hq:x.1<col.length:=by
    unfold prt at hx
    obtain⟨j,hj,rfl⟩:=zQ.mp hx
    have:=yQ.mp (wK.mp hj).1
    rw[lr]at this
    exact this
   rcases hl with z | z
   .refine⟨_,rfl,_,rfl,.inl ⟨l,_,_,_,rfl,rfl,(s3.trans s5).seq z,atK6 hq,?_⟩⟩
    refine⟨_,rfl,by show 2<=sizeLine;decide,fun t ht=>?_⟩
    exact h _ _ (Qc ht _) ⟨t,fun y=>hD5 (by rw[<-y];exact ht),rfl,Qr Qb⟩
   .refine⟨_,rfl,_,rfl,.inr ⟨l,_,_,_,rfl,rfl,(s3.trans s5).tup z,atK6 hq,?_⟩⟩
    refine⟨_,rfl,by show 2<=sizeLine;decide,fun t ht=>?_⟩
    exact h _ _ (Qc ht _) ⟨t,fun y=>hD5 (by rw[<-y];exact ht),rfl,Qr Qb⟩
  rw[yQc.mpr (fun _ _=>rfl)]at hp5
  have lys:=Paired.length hp5
  rw[jX]at lys
  refine⟨Dx,ys,_,rfl,Qi hD5,Paired.mapP hp5 fun _ _ ⟨t,_,e,z⟩=>⟨t,e,z⟩,Om,fun S ws ps hS gS lS pm so=>?_⟩
  have s6:=s5.trans (Qc hS (.lst ws))
  have gS:=Paired.mapP gS fun _ _ ⟨t,e,z⟩=>(⟨t,e,(Qc hS (.lst ws)).tup z⟩:PrAt K (upd H5 S (.lst ws)) _ _)
  have hS6:upd H5 S (.lst ws) S=some (.lst ws):=Qb
  generalize upd H5 S (.lst ws)=H6 at s6 gS hS6⊢
  refine⟨S,ws,rfl,.inl ⟨Qi hS6,fun Tt hTt=>?_⟩⟩
  have s7:=s6.trans (Qc hTt (.tup ws))
  have gS:=Paired.mapP gS fun _ _ ⟨t,e,z⟩=>(⟨t,e,(Qc hTt (.tup ws)).tup z⟩:PrAt K (upd H6 Tt (.tup ws)) _ _)
  have hT7:upd H6 Tt (.tup ws) Tt=some (.tup ws):=Qb
  generalize upd H6 Tt (.tup ws)=H7 at s7 gS hT7⊢
  refine⟨by show 2<=sizeLine;decide,fun kk hkk=>?_⟩
  have sK:=Qc hkk (.tup [V.int r.2,V.ref Tt])
  have s8:=s7.trans sK
  have hK8:upd H7 kk (.tup [V.int r.2,V.ref Tt]) kk=some (.tup [V.int r.2,V.ref Tt]):=Qb
  have hT8:=sK _ _ hT7
  have gS:=Paired.mapP gS fun _ _ ⟨t,e,z⟩=>(⟨t,e,sK.tup z⟩:PrAt K (upd H7 kk (.tup [V.int r.2,V.ref Tt])) _ _)
  generalize upd H7 kk (.tup [V.int r.2,V.ref Tt])=H8 at s8 gS hK8 hT8⊢
  have hL8:=s8 _ _ hL3
  have lk8:=Qnp (Qr hK8) (Qr hT8) gS
  have lg:=Paired.length g1
  have lg2:=Paired.length g2
  rw[wZ]at lg2
  refine⟨L,ws2,_,rfl,rfl,hL8,Om,⟨_,_,_,ks++[Qdv r.2 ps],rfl,Qb,?_,?_,fun b o e=>?_⟩⟩
  .exact Qca (Paired.mapP (g1.same (sT.trans s8)) fun _ _ ⟨a,e,z⟩=>⟨a,e,LkT.upd hL8 z⟩) (LkT.upd hL8 lk8)
  .rw[Qbn er]
   exact Xz g2 ⟨ps,rfl,pm,so⟩
  .rw[Qk (Ql e hL)]
   exact s8 _ _ (s3 _ _ e)
 .rintro σ H2 ⟨x,y,ws2,ks,rfl,hL2,g1,g2,s2⟩
  rw[jX,lu,Nat.min_self,wW]at g2
  exact⟨_,rfl,q L ws2 ks H2 s2 hL2 g1 g2⟩
abbrev Qeh:Stmt:=inClass (top 8) 2
def Qfz(P:Program)(w:World)(K:Fg)(C:Addr):Sp:=fun vs H Q _=>∃(p l m:Addr) (rs:List Row) (cs col rw:List Int),vs=[.ref p,.ref l,.ref m]/\CoAt K C H p rs cs/\SqL K H l (col.map V.int)/\SqL K H m (rw.map V.int)/\rw.length=rs.length/\col.length=cs.length/\rs.length<=1000/\col.length<=100 /\
 ∀(d:Addr) (ws:List V) (ks:List D) (H':Hp),Same H H'->H' d=some (.lst ws)->LksAre K H' ws ks->Paired (fun j k=>LkOf rw (col.getD j 0) (stn rs j) k) (List.range col.length) ks->Q (.ref d) H'
theorem scChLkL:FnScope ["self","colours","rows","looks","colour","places"] ["self","colours","rows"] (Qh Qeh):=⟨rfl,rfl,rfl,Dk,rfl,Dk,Dk⟩
theorem Quj{f C:Addr}{fd:FuncData}(F:Fun K "choice_looks" "Colours.choice_looks" Qeh f fd)(M:Mg mg)(T:CoTxt K mg C):FnOk P w K mg base CX0 1 f fd ["self","colours","rows"] (Qfz P w K C):=by
 refine F.ok scChLkL (fun vs H Q E h=>?_) (fun cdv A outer s H vs Q E hr h=>?_)
 .obtain⟨p,l,m,rs,cs,col,rw0,rfl,_⟩:=h
  rfl
 obtain⟨p,l,m,rs,cs,col,rw0,rfl,S,hl,hm,hrw,hcs,h1,h2,q⟩:=h
 refine⟨_,(Qg (Qo (i:=3) scChLkL.nd rfl (Or.inl rfl) (Yj Qf))
  (Qg (Yb PassesOwn.never rfl (Qcw true true rfl M.zip_ (Qa (pv 1) (Qa (Zv (pv 0) rfl) Qf))) (Yf (K:=K) (i:=4) (j:=5) rfl rfl scChLkL.nd rfl rfl rfl rfl) (Qm (Zb (Vm PySem.F.plainAttrs_list PySem.F.slot_list_append PySem.F.type_list_append Xo (pv 3) (Qa (Yd (Qa (pv 4) (Qa (Qt Xd rfl M.tuple_ Yt (Qa (Qn (Zt (K:=K) rfl (xX (xZ Dc _) hr.un)) rfl M.sorted Xq (Qa (Zy ["number","here","rows"] [none,none,some 2] rfl (Xj (pv 5)) (fun _ _ _=>(Yf (K:=K) (i:=0) (j:=1) rfl rfl (show(["number","here","rows"]:List Str).Nodup by decide +kernel) rfl rfl rfl rfl)) (fun _ _ _=>Ye) (fun _ _ _=>(Yd (Qa (Qu (Kh (K:=K) rfl) (pv 2) (pv 0) (fun _ _=>rfl)) (Qa (pv 1) Qf))))) Qf)) Qf)) Qf))) Qf)))))
  (Qm (Qs (pv 3))))),?_⟩
 have hz:(1000:Nat)<sizeLine:=Dc
 obtain⟨lk,prb,le,pa,st,us,ws,o1,o2,o3,o4,o5,o6,o7,o8,o9,o10,o11,o12,o13⟩:=id S
 have lu:=Paired.length o13
 rw[kQ]at lu
 refine⟨by show 0<=sizeLine;decide,fun L hL=>?_⟩
 have s0:=Qc hL (.lst [])
 have hL0:upd H L (.lst []) L=some (.lst []):=Qb
 generalize upd H L (.lst [])=H0 at s0 hL0⊢
 have T0:=o1.same fun o e=>s0 _ _ e
 refine⟨_,rfl,_,rfl,T0.fld T (by unfold coN;simp) o11 ?_⟩
 let Pv13:Nat->St->Hp->Prop:=fun i σ H2=>∃(x y:Option V) (ws:List V) (ks:List D),σ=[some (.ref p),some (.ref l),some (.ref m),some (.ref L),x,y]/\H2 L=some (.lst ws)/\LksAre K H2 ws ks/\Paired (fun j k=>LkOf rw0 (col.getD j 0) (stn rs j) k) ((List.range col.length).take i) ks/\Same H H2
 refine⟨l,st,rfl,⟨_,s0.seq hl⟩,⟨_,s0.seq o12⟩,Qbh (K:=K) (m1:=true) (m2:=true) (a:=l) (b:=st) (xs:=col.map V.int) (ys:=ws) Pv13 ⟨none,none,[],[],rfl,hL0,.nil,(by rw[yJf];exact .nil),s0⟩ (fun i σ H2 _ h=>?_) ?_ ?_⟩
 .obtain⟨x,y,ws,ks,rfl,hL2,g1,g2,s2⟩:=h
  exact⟨s2.seq hl,s2.seq o12⟩
 .rintro i x y σ H2 T2 e1 e2 ⟨x0,y0,ws2,ks,rfl,hL2,g1,g2,s2⟩ hT2
  obtain⟨r,er,lp,ts,rfl,z1,z2⟩:=Paired.getR o13 e2
  have hi:i<ws.length:=(jK.mp e2).1
  have hic:i<col.length:=Om
  rw[xY Om]at er
  cases er
  have ex:x=V.int (col.getD i 0):=by
   rw[jV,gE hic]at e1
   cases e1
   rw[jY,gE hic];rfl
  subst ex
  have er:(List.range col.length)[i]?=some i:=xY hic
  generalize hcr:col.getD i 0=cr at *
  have sT:=Qc hT2 (.tup [V.int cr,V.ref lp])
  have s3:=s2.trans sT
  have hL3:=sT _ _ hL2
  have hT3:upd H2 T2 (.tup [V.int cr,V.ref lp]) T2=some (.tup [V.int cr,V.ref lp]):=Qb
  generalize upd H2 T2 (.tup [V.int cr,V.ref lp])=H3 at sT s3 hL3 hT3⊢
  refine⟨T2,_,rfl,Qr hT3,rfl,_,_,rfl,_,_,rfl,rfl,?_⟩
  have lp1:(stn rs i).length<=1000:=by
   unfold stn
   rw[jX]
   have:=jJd (fun k=>!decide ((rs.getD k ([],0)).1.getD i 0=0)) (List.range rs.length)
   rw[kQ]at this
   lia
  have lz:=Paired.length z2
  refine⟨_,rfl,.inl ⟨rfl,_,Qi hL3⟩,_,rfl,?_⟩
  refine⟨_,rfl,lp,rfl,⟨_,s3.seq z1⟩,fun Dx hDx=>?_⟩
  refine Ww (K:=K) (xs:=stn rs i) (v1:=fun q=>.int ((q.1:Nat):Int)) (v2:=fun q=>.int q.2) (PrI K Dx) (fun q=>(rw0.getD q.1 0,q.2)) (fun _=>true) rfl (Vg (s3.seq z1) (Paired.mapP z2 fun _ _ ⟨t,e,z⟩=>⟨t,e,s3.tup z⟩)) Om hDx (fun _ s h=>h.same s) (fun h=>h.upd) (fun k _ H5 _ P h=>h H5 fun _ _ z=>z) (fun x hx _ H5 s5 hD5 P h=>?_) fun H5 ys s5 hD5 hp5=>?_
  .have hq:x.1<rw0.length:=by
    unfold stn at hx
    obtain⟨j,hj,rfl⟩:=zQ.mp hx
    have:=yQ.mp (wK.mp hj).1
    rw[hrw]
    exact this
   refine⟨_,rfl,_,rfl,m,_,_,_,rfl,rfl,(s3.trans s5).seq hm,atK6 hq,?_⟩
   refine⟨_,rfl,by show 2<=sizeLine;decide,fun t ht=>?_⟩
   exact h _ _ (Qc ht _) ⟨t,fun y=>hD5 (by rw[<-y];exact ht),rfl,Qr Qb⟩
  rw[yQc.mpr (fun _ _=>rfl)]at hp5
  have lys:=Paired.length hp5
  rw[jX]at lys
  refine⟨Dx,ys,_,rfl,Qi hD5,Paired.mapP hp5 fun _ _ ⟨t,_,e,z⟩=>⟨t,e,z⟩,Om,fun S ws ps hS gS lS pm so=>?_⟩
  have s6:=s5.trans (Qc hS (.lst ws))
  have gS:=Paired.mapP gS fun _ _ ⟨t,e,z⟩=>(⟨t,e,(Qc hS (.lst ws)).tup z⟩:PrAt K (upd H5 S (.lst ws)) _ _)
  have hS6:upd H5 S (.lst ws) S=some (.lst ws):=Qb
  generalize upd H5 S (.lst ws)=H6 at s6 gS hS6⊢
  refine⟨S,ws,rfl,.inl ⟨Qi hS6,fun Tt hTt=>?_⟩⟩
  have s7:=s6.trans (Qc hTt (.tup ws))
  have gS:=Paired.mapP gS fun _ _ ⟨t,e,z⟩=>(⟨t,e,(Qc hTt (.tup ws)).tup z⟩:PrAt K (upd H6 Tt (.tup ws)) _ _)
  have hT7:upd H6 Tt (.tup ws) Tt=some (.tup ws):=Qb
  generalize upd H6 Tt (.tup ws)=H7 at s7 gS hT7⊢
  refine⟨by show 2<=sizeLine;decide,fun kk hkk=>?_⟩
  have sK:=Qc hkk (.tup [V.int cr,V.ref Tt])
  have s8:=s7.trans sK
  have hK8:upd H7 kk (.tup [V.int cr,V.ref Tt]) kk=some (.tup [V.int cr,V.ref Tt]):=Qb
  have hT8:=sK _ _ hT7
  have gS:=Paired.mapP gS fun _ _ ⟨t,e,z⟩=>(⟨t,e,sK.tup z⟩:PrAt K (upd H7 kk (.tup [V.int cr,V.ref Tt])) _ _)
  generalize upd H7 kk (.tup [V.int cr,V.ref Tt])=H8 at s8 gS hK8 hT8⊢
  have hL8:=s8 _ _ hL3
  have lk8:=Qnp (Qr hK8) (Qr hT8) gS
  have lg:=Paired.length g1
  have lg2:=Paired.length g2
  rw[wZ]at lg2
  refine⟨L,ws2,_,rfl,rfl,hL8,Om,⟨_,_,_,ks++[Qdv cr ps],rfl,Qb,?_,?_,fun b o e=>?_⟩⟩
  .exact Qca (Paired.mapP (g1.same (sT.trans s8)) fun _ _ ⟨a,e,z⟩=>⟨a,e,LkT.upd hL8 z⟩) (LkT.upd hL8 lk8)
  .rw[Qbn er]
   exact Xz g2 ⟨ps,by rw[hcr],pm,so⟩
  .rw[Qk (Ql e hL)]
   exact s8 _ _ (s3 _ _ e)
 .rintro σ H2 ⟨x,y,ws2,ks,rfl,hL2,g1,g2,s2⟩
  rw[jX,show min col.length ws.length=col.length by lia,jKc (by rw[kQ];exact jW _)]at g2
  exact⟨_,rfl,q L ws2 ks H2 s2 hL2 g1 g2⟩
abbrev Qsf:Stmt:=inClass (top 8) 2
def Qga(P:Program)(w:World)(K:Fg)(C:Addr):Sp:=fun vs H Q _=>∃(p l m:Addr) (rs:List Row) (cs col rw:List Int),vs=[.ref p,.ref l,.ref m]/\CoAt K C H p rs cs/\SqT K H l (col.map V.int)/\SqL K H m (rw.map V.int)/\rw.length=rs.length/\col.length=cs.length/\rs.length<=1000/\col.length<=100 /\
 ∀(d:Addr) (ws:List V) (ks:List D) (H':Hp),Same H H'->H' d=some (.lst ws)->LksAre K H' ws ks->Paired (fun j k=>LkOf rw (col.getD j 0) (stn rs j) k) (List.range col.length) ks->Q (.ref d) H'
theorem scChLkT:FnScope ["self","colours","rows","looks","colour","places"] ["self","colours","rows"] (Qh Qsf):=⟨rfl,rfl,rfl,Dk,rfl,Dk,Dk⟩
theorem Quk{f C:Addr}{fd:FuncData}(F:Fun K "choice_looks" "Colours.choice_looks" Qsf f fd)(M:Mg mg)(T:CoTxt K mg C):FnOk P w K mg base CX0 1 f fd ["self","colours","rows"] (Qga P w K C):=by
 refine F.ok scChLkT (fun vs H Q E h=>?_) (fun cdv A outer s H vs Q E hr h=>?_)
 .obtain⟨p,l,m,rs,cs,col,rw0,rfl,_⟩:=h
  rfl
 obtain⟨p,l,m,rs,cs,col,rw0,rfl,S,hl,hm,hrw,hcs,h1,h2,q⟩:=h
 refine⟨_,(Qg (Qo (i:=3) scChLkT.nd rfl (Or.inl rfl) (Yj Qf))
  (Qg (Yb PassesOwn.never rfl (Qcw false true rfl M.zip_ (Qa (pv 1) (Qa (Zv (pv 0) rfl) Qf))) (Yf (K:=K) (i:=4) (j:=5) rfl rfl scChLkT.nd rfl rfl rfl rfl) (Qm (Zb (Vm PySem.F.plainAttrs_list PySem.F.slot_list_append PySem.F.type_list_append Xo (pv 3) (Qa (Yd (Qa (pv 4) (Qa (Qt Xd rfl M.tuple_ Yt (Qa (Qn (Zt (K:=K) rfl (xX (xZ Dc _) hr.un)) rfl M.sorted Xq (Qa (Zy ["number","here","rows"] [none,none,some 2] rfl (Xj (pv 5)) (fun _ _ _=>(Yf (K:=K) (i:=0) (j:=1) rfl rfl (show(["number","here","rows"]:List Str).Nodup by decide +kernel) rfl rfl rfl rfl)) (fun _ _ _=>Ye) (fun _ _ _=>(Yd (Qa (Qu (Kh (K:=K) rfl) (pv 2) (pv 0) (fun _ _=>rfl)) (Qa (pv 1) Qf))))) Qf)) Qf)) Qf))) Qf)))))
  (Qm (Qs (pv 3))))),?_⟩
 have hz:(1000:Nat)<sizeLine:=Dc
 obtain⟨lk,prb,le,pa,st,us,ws,o1,o2,o3,o4,o5,o6,o7,o8,o9,o10,o11,o12,o13⟩:=id S
 have lu:=Paired.length o13
 rw[kQ]at lu
 refine⟨by show 0<=sizeLine;decide,fun L hL=>?_⟩
 have s0:=Qc hL (.lst [])
 have hL0:upd H L (.lst []) L=some (.lst []):=Qb
 generalize upd H L (.lst [])=H0 at s0 hL0⊢
 have T0:=o1.same fun o e=>s0 _ _ e
 refine⟨_,rfl,_,rfl,T0.fld T (by unfold coN;simp) o11 ?_⟩
 let Pv14:Nat->St->Hp->Prop:=fun i σ H2=>∃(x y:Option V) (ws:List V) (ks:List D),σ=[some (.ref p),some (.ref l),some (.ref m),some (.ref L),x,y]/\H2 L=some (.lst ws)/\LksAre K H2 ws ks/\Paired (fun j k=>LkOf rw0 (col.getD j 0) (stn rs j) k) ((List.range col.length).take i) ks/\Same H H2
 refine⟨l,st,rfl,⟨_,s0.tup hl⟩,⟨_,s0.seq o12⟩,Qbh (K:=K) (m1:=false) (m2:=true) (a:=l) (b:=st) (xs:=col.map V.int) (ys:=ws) Pv14 ⟨none,none,[],[],rfl,hL0,.nil,(by rw[yJf];exact .nil),s0⟩ (fun i σ H2 _ h=>?_) ?_ ?_⟩
 .obtain⟨x,y,ws,ks,rfl,hL2,g1,g2,s2⟩:=h
  exact⟨s2.tup hl,s2.seq o12⟩
 .rintro i x y σ H2 T2 e1 e2 ⟨x0,y0,ws2,ks,rfl,hL2,g1,g2,s2⟩ hT2
  obtain⟨r,er,lp,ts,rfl,z1,z2⟩:=Paired.getR o13 e2
  have hi:i<ws.length:=(jK.mp e2).1
  have hic:i<col.length:=Om
  rw[xY Om]at er
  cases er
  have ex:x=V.int (col.getD i 0):=by
   rw[jV,gE hic]at e1
   cases e1
   rw[jY,gE hic];rfl
  subst ex
  have er:(List.range col.length)[i]?=some i:=xY hic
  generalize hcr:col.getD i 0=cr at *
  have sT:=Qc hT2 (.tup [V.int cr,V.ref lp])
  have s3:=s2.trans sT
  have hL3:=sT _ _ hL2
  have hT3:upd H2 T2 (.tup [V.int cr,V.ref lp]) T2=some (.tup [V.int cr,V.ref lp]):=Qb
  generalize upd H2 T2 (.tup [V.int cr,V.ref lp])=H3 at sT s3 hL3 hT3⊢
  refine⟨T2,_,rfl,Qr hT3,rfl,_,_,rfl,_,_,rfl,rfl,?_⟩
  have lp1:(stn rs i).length<=1000:=by
   unfold stn
   rw[jX]
   have:=jJd (fun k=>!decide ((rs.getD k ([],0)).1.getD i 0=0)) (List.range rs.length)
   rw[kQ]at this
   lia
  have lz:=Paired.length z2
  refine⟨_,rfl,.inl ⟨rfl,_,Qi hL3⟩,_,rfl,?_⟩
  refine⟨_,rfl,lp,rfl,⟨_,s3.seq z1⟩,fun Dx hDx=>?_⟩
  refine Ww (K:=K) (xs:=stn rs i) (v1:=fun q=>.int ((q.1:Nat):Int)) (v2:=fun q=>.int q.2) (PrI K Dx) (fun q=>(rw0.getD q.1 0,q.2)) (fun _=>true) rfl (Vg (s3.seq z1) (Paired.mapP z2 fun _ _ ⟨t,e,z⟩=>⟨t,e,s3.tup z⟩)) Om hDx (fun _ s h=>h.same s) (fun h=>h.upd) (fun k _ H5 _ P h=>h H5 fun _ _ z=>z) (fun x hx _ H5 s5 hD5 P h=>?_) fun H5 ys s5 hD5 hp5=>?_
  .have hq:x.1<rw0.length:=by
    unfold stn at hx
    obtain⟨j,hj,rfl⟩:=zQ.mp hx
    have:=yQ.mp (wK.mp hj).1
    rw[hrw]
    exact this
   refine⟨_,rfl,_,rfl,m,_,_,_,rfl,rfl,(s3.trans s5).seq hm,atK6 hq,?_⟩
   refine⟨_,rfl,by show 2<=sizeLine;decide,fun t ht=>?_⟩
   exact h _ _ (Qc ht _) ⟨t,fun y=>hD5 (by rw[<-y];exact ht),rfl,Qr Qb⟩
  rw[yQc.mpr (fun _ _=>rfl)]at hp5
  have lys:=Paired.length hp5
  rw[jX]at lys
  refine⟨Dx,ys,_,rfl,Qi hD5,Paired.mapP hp5 fun _ _ ⟨t,_,e,z⟩=>⟨t,e,z⟩,Om,fun S ws ps hS gS lS pm so=>?_⟩
  have s6:=s5.trans (Qc hS (.lst ws))
  have gS:=Paired.mapP gS fun _ _ ⟨t,e,z⟩=>(⟨t,e,(Qc hS (.lst ws)).tup z⟩:PrAt K (upd H5 S (.lst ws)) _ _)
  have hS6:upd H5 S (.lst ws) S=some (.lst ws):=Qb
  generalize upd H5 S (.lst ws)=H6 at s6 gS hS6⊢
  refine⟨S,ws,rfl,.inl ⟨Qi hS6,fun Tt hTt=>?_⟩⟩
  have s7:=s6.trans (Qc hTt (.tup ws))
  have gS:=Paired.mapP gS fun _ _ ⟨t,e,z⟩=>(⟨t,e,(Qc hTt (.tup ws)).tup z⟩:PrAt K (upd H6 Tt (.tup ws)) _ _)
  have hT7:upd H6 Tt (.tup ws) Tt=some (.tup ws):=Qb
  generalize upd H6 Tt (.tup ws)=H7 at s7 gS hT7⊢
  refine⟨by show 2<=sizeLine;decide,fun kk hkk=>?_⟩
  have sK:=Qc hkk (.tup [V.int cr,V.ref Tt])
  have s8:=s7.trans sK
  have hK8:upd H7 kk (.tup [V.int cr,V.ref Tt]) kk=some (.tup [V.int cr,V.ref Tt]):=Qb
  have hT8:=sK _ _ hT7
  have gS:=Paired.mapP gS fun _ _ ⟨t,e,z⟩=>(⟨t,e,sK.tup z⟩:PrAt K (upd H7 kk (.tup [V.int cr,V.ref Tt])) _ _)
  generalize upd H7 kk (.tup [V.int cr,V.ref Tt])=H8 at s8 gS hK8 hT8⊢
  have hL8:=s8 _ _ hL3
  have lk8:=Qnp (Qr hK8) (Qr hT8) gS
  have lg:=Paired.length g1
  have lg2:=Paired.length g2
  rw[wZ]at lg2
  refine⟨L,ws2,_,rfl,rfl,hL8,Om,⟨_,_,_,ks++[Qdv cr ps],rfl,Qb,?_,?_,fun b o e=>?_⟩⟩
  .exact Qca (Paired.mapP (g1.same (sT.trans s8)) fun _ _ ⟨a,e,z⟩=>⟨a,e,LkT.upd hL8 z⟩) (LkT.upd hL8 lk8)
  .rw[Qbn er]
   exact Xz g2 ⟨ps,by rw[hcr],pm,so⟩
  .rw[Qk (Ql e hL)]
   exact s8 _ _ (s3 _ _ e)
 .rintro σ H2 ⟨x,y,ws2,ks,rfl,hL2,g1,g2,s2⟩
  rw[jX,show min col.length ws.length=col.length by lia,jKc (by rw[kQ];exact jW _)]at g2
  exact⟨_,rfl,q L ws2 ks H2 s2 hL2 g1 g2⟩
end
theorem Qul{P:Program}{w:World}{K:Fg}{mg:Str->Option Value}{base:Heap}{CX:CXT}{k:Nat}{f:Addr}{fd:FuncData}{ps:List Str}{sp sp':Sp}(F:FnOk P w K mg base CX k f fd ps sp)(G:FnOk P w K mg base CX k f fd ps sp') :
  FnOk P w K mg base CX k f fd ps fun vs H Q E=>sp vs H Q E\/sp' vs H Q E :=
 ⟨fun vs H Q E h=>h.elim (F.len vs H Q E) (G.len vs H Q E),fun A outer s H args us vs Q E hr he hb hv h=>h.elim (F.run A outer s H args us vs Q E hr he hb hv) (G.run A outer s H args us vs Q E hr he hb hv)⟩
def Zu(H:Hp):Hp:=fun b=>match H b with | some (.ins _ _ _)=>none | x=>x
theorem Jq{H:Hp}{b:Addr}{o:HO}(h:H b=some o)(n:∀C dx fs,o≠.ins C dx fs):Zu H b=some o:=by
 unfold Zu
 rw[h]
 cases o with
 |ins C dx fs=>exact absurd rfl (n C dx fs)
 |_=>rfl
theorem Qei{H:Hp}{b C dx:Addr}{fs:List (Str×V)}(h:H b=some (.ins C dx fs)):Zu H b=none:=by
 unfold Zu
 rw[h]
theorem Za(H:Hp):Same (Zu H) H:=fun b o e=>by
 unfold Zu at e
 cases q:H b with
 |none=>rw[q]at e;cases e
 |some u=>
  rw[q]at e
  cases u with
  |ins C dx fs=>cases e
  |_=>exact e
theorem Zp{K:Fg}{H:Hp}{t:Addr}{xs:List V}(h:SqT K H t xs):SqT K (Zu H) t xs:=by
 rcases h with(h | ⟨o,h⟩) | h
 .exact .inl (.inl (Jq h fun _ _ _ z=>nomatch z))
 .exact .inl (.inr ⟨o,Jq h fun _ _ _ z=>nomatch z⟩)
 .exact .inr h
theorem Wx{K:Fg}{H:Hp}{t:Addr}{xs:List V}(h:SqL K H t xs):SqL K (Zu H) t xs:=by
 rcases h with(h | ⟨o,h⟩) | h
 .exact .inl (.inl (Jq h fun _ _ _ z=>nomatch z))
 .exact .inl (.inr ⟨o,Jq h fun _ _ _ z=>nomatch z⟩)
 .exact .inr h
theorem Qnr{K:Fg}{H:Hp}{t:Addr}{r:Row}(h:RowAt K H t r):RowAt K (Zu H) t r:=by obtain⟨p,h1,h2⟩:=h;exact⟨p,Zp h1,Zp h2⟩
theorem Qax{K:Fg}{H:Hp}{t:Addr}{rs:List Row}{cs:List Int}(h:ProbAt K H t rs cs):ProbAt K (Zu H) t rs cs:=by
 obtain⟨l,c,vs,h1,h2,h3,h4⟩:=h;exact⟨l,c,vs,Zp h1,Wx h2,Paired.mapP h3 fun _ _ ⟨a,e,z⟩=>⟨a,e,Qnr z⟩,Zp h4⟩
theorem Zg{H H':Hp}{p C dx C' dx':Addr}{fs fs':List (Str×V)}(hp:H p=some (.ins C dx fs))(s:Same (Zu H) H'):Same (Zu H) (upd H' p (.ins C' dx' fs')):=fun b o e=>by
 rw[Qk (fun z=>by rw[z,Qei hp]at e;cases e)]
 exact s b o e
theorem Qji{K:Fg}{H:Hp}{p C dx C' dx' t:Addr}{fs fs':List (Str×V)}{xs:List V}(hp:H p=some (.ins C dx fs))(h:SqT K H t xs):SqT K (upd H p (.ins C' dx' fs')) t xs :=
 (Zg hp (Za H)).tup (Zp h)
theorem Qjj{K:Fg}{H:Hp}{p C dx C' dx' t:Addr}{fs fs':List (Str×V)}{xs:List V}(hp:H p=some (.ins C dx fs))(h:SqL K H t xs):SqL K (upd H p (.ins C' dx' fs')) t xs :=
 (Zg hp (Za H)).seq (Wx h)
end Nb
namespace L2
open PySem PySem.Spec PyProof.Rows
theorem Qqu{α β:Type}{J:It}{H:Hp}{xs:List α}{val:α->V}{D:Addr}{cs τ0:St}{te:TE}{Q:Addr->Hp->Prop}(R:Hp->V->β->Prop)(f:α->β)(hτ:τ0=none::cs)(hw:Walk J H xs val)(fw:xs.length<sizeLine)(hD:H D=none)
  (Rs:∀{H1 H2 v x},Same H H1->Same H1 H2->R H1 v x->R H2 v x) (Ru:∀{H1 v x ys zs},H1 D=some (.lst ys)->R H1 v x->R (upd H1 D (.lst zs)) v x)
  (hs:∀x∈xs,∀H1 ys,Same H H1->H1 D=some (.lst ys)->∀P:V->Hp->Prop,(∀v H2,Same H1 H2->R H2 v (f x)->P v H2)->te (some (val x)::cs) H1 P)
  (hd:∀H1 ys,Same H H1->H1 D=some (.lst ys)->Paired (R H1) ys (xs.map f)->Q D H1) :
  LcW J D τ0 H (Qag 0) tYes te Q:=by
 subst hτ
 let Pv15:Nat->St->List V->Hp->Prop:=fun i τ ys H1=>∃v:Option V,τ=v::cs/\H1 D=some (.lst ys)/\Same H H1/\i<=xs.length/\Paired (R H1) ys ((xs.take i).map f)
 refine Zx (n:=xs.length) Pv15 ?_ (fun i τ ys H1 hi h=>?_) (fun i τ ys H1 hi h=>?_) (fun τ ys H1 h=>?_) ?_ ?_
 .exact⟨none,rfl,Qb,Qc hD _,wY _,.nil⟩
 .obtain⟨v,rfl,hD1,s1,_,hp⟩:=h
  refine⟨hD1,?_⟩
  have:=Paired.length hp
  rw[jX,wZ]at this
  lia
 .obtain⟨v,rfl,hD1,s1,_,hp⟩:=h
  exact hw.go i H1 s1 hi
 .obtain⟨v,rfl,hD1,s1,_,hp⟩:=h
  exact hw.stop H1 s1
 .rintro i τ ys H1 x H2 hi ⟨v,rfl,hD1,s1,_,hp⟩ hy
  obtain⟨rfl,y,ey,rfl⟩:=hw.yl i H1 x H2 s1 hy hi
  refine hs y (kY ey) _ ys s1 hD1 _ fun v' H3 s3 r=>⟨s3 _ _ hD1,_,rfl,Qb,Wu (s1.trans s3) hD,hi,?_⟩
  have hD3:=s3 _ _ hD1
  rw[Qnl ey,zK]
  have h1:Paired (R (upd H3 D (.lst (ys++[v'])))) ys ((xs.take i).map f):=by
   have this:∀v b,R _ v b->R (upd H3 D (.lst (ys++[v']))) v b:=fun v b h=>Ru hD3 (Rs s1 s3 h)
   exact Paired.mapP hp this
  exact Paired.snoc h1 (Ru hD3 r)
 .rintro τ ys H1 ⟨v,rfl,hD1,s1,_,hp⟩
  rw[wW]at hp
  exact hd H1 ys s1 hD1 hp
end L2
namespace Nb
open PySem L2
abbrev Qej:Stmt:=inClass (top 8) 5
def Qns(P:Program)(w:World)(K:Fg)(C:Addr):Sp:=fun vs H Q _=>∃(p:Addr) (rs:List Row) (cs:List Int),vs=[.ref p]/\CoAt K C H p rs cs/\Q (.bl false) H
section
variable{P:Program}{w:World}{K:Fg}{mg:Str->Option Value}{base:Heap}
theorem Qum:FnScope ["self"] ["self"] (Qh Qej):=⟨rfl,rfl,rfl,Dk,rfl,Dk,Dk⟩
theorem Qun{f C:Addr}{fd:FuncData}(F:Fun K "is_tired" "Colours.is_tired" Qej f fd)(M:Mg mg)(T:CoTxt K mg C):FnOk P w K mg base CX0 1 f fd ["self"] (Qns P w K C):=by
 refine F.ok Qum (fun vs H Q E h=>?_) (fun cdv A outer s H vs Q E hr h=>?_)
 .obtain⟨p,rs,cs,rfl,_⟩:=h
  rfl
 obtain⟨p,rs,cs,rfl,S,q⟩:=h
 refine⟨_,(Qm (Qs (Qch (Zz Qev (Zv (pv 0) rfl) Ys (Xf _)) (Qcg (Zz op_lt (Zv (pv 0) rfl) Qj (Xf _)))))),?_⟩
 obtain⟨lk,prb,le,pa,st,us,ws,o1,o2,o3,o4,o5,o6,o7,o8,o9,o10,o11,o12,o13⟩:=id S
 refine⟨_,rfl,o1.fld T (by unfold coN;simp) o5 ⟨rfl,_,rfl,?_⟩⟩
 rw[show(!decide (V.non=V.non))=false by simp]
 exact iteF q
def stN(rs:List Row)(i j:Nat):List (Nat×Int):=((List.range i).filter fun k=>!decide ((rs.getD k ([],0)).1.getD j 0=0)).map fun k=>(k,(rs.getD k ([],0)).1.getD j 0)
def stI(rs:List Row)(i m j:Nat):List (Nat×Int):=stN rs i j++(((prt (rs.getD i ([],0))).take m).filter fun q=>decide (q.1=j)).map fun q=>(i,q.2)
theorem Qqv(rs:List Row)(i j:Nat):stN rs (i+1) j=stN rs i j++if (rs.getD i ([],0)).1.getD j 0=0 then[]else[(i,(rs.getD i ([],0)).1.getD j 0)]:=by
 unfold stN
 rw[kZb,yKa,zK]
 by_cases h:(rs.getD i ([],0)).1.getD j 0=0
 .rw[if_pos h,jYa (by rw[xW h];decide)];rfl
 .rw[if_neg h,jZd (by rw[wQ h];decide)];rfl
theorem Quo(r:Row){j:Nat}(hj:j<r.1.length):(prt r).filter (fun q=>decide (q.1=j))=if r.1.getD j 0=0 then[]else[(j,r.1.getD j 0)]:=by
 unfold prt
 rw[zQf,List.filter_filter]
 have key:∀n:Nat,(List.range n).filter (fun k=>((fun q:Nat×Int=>decide (q.1=j))∘fun j=>(j,r.1.getD j 0)) k&&!decide (r.1.getD k 0=0))=if j<n/\r.1.getD j 0≠0 then[j]else[]:=fun n=>by
  induction n with
  |zero=>rw[if_neg Om];rfl
  |succ n ih=>
   rw[kZb,yKa,ih]
   by_cases e:n=j
   .subst e
    rw[if_neg Om]
    by_cases h:r.1.getD n 0=0
    .rw[if_neg (fun z=>z.2 h),jYa (by show ¬(decide (n=n)&&!decide (r.1.getD n 0=0))=true;rw[xW h];simp)];rfl
    .rw[if_pos ⟨Om,h⟩,jZd (by show(decide (n=n)&&!decide (r.1.getD n 0=0))=true;rw[wQ h];simp)];rfl
   .rw[jYa (by show ¬(decide (n=j)&&!decide (r.1.getD n 0=0))=true;rw[wQ e];exact fun z=>nomatch z),List.filter_nil,jZa]
    by_cases h:j<n/\r.1.getD j 0≠0
    .rw[if_pos h,if_pos ⟨Om,h.2⟩]
    .rw[if_neg h,if_neg (fun z=>h ⟨Om,z.2⟩)]
 rw[key]
 by_cases h:r.1.getD j 0=0
 .rw[if_pos h,if_neg (fun z=>z.2 h)];rfl
 .rw[if_neg h,if_pos ⟨hj,h⟩];rfl
theorem Qqw(rs:List Row)(i j:Nat):stI rs i 0 j=stN rs i j:=by
 unfold stI
 rw[yJf]
 exact jZa _
theorem Qup(rs:List Row)(i:Nat){j:Nat}(hj:j<(rs.getD i ([],0)).1.length):stI rs i (prt (rs.getD i ([],0))).length j=stN rs (i+1) j:=by
 unfold stI
 rw[wW,Quo _ hj,Qqv]
 by_cases h:(rs.getD i ([],0)).1.getD j 0=0
 .rw[if_pos h,if_pos h];rfl
 .rw[if_neg h,if_neg h];rfl
theorem Qhx(rs:List Row)(i m j:Nat){q:Nat×Int}(e:(prt (rs.getD i ([],0)))[m]?=some q):stI rs i (m+1) j=if q.1=j then stI rs i m j++[(i,q.2)]else stI rs i m j:=by
 unfold stI
 rw[Qbn e,yKa,zK,<-kZ]
 by_cases h:q.1=j
 .rw[if_pos h,jZd (p:=fun q:Nat×Int=>decide (q.1=j)) (xW h)];rfl
 .rw[if_neg h,jYa (p:=fun q:Nat×Int=>decide (q.1=j)) (by rw[wQ h];decide)];exact jZa _
def StA(K:Fg)(H:Hp)(as:List Addr)(f:Nat->List (Nat×Int)):Prop:=∀j a,as[j]?=some a->∃us,H a=some (.lst us)/\PtA K H us (f j)
theorem StA.same{K:Fg}{H H':Hp}{as:List Addr}{f:Nat->List (Nat×Int)}(h:StA K H as f)(s:Same H H'):StA K H' as f:=fun j a e=>by
 obtain⟨us,h1,h2⟩:=h j a e
 exact⟨us,s _ _ h1,Paired.mapP h2 fun _ _ ⟨t,e,z⟩=>⟨t,e,s.tup z⟩⟩
theorem StA.put{K:Fg}{H:Hp}{as:List Addr}{f g:Nat->List (Nat×Int)}(h:StA K H as f)(nd:as.Nodup){j:Nat}{a t:Addr}{us:List V}{q:Nat×Int}(ej:as[j]?=some a)(ha:H a=some (.lst us))(hp:PtA K H us (f j))(ht:SqT K H t [.int ((q.1:Nat):Int),.int q.2])(eg:g j=f j++[q])(ng:∀i,i≠j->g i=f i) :
  StA K (upd H a (.lst (us++[.ref t]))) as g:=fun i b e=>by
 by_cases h1:i=j
 .subst h1
  rw[ej]at e;cases e
  refine⟨_,Qb,?_⟩
  rw[eg]
  exact Xz (Paired.mapP hp fun _ _ ⟨t,e,z⟩=>⟨t,e,Jy ha z⟩) ⟨t,rfl,Jy ha ht⟩
 .obtain⟨us',h2,h3⟩:=h i b e
  refine⟨us',?_,?_⟩
  .rw[Qk ?_];exact h2
   rintro rfl
   exact h1 ((List.getElem?_inj (jK.mp e).1 nd).mp (e.trans ej.symm))
  .rw[ng i h1];exact Paired.mapP h3 fun _ _ ⟨t,e,z⟩=>⟨t,e,Jy ha z⟩
abbrev Wy:Stmt:=inClass (top 8) 0
def Qhy(P:Program)(w:World)(K:Fg)(C:Addr):Sp:=fun vs H Q _=>∃(p dx t:Addr) (rs:List Row) (cs:List Int),vs=[.ref p,.ref t,.non]/\H p=some (.ins C dx [])/\H dx=some (.own p)/\ProbAt K H t rs cs/\(∀r∈rs,r.1.length=cs.length)/\rs.length<=1000/\cs.length<=100 /\
 ∀H',(∀b o,b≠p->b≠dx->H b=some o->H' b=some o)->CoAt K C H' p rs cs->Q .non H'
theorem scCoInit:FnScope ["self","problem","patience","number","parts","choice","here"] ["self","problem","patience"] (Qh Wy):=⟨rfl,rfl,rfl,Dk,rfl,Dk,Dk⟩
theorem Qqx{f C:Addr}{fd:FuncData}(F:Fun K "__init__" "Colours.__init__" Wy f fd)(M:Mg mg)(T:CoTxt K mg C)(c_parts_of:Cal P w K mg base 1 "parts_of" ["row"] (spPts K)):FnOk P w K mg base CX0 2 f fd ["self","problem","patience"] (Qhy P w K C):=by
 refine F.ok scCoInit (fun vs H Q E h=>?_) (fun cdv A outer s H vs Q E hr h=>?_)
 .obtain⟨p,dx,t,rs,cs,rfl,_⟩:=h
  rfl
 obtain⟨p,dx,t,rs,cs,rfl,hp,hdx,pr,hrl,h1,h2,q⟩:=h
 refine⟨_,(Qg (Qcl (pv 0) (pv 1) rfl)
  (Qg (Qcl (pv 0) (pv 2) rfl)
  (Qg (Qcl (pv 0) (Zy ["row"] [none] rfl (Xj (Qu Qy (pv 1) Qj (fun _ _=>rfl))) (fun _ _ _=>(Qz (i:=0) (show(["row"]:List Str).Nodup by decide +kernel) rfl (Or.inl rfl) (Or.inr rfl))) (fun _ _ _=>Ye) (fun _ _ _=>(Qu (Zr (K:=K) rfl) (pv 0) Qj (fun _ _=>rfl)))) rfl)
  (Qg (Qcl (pv 0) (Zy ["row"] [none] rfl (Xj (Qu Qy (pv 1) Qj (fun _ _=>rfl))) (fun _ _ _=>(Qz (i:=0) (show(["row"]:List Str).Nodup by decide +kernel) rfl (Or.inl rfl) (Or.inr rfl))) (fun _ _ _=>Ye) (fun _ _ _=>(Xp c_parts_of (hr.mono Dc) (Qa (pv 0) Qf)))) rfl)
  (Qg (Qcl (pv 0) (Zy ["cost"] [none] rfl (pi_tup (Qu Qy (pv 1) Qj (fun _ _=>rfl))) (fun _ _ _=>(Qz (i:=0) (show(["cost"]:List Str).Nodup by decide +kernel) rfl (Or.inl rfl) (Or.inr rfl))) (fun _ _ _=>Ye) (fun _ _ _=>(Yj Qf))) rfl)
  (Qm (Yb PassesOwn.never rfl (Wd true rfl M.enumerate_ (Qa (Zv (pv 0) rfl) Qf)) (Yf (K:=K) (i:=3) (j:=4) rfl rfl scCoInit.nd rfl rfl rfl rfl) (Qm (Yb PassesOwn.never rfl (Xj (pv 4)) (Yf (K:=K) (i:=5) (j:=6) rfl rfl scCoInit.nd rfl rfl rfl rfl) (Qm (Zb (Vm PySem.F.plainAttrs_list PySem.F.slot_list_append PySem.F.type_list_append Xo (Qu Xn (Zv (pv 0) rfl) (pv 5) (fun _ _=>rfl)) (Qa (Yd (Qa (pv 3) (Qa (pv 6) Qf))) Qf))))))))))))),?_⟩
 have hz:(1000:Nat)<sizeLine:=Dc
 obtain⟨l,c,vs,ht,hl,hrw,hc⟩:=id (Qax pr)
 have lv:=hrw.length
 have z0:Same (Zu H) H:=Za H
 have z1:=Zg (C':=C) (dx':=dx) (fs':=[("problem",V.ref t)]) hp z0
 have p1:upd H p (.ins C dx [("problem",V.ref t)]) p=some (.ins C dx [("problem",V.ref t)]):=Qb
 have k1:∀b o,b≠p->H b=some o->upd H p (.ins C dx [("problem",V.ref t)]) b=some o:=fun b o n e=>by rw[Qk n];exact e
 refine⟨_,rfl,_,rfl,p,C,dx,[],rfl,hp,T.cl,T.na _ (by unfold coN;simp),Dc,?_⟩
 show tSeq _ _ _ _ (upd H p (.ins C dx [("problem",V.ref t)]))
 generalize upd H p (.ins C dx [("problem",V.ref t)])=H1 at z1 p1 k1⊢
 have z2:=Zg (C':=C) (dx':=dx) (fs':=[("problem",V.ref t),("patience",V.non)]) hp z1
 have p2:upd H1 p (.ins C dx [("problem",V.ref t),("patience",V.non)]) p=some (.ins C dx [("problem",V.ref t),("patience",V.non)]):=Qb
 have k2:∀b o,b≠p->H b=some o->upd H1 p (.ins C dx [("problem",V.ref t),("patience",V.non)]) b=some o:=fun b o n e=>by rw[Qk n];exact k1 b o n e
 refine⟨_,rfl,_,rfl,p,C,dx,_,rfl,p1,T.cl,T.na _ (by unfold coN;simp),(by show 1<1000;decide),?_⟩
 show tSeq _ _ _ _ (upd H1 p (.ins C dx [("problem",V.ref t),("patience",V.non)]))
 generalize upd H1 p (.ins C dx [("problem",V.ref t),("patience",V.non)])=H2 at z2 p2 k2⊢
 have row:∀{k:Nat},k<vs.length->∃a r,vs.getD k .non=.ref a/\rs.getD k ([],0)=r/\r∈rs/\RowAt K (Zu H) a r:=fun{k} hk=>by
  obtain⟨r,er,a,ea,z⟩:=Paired.getR hrw (gE hk)
  refine⟨a,r,by rw[jY,gE hk];exact ea,by rw[jY,er];rfl,kY er,z⟩
 refine⟨_,rfl,t,_,_,_,rfl,rfl,z2.tup ht,at0,l,rfl,⟨_,z2.seq hl⟩,fun D1 hD1=>?_⟩
 refine Qbx (fun z:Int=>V.int z) (fun k:Nat=>(rs.getD k ([],0)).2) rfl (Ji (xs:=List.range vs.length) (val:=fun k=>vs.getD k .non) (by rw[Xb];exact z2.seq hl)) (by rw[kQ];lia) hD1 (fun k hk H3 s3 P h=>?_) fun H3 s3 e3=>?_
 .obtain⟨a,r,e1,e2,_,p',h5,h6⟩:=row (yQ.mp hk)
  refine⟨_,rfl,a,_,_,_,e1,rfl,(z2.trans s3).tup h5,at1,?_⟩
  rw[<-e2]
  exact h H3 fun _ _ z=>z
 have p3:=s3 _ _ p2
 have n1:D1≠p:=fun z=>by rw[z,p2]at hD1;cases hD1
 refine⟨_,rfl,p,C,dx,_,rfl,p3,T.cl,T.na _ (by unfold coN;simp),(by show 2<1000;decide),?_⟩
 show tSeq _ _ _ _ (upd H3 p (.ins C dx [("problem",V.ref t),("patience",V.non),("leasts",V.ref D1)]))
 have z4:=Zg (C':=C) (dx':=dx) (fs':=[("problem",V.ref t),("patience",V.non),("leasts",V.ref D1)]) hp (z2.trans s3)
 have p4:upd H3 p (.ins C dx [("problem",V.ref t),("patience",V.non),("leasts",V.ref D1)]) p=some (.ins C dx [("problem",V.ref t),("patience",V.non),("leasts",V.ref D1)]):=Qb
 have k4:∀b o,b≠p->H b=some o->upd H3 p (.ins C dx [("problem",V.ref t),("patience",V.non),("leasts",V.ref D1)]) b=some o:=fun b o n e=>by rw[Qk n];exact s3 _ _ (k2 b o n e)
 have e4:upd H3 p (.ins C dx [("problem",V.ref t),("patience",V.non),("leasts",V.ref D1)]) D1=_:=(Qk n1).trans e3
 generalize upd H3 p (.ins C dx [("problem",V.ref t),("patience",V.non),("leasts",V.ref D1)])=H4 at z4 p4 k4 e4⊢
 refine⟨_,rfl,t,_,_,_,rfl,rfl,z4.tup ht,at0,l,rfl,⟨_,z4.seq hl⟩,fun D2 hD2=>?_⟩
 refine Qqu (fun H1 v (r:Row)=>∃lp ts,v=.ref lp/\lp≠D2/\H1 lp=some (.lst ts)/\PtA K H1 ts (prt r)) (fun k:Nat=>rs.getD k ([],0)) rfl (Ji (xs:=List.range vs.length) (val:=fun k=>vs.getD k .non) (by rw[Xb];exact z4.seq hl)) (by rw[kQ];lia) hD2
  (fun _ s ⟨lp,ts,e,n,h1,h2⟩=>⟨lp,ts,e,n,s _ _ h1,Paired.mapP h2 fun _ _ ⟨t,e,z⟩=>⟨t,e,s.tup z⟩⟩) (fun hg ⟨lp,ts,e,n,h1,h2⟩=>⟨lp,ts,e,n,by rw[Qk n];exact h1,Paired.mapP h2 fun _ _ ⟨t,e,z⟩=>⟨t,e,Jy hg z⟩⟩) (fun k hk H5 ys s5 hD5 P h=>?_) fun H5 ys s5 e5 h5=>?_
 .obtain⟨a,r,e1,e2,mr,ra⟩:=row (yQ.mp hk)
  refine⟨_,rfl,a,r,by rw[e1];rfl,ra.same (z4.trans s5),by have:=hrl r mr;lia,fun lp ts H6 s6 hn h6 h7=>?_⟩
  rw[<-e2]at h7
  exact h _ H6 s6 ⟨lp,ts,rfl,(fun z=>by rw[z,hD5]at hn;cases hn),h6,h7⟩
 have p5:=s5 _ _ p4
 have n2:D2≠p:=fun z=>by rw[z,p4]at hD2;cases hD2
 have n12:D1≠D2:=fun z=>by rw[<-z,e4]at hD2;cases hD2
 refine⟨_,rfl,p,C,dx,_,rfl,p5,T.cl,T.na _ (by unfold coN;simp),(by show 3<1000;decide),?_⟩
 show tSeq _ _ _ _ (upd H5 p (.ins C dx [("problem",V.ref t),("patience",V.non),("leasts",V.ref D1),("parts",V.ref D2)]))
 have z6:=Zg (C':=C) (dx':=dx) (fs':=[("problem",V.ref t),("patience",V.non),("leasts",V.ref D1),("parts",V.ref D2)]) hp (z4.trans s5)
 have p6:upd H5 p (.ins C dx [("problem",V.ref t),("patience",V.non),("leasts",V.ref D1),("parts",V.ref D2)]) p=some (.ins C dx [("problem",V.ref t),("patience",V.non),("leasts",V.ref D1),("parts",V.ref D2)]):=Qb
 have k6:∀b o,b≠p->H b=some o->upd H5 p (.ins C dx [("problem",V.ref t),("patience",V.non),("leasts",V.ref D1),("parts",V.ref D2)]) b=some o:=fun b o n e=>by rw[Qk n];exact s5 _ _ (k4 b o n e)
 have e6:upd H5 p (.ins C dx [("problem",V.ref t),("patience",V.non),("leasts",V.ref D1),("parts",V.ref D2)]) D1=_:=(Qk n1).trans (s5 _ _ e4)
 have f6:upd H5 p (.ins C dx [("problem",V.ref t),("patience",V.non),("leasts",V.ref D1),("parts",V.ref D2)]) D2=_:=(Qk n2).trans e5
 have g6:PtsA K (upd H5 p (.ins C dx [("problem",V.ref t),("patience",V.non),("leasts",V.ref D1),("parts",V.ref D2)])) prt ys rs:=by
  rw[show(List.range vs.length).map (fun k=>rs.getD k ([],0))=rs by rw[lv];exact Xb rs ([],0)]at h5
  refine Paired.mapP h5 fun v r ⟨lp,ts,e,n,y1,y2⟩=>⟨lp,ts,e,Qjj p5 (Qi y1),Paired.mapP y2 fun _ _ ⟨t,e,z⟩=>⟨t,e,Qji p5 z⟩⟩
 generalize upd H5 p (.ins C dx [("problem",V.ref t),("patience",V.non),("leasts",V.ref D1),("parts",V.ref D2)])=H6 at z6 p6 k6 e6 f6 g6⊢
 have n1:D1≠p:=fun z=>by rw[z,p6]at e6;cases e6
 refine⟨_,rfl,t,_,_,_,rfl,rfl,z6.tup ht,at1,c,rfl,⟨_,z6.tup hc⟩,fun D3 hD3=>?_⟩
 have n3:D3≠p:=fun z=>by rw[z,p6]at hD3;cases hD3
 let Pv16:Nat->St->List V->Hp->Prop:=fun i τ ys H7=>∃(v:Option V) (as:List Addr),τ=[v]/\ys=as.map V.ref/\as.length=i/\as.Nodup/\(∀a∈as,H6 a=none/\a≠D3/\H7 a=some (.lst []))/\H7 D3=some (.lst ys)/\Same H6 H7
 refine Zx (n:=cs.length) Pv16 ?_ (fun i τ ys H7 hi h=>?_) (fun i τ ys H7 hi h=>?_) (fun τ ys H7 h=>?_) ?_ ?_
 .exact⟨none,[],rfl,rfl,rfl,.nil,(fun _ z=>nomatch z),Qb,Qc hD3 _⟩
 .obtain⟨v,as,rfl,rfl,la,nd,ha,hD,s7⟩:=h
  exact⟨hD,by rw[jX];lia⟩
 .obtain⟨v,as,rfl,rfl,la,nd,ha,hD,s7⟩:=h
  exact⟨cs.map V.int,.int cs[i],(z6.trans s7).tup hc,by rw[jV,gE hi];rfl⟩
 .obtain⟨v,as,rfl,rfl,la,nd,ha,hD,s7⟩:=h
  exact⟨cs.map V.int,(z6.trans s7).tup hc,by rw[jX];lia⟩
 .rintro i τ ys H7 x H8 hi ⟨v,as,rfl,rfl,la,nd,ha,hD,s7⟩ ⟨rfl,e1⟩
  refine⟨by show 0<=sizeLine;decide,fun a0 ha0=>?_⟩
  have sa:=Qc ha0 (.lst [])
  have na:a0∉as:=fun z=>by rw[(ha a0 z).2.2]at ha0;cases ha0
  have n0:a0≠D3:=fun z=>by rw[z,hD]at ha0;cases ha0
  have h6:H6 a0=none:=by
   cases q6:H6 a0 with
   |none=>rfl
   |some o=>rw[s7 _ _ q6]at ha0;cases ha0
  refine⟨sa _ _ hD,_,as++[a0],rfl,by rw[zK];rfl,by rw[yV,la];rfl,yKb.mpr ⟨nd,jZe.mpr ⟨(fun z=>nomatch z),.nil⟩,fun x hx y hy=>by rw[kW.mp hy];rintro rfl;exact na hx⟩,fun a m=>?_,Qb,fun b o e=>?_⟩
  .rcases wX.mp m with m | m
   .obtain⟨y1,y2,y3⟩:=ha a m
    exact⟨y1,y2,by rw[Qk y2];exact sa _ _ y3⟩
   .rw[kW.mp m]
    exact⟨h6,n0,by rw[Qk n0];exact Qb⟩
  .rw[Qk (Ql e hD3)];exact sa _ _ (s7 _ _ e)
 rintro τ ws H7 ⟨v,as,rfl,rfl,la,nd,ha,e7,s7⟩
 have p7:=s7 _ _ p6
 have na:∀a∈as,a≠p/\a≠D3:=fun a m=>⟨fun z=>(by have:=(ha a m).1;rw[z,p6]at this;cases this),(ha a m).2.1⟩
 refine⟨_,rfl,p,C,dx,_,rfl,p7,T.cl,T.na _ (by unfold coN;simp),(by show 4<1000;decide),?_⟩
 show tSeq _ _ _ _ (upd H7 p (.ins C dx [("problem",V.ref t),("patience",V.non),("leasts",V.ref D1),("parts",V.ref D2),("stands",V.ref D3)]))
 have p8:upd H7 p (.ins C dx [("problem",V.ref t),("patience",V.non),("leasts",V.ref D1),("parts",V.ref D2),("stands",V.ref D3)]) p=some (.ins C dx [("problem",V.ref t),("patience",V.non),("leasts",V.ref D1),("parts",V.ref D2),("stands",V.ref D3)]):=Qb
 have e8:upd H7 p (.ins C dx [("problem",V.ref t),("patience",V.non),("leasts",V.ref D1),("parts",V.ref D2),("stands",V.ref D3)]) D3=_:=(Qk n3).trans e7
 have a8:StA K (upd H7 p (.ins C dx [("problem",V.ref t),("patience",V.non),("leasts",V.ref D1),("parts",V.ref D2),("stands",V.ref D3)])) as (stN rs 0):=fun j a e=>⟨[],by rw[Qk (na a (kY e)).1];exact(ha a (kY e)).2.2,.nil⟩
 have z8:Same (Zu H6) (upd H7 p (.ins C dx [("problem",V.ref t),("patience",V.non),("leasts",V.ref D1),("parts",V.ref D2),("stands",V.ref D3)])):=Zg p6 ((Za H6).trans s7)
 have k9:∀b o,b≠p->H b=some o->upd H7 p (.ins C dx [("problem",V.ref t),("patience",V.non),("leasts",V.ref D1),("parts",V.ref D2),("stands",V.ref D3)]) b=some o:=fun b o n e=>by rw[Qk n];exact s7 _ _ (k6 b o n e)
 have nb:∀b o,b≠p->H b=some o->b∉as/\b≠D3:=fun b o n e=>⟨fun m=>(by have:=(ha b m).1;rw[k6 b _ n e]at this;cases this),fun z=>by rw[<-z,k6 b _ n e]at hD3;cases hD3⟩
 have m6:=Jq e6 fun _ _ _ z=>nomatch z
 have m6':=Jq f6 fun _ _ _ z=>nomatch z
 have g6':PtsA K (Zu H6) prt ys rs:=Paired.mapP g6 fun v r ⟨lp,ts,e,y1,y2⟩=>⟨lp,ts,e,Wx y1,Paired.mapP y2 fun _ _ ⟨t,e,z⟩=>⟨t,e,Zp z⟩⟩
 have lu:=Paired.length g6
 generalize upd H7 p (.ins C dx [("problem",V.ref t),("patience",V.non),("leasts",V.ref D1),("parts",V.ref D2),("stands",V.ref D3)])=H8 at z8 p8 e8 a8 k9⊢
 have ob:∀{H':Hp},H' p=some (.ins C dx [("problem",V.ref t),("patience",V.non),("leasts",V.ref D1),("parts",V.ref D2),("stands",V.ref D3)])->ObF C H' p (fun x=>List.lookup x [("problem",V.ref t),("patience",V.non),("leasts",V.ref D1),("parts",V.ref D2),("stands",V.ref D3)]):=fun h=>⟨dx,_,h,(by show 5<100;decide),fun _=>rfl⟩
 let Pv17:Nat->St->Hp->Prop:=fun i σ H1=>∃x1 x2 x3 x4:Option V,σ=[some (.ref p),some (.ref t),some .non,x1,x2,x3,x4]/\H1 p=some (.ins C dx [("problem",V.ref t),("patience",V.non),("leasts",V.ref D1),("parts",V.ref D2),("stands",V.ref D3)])/\H1 D3=some (.lst (as.map V.ref))/\StA K H1 as (stN rs i)/\Same (Zu H6) H1/\∀b o,b≠p->H b=some o->H1 b=some o
 refine⟨_,rfl,(ob p8).fld T (by unfold coN;simp) rfl ⟨D2,rfl,⟨_,z8.seq (Qi m6')⟩,Qpf (K:=K) (m:=true) (a:=D2) (xs:=ys) Pv17 ⟨none,none,none,none,rfl,p8,e8,a8,z8,k9⟩ (fun i σ H1 _ h=>?_) ?_ ?_⟩⟩
 .obtain⟨x1,x2,x3,x4,rfl,p1,e1,a1,s1,k1⟩:=h
  exact s1.seq (Qi m6')
 .rintro i x σ H1 T1 ex ⟨x1,x2,x3,x4,rfl,p1,e1,a1,s1,k1⟩ hT1
  obtain⟨r,er,lp,ts,rfl,y1,y2⟩:=Paired.getR g6' ex
  have hi:i<rs.length:=(jK.mp er).1
  have er':rs.getD i ([],0)=r:=by rw[jY,er];rfl
  have lr:r.1.length=as.length:=(hrl r (kY er)).trans la.symm
  have sT:=Qc hT1 (.tup [V.int (i:Nat),V.ref lp])
  have hT2:upd H1 T1 (.tup [V.int (i:Nat),V.ref lp]) T1=some (.tup [V.int (i:Nat),V.ref lp]):=Qb
  generalize upd H1 T1 (.tup [V.int (i:Nat),V.ref lp])=H2 at sT hT2⊢
  refine⟨T1,_,rfl,Qr hT2,rfl,_,_,rfl,_,_,rfl,rfl,?_⟩
  have s2:=s1.trans sT
  let Pv18:Nat->St->Hp->Prop:=fun m σ H3=>∃x3 x4:Option V,σ=[some (.ref p),some (.ref t),some .non,some (.int (i:Nat)),some (.ref lp),x3,x4]/\H3 p=some (.ins C dx [("problem",V.ref t),("patience",V.non),("leasts",V.ref D1),("parts",V.ref D2),("stands",V.ref D3)])/\H3 D3=some (.lst (as.map V.ref))/\StA K H3 as (stI rs i m)/\Same (Zu H6) H3/\∀b o,b≠p->H b=some o->H3 b=some o
  refine⟨_,rfl,lp,rfl,⟨_,s2.seq y1⟩,Kd (K:=K) (a:=lp) (xs:=ts) Pv18 ⟨x3,x4,rfl,sT _ _ p1,sT _ _ e1,(by rw[show stI rs i 0=stN rs i from funext fun j=>Qqw rs i j];exact a1.same sT),s2,fun b o n e=>sT _ _ (k1 b o n e)⟩ (fun m σ H3 _ h=>?_) ?_ ?_⟩
  .obtain⟨x3,x4,rfl,p3,e3,a3,s3,k3⟩:=h
   exact s3.seq y1
  .rintro m x σ H3 em ⟨x3,x4,rfl,p3,e3,a3,s3,k3⟩
   obtain⟨q,eq,tq,rfl,yq⟩:=Paired.getR y2 em
   refine⟨tq,_,rfl,s3.tup yq,rfl,_,_,rfl,_,_,rfl,rfl,?_⟩
   have hq:q.1<as.length:=by
    have hx:=kY eq
    unfold prt at hx
    obtain⟨j,hj,rfl⟩:=zQ.mp hx
    have:=yQ.mp (wK.mp hj).1
    lia
   have ea:as[q.1]?=some as[q.1]:=gE hq
   generalize as[q.1]=a at ea
   have ma:=kY ea
   obtain⟨us,u1,u2⟩:=a3 q.1 a ea
   refine⟨_,rfl,(ob p3).fld T (by unfold coN;simp) rfl ⟨_,rfl,D3,_,_,V.ref a,rfl,rfl,Qi e3,Ky (by rw[jV,ea];rfl),.inl ⟨rfl,_,Qi u1⟩,_,rfl,_,rfl,by show 2<=sizeLine;decide,fun u hu=>?_⟩⟩
   have su:=Qc hu (.tup [V.int (i:Nat),V.int q.2])
   have hu4:upd H3 u (.tup [V.int (i:Nat),V.int q.2]) u=some (.tup [V.int (i:Nat),V.int q.2]):=Qb
   generalize upd H3 u (.tup [V.int (i:Nat),V.int q.2])=H4 at su hu4⊢
   have lus:us.length<=1000000:=by
    have h1:=Paired.length u2
    have h2:(stI rs i m q.1).length<=i+m:=by
     unfold stI stN
     rw[yV,jX,jX]
     have b1:=jJd (fun k=>!decide ((rs.getD k ([],0)).1.getD q.1 0=0)) (List.range i)
     have b2:=jJd (fun z:Nat×Int=>decide (z.1=q.1)) ((prt (rs.getD i ([],0))).take m)
     rw[kQ]at b1
     rw[wZ]at b2
     lia
    have h3:m<(prt r).length:=(jK.mp eq).1
    have h4:(prt r).length<=r.1.length:=by
     unfold prt
     rw[jX]
     have:=jJd (fun j=>!decide (r.1.getD j 0=0)) (List.range r.1.length)
     rwa [kQ]at this
    lia
   refine⟨a,us,_,rfl,rfl,su _ _ u1,(by have hs:(1000000:Nat)<sizeLine:=Dc;lia),⟨_,_,rfl,?_,?_,?_,fun b o e=>?_,fun b o n e=>?_⟩⟩
   .rw[Qk (na a ma).1.symm];exact su _ _ p3
   .rw[Qk (na a ma).2.symm];exact su _ _ e3
   .refine(a3.same su).put nd ea (su _ _ u1) (Paired.mapP u2 fun _ _ ⟨t,e,z⟩=>⟨t,e,su.tup z⟩) (q:=(i,q.2)) (Qr hu4) ?_ fun j hj=>?_
    .rw[Qhx rs i m q.1 (by rw[er'];exact eq),if_pos rfl]
    .rw[Qhx rs i m j (by rw[er'];exact eq),if_neg (Ne.symm hj)]
   .rw[Qk ?_];exact su _ _ (s3 _ _ e)
    rintro rfl
    have:=Za H6 _ _ e
    rw[(ha _ ma).1]at this;cases this
   .rw[Qk ?_];exact su _ _ (k3 b o n e)
    rintro rfl
    exact(nb _ _ n e).1 ma
  .rintro σ H3 ⟨x3,x4,rfl,p3,e3,a3,s3,k3⟩
   refine⟨_,_,_,_,rfl,p3,e3,fun j a e=>?_,s3,k3⟩
   obtain⟨us,u1,u2⟩:=a3 j a e
   refine⟨us,u1,?_⟩
   have hj:=(jK.mp e).1
   rw[Paired.length y2,<-er',Qup rs i (by rw[er',lr];exact hj)]at u2
   exact u2
 .rintro σ H1 ⟨x1,x2,x3,x4,rfl,p1,e1,a1,s1,k1⟩
  refine q H1 (fun b o n _ e=>k1 b o n e) ?_
  have sH:Same (Zu H) H1:=fun b o e=>k1 b o (fun z=>by rw[z,Qei hp]at e;cases e) (Za H _ _ e)
  refine⟨_,t,D1,D2,D3,ys,as.map V.ref,ob p1,(fun x hx=>?_),rfl,(Qax pr).same sH,rfl,rfl,?_,rfl,s1.seq (Qi m6'),Paired.mapP g6' fun v r ⟨lp,ts,e,y1,y2⟩=>⟨lp,ts,e,s1.seq y1,Paired.mapP y2 fun _ _ ⟨t,e,z⟩=>⟨t,e,s1.tup z⟩⟩,rfl,Qi e1,Yq (by rw[jX,kQ,la]) fun i v j e2 e3=>?_⟩
  .simp only[yY,kXe,or_false]at hx
   rcases hx with rfl | rfl | rfl | rfl | rfl | rfl | rfl<;>rfl
  .refine s1.seq (Qi (m6.trans ?_))
   rw[jQb,lv]
   congr 2
   conv=>rhs;rw[<-Xb rs ([],0)]
   rw[jQb];rfl
  .obtain⟨hj,ej⟩:=jK.mp e3
   rw[kXf]at ej
   subst ej
   have hi:i<as.length:=by rw[kQ]at hj;lia
   rw[jV,gE hi]at e2
   cases e2
   obtain⟨us,u1,u2⟩:=a1 i _ (gE hi)
   rw[lu]at u2
   exact⟨_,us,rfl,Qi u1,u2⟩
end
theorem Qhz{α:Type}[DecidableEq α]:∀{A S:List α},A.Nodup->(∀a∈A,a∈S)->A.length<=S.length
 |[],_,_,_=>wY _
 |a::A,S,nd,h=>by
  obtain⟨na,nd⟩:=jZe.mp nd
  have ha:a∈S:=h a zJ
  have:=Qhz (S:=S.erase a) nd fun b hb=>(yYf (fun z=>na (by rw[<-z];exact hb))).mpr (h b (zY _ hb))
  rw[yQe ha]at this
  have:0<S.length:=yKe ha
  show A.length+1<=_
  lia
def dc(a:List Int):Nat:=(a.foldl PyProof.Rows.step_dedup []).length
theorem Wz:∀(l acc:List Int) (x:Int),x∈l.foldl PyProof.Rows.step_dedup acc↔x∈acc\/x∈l
 |[],acc,x=>by simp
 |a::l,acc,x=>by
  rw[kKa,Wz l]
  unfold PyProof.Rows.step_dedup
  by_cases h:acc.any (· == a)=true
  .rw[if_pos h]
   obtain⟨y,hy,e⟩:=yYd.mp h
   rw[beq_iff_eq]at e
   subst e
   constructor
   .rintro(z | z)
    .exact .inl z
    .exact .inr (zY _ z)
   .rintro(z | z)
    .exact .inl z
    .rcases yY.mp z with rfl | z
     .exact .inl hy
     .exact .inr z
  .rw[if_neg h,wX,kW,yY,or_assoc]
theorem Vt:∀(l acc:List Int),acc.Nodup->(l.foldl PyProof.Rows.step_dedup acc).Nodup
 |[],_,h=>h
 |a::l,acc,h=>by
  rw[kKa]
  refine Vt l _ ?_
  unfold PyProof.Rows.step_dedup
  by_cases z:acc.any (· == a)=true
  .rw[if_pos z];exact h
  .rw[if_neg z]
   refine yKb.mpr ⟨h,jZe.mpr ⟨(fun z=>nomatch z),.nil⟩,fun x hx y hy=>?_⟩
   rw[kW.mp hy]
   rintro rfl
   exact z (yYd.mpr ⟨_,hx,beq_self_eq_true _⟩)
theorem Qia{a:List Int}{x:Int}(h:x∈a):∃i,i<a.length/\a.getD i 0=x:=by
 obtain⟨i,hi,e⟩:=jXc h
 exact⟨i,hi,by rw[jY,gE hi];exact e⟩
theorem Qgb{a:List Int}{i:Nat}(h:i<a.length):a.getD i 0∈a:=by
 rw[jY,gE h]
 exact jXf _
theorem dc_le{a b:List Int}(hl:a.length=b.length)(h:∀i j,i<a.length->j<a.length->b.getD i 0=b.getD j 0->a.getD i 0=a.getD j 0):dc a<=dc b:=by
 have ex:∀x:Int,∃i:Nat,x∈a->i<a.length/\a.getD i 0=x:=fun x=>by
  by_cases m:x∈a
  .obtain⟨i,h⟩:=Qia m
   exact⟨i,fun _=>h⟩
  .exact⟨0,fun z=>absurd z m⟩
 have sp:∀x,x∈a->Classical.choose (ex x)<a.length/\a.getD (Classical.choose (ex x)) 0=x:=fun x=>Classical.choose_spec (ex x)
 unfold dc
 have m:∀x,x∈a.foldl PyProof.Rows.step_dedup []->x∈a:=fun x hx=>((Wz a [] x).mp hx).resolve_left fun z=>nomatch z
 have e:=Qhz (A:=(a.foldl PyProof.Rows.step_dedup []).map fun x=>b.getD (Classical.choose (ex x)) 0) (S:=b.foldl PyProof.Rows.step_dedup []) ?_ fun y hy=>?_
 .rw[jX]at e;exact e
 .refine jYb.mpr ((Vt a [] .nil).imp_of_mem fun{x y} hx hy ne e=>ne ?_)
  have h1:=sp x (m x hx)
  have h2:=sp y (m y hy)
  have:=h _ _ h1.1 h2.1 e
  rw[h1.2,h2.2]at this
  exact this
 .obtain⟨x,hx,rfl⟩:=zQ.mp hy
  exact(Wz b [] _).mpr (.inr (Qgb (by rw[<-hl];exact(sp x (m x hx)).1)))
theorem Qnt{a:List Int}{c:Nat}(hc:c<a.length)(h:1<a.count (a.getD c 0)):∃j,j<a.length/\j≠c/\a.getD j 0=a.getD c 0:=by
 refine Classical.byContradiction fun no=>?_
 have:∀j,j<a.length->j≠c->a.getD j 0≠a.getD c 0:=fun j h1 h2 h3=>no ⟨j,h1,h2,h3⟩
 have e:a=a.take c++a[c]::a.drop (c+1):=by rw[List.getElem_cons_drop,jZb]
 have ec:a.getD c 0=a[c]:=by rw[jY,gE hc];rfl
 have e2:a.count (a.getD c 0)=(a.take c).count (a.getD c 0)+((a.drop (c+1)).count (a.getD c 0)+1):=by
  rw[ec]
  generalize a[c]=y at *
  conv=>lhs;rw[e]
  rw[List.count_append,List.count_cons_self]
 have z1:(a.take c).count (a.getD c 0)=0:=List.count_eq_zero.mpr fun z=>by
  obtain⟨j,hj,ej⟩:=jXc z
  rw[wZ]at hj
  rw[List.getElem_take]at ej
  refine this j Om Om ?_
  rw[jY,gE Om]
  exact ej
 have z2:(a.drop (c+1)).count (a.getD c 0)=0:=List.count_eq_zero.mpr fun z=>by
  obtain⟨j,hj,ej⟩:=jXc z
  rw[kZe]at hj
  rw[List.getElem_drop]at ej
  refine this (c+1+j) Om Om ?_
  rw[jY,gE Om]
  exact ej
 lia
theorem Yh{l:List Int}{i p:Nat}{x:Int}(hi:i<l.length):(l.set i x).getD p 0=if i=p then x else l.getD p 0:=by
 rw[jY,List.getElem?_set]
 by_cases h:i=p
 .rw[if_pos h,if_pos Om,if_pos h];rfl
 .rw[if_neg h,if_neg h,<-jY]
theorem dc_set{a:List Int}{c:Nat}{x:Int}(hc:c<a.length)(h:1<a.count (a.getD c 0))(hx:x∉a):dc a+1<=dc (a.set c x):=by
 unfold dc
 have e:=Qhz (A:=x::a.foldl PyProof.Rows.step_dedup []) (S:=(a.set c x).foldl PyProof.Rows.step_dedup []) (jZe.mpr ⟨fun z=>?_,Vt a [] .nil⟩) fun y hy=>?_
 .exact e
 .exact((Wz a [] x).mp z).elim (fun z=>nomatch z) hx
 .refine(Wz _ [] _).mpr (.inr ?_)
  have ln:(a.set c x).length=a.length:=kJf
  rcases yY.mp hy with rfl | z
  .have:=Qgb (a:=a.set c y) (i:=c) (by rw[ln];exact hc)
   rw[Yh hc,if_pos rfl]at this
   exact this
  .obtain⟨i,hi,rfl⟩:=Qia (((Wz a [] y).mp z).resolve_left fun z=>nomatch z)
   by_cases ic:i=c
   .subst ic
    obtain⟨j,hj,nj,ej⟩:=Qnt hc h
    have:=Qgb (a:=a.set i x) (i:=j) (by rw[ln];exact hj)
    rw[Yh hc,if_neg (Ne.symm nj),ej]at this
    exact this
   .have:=Qgb (a:=a.set c x) (i:=i) (by rw[ln];exact hi)
    rw[Yh hc,if_neg (Ne.symm ic)]at this
    exact this
theorem Qsg{a:List Int}:dc a<=a.length:=by
 refine Qhz (Vt a [] .nil) fun x hx=>((Wz a [] x).mp hx).resolve_left fun z=>nomatch z
theorem Quq{a:List Int}(h:a.length<=dc a):a.Nodup:=(Qls a).mp (Nat.le_antisymm Qsg h)
def Carry(n:Nat)(t:List Nat)(a b:List Int):Prop:=∀i,i<n->b.getD (t.getD i 0) 0=a.getD i 0
structure FinOk(n:Nat)(a b a' b':List Int):Prop where
 la:a'.length=n
 lb:b'.length=n
 perm:a'.Perm b'
 lt:∀x∈a',0<=x/\x<n
 fine:∀i j,i<n->j<n->a'.getD i 0=a'.getD j 0->a.getD i 0=a.getD j 0
 cross:∀i j,i<n->j<n->a'.getD i 0=b'.getD j 0->a.getD i 0=b.getD j 0
theorem Carry.back{n:Nat}{a b a' b':List Int}(h:FinOk n a b a' b'){t:List Nat}(T:IsTurn n t)(c:Carry n t a' b'):Carry n t a b:=fun i hi=>(h.cross i _ hi (getT T hi).2 (c i hi).symm).symm
theorem Qur{col col':List Int}{c c':Int}{qs qs':List (Nat×Int)}{k k':D}(h:LkOf col c qs k)(h':LkOf col' c' qs' k')(e:c=c')(p:(qs.map fun q=>(col.getD q.1 0,q.2)).Perm (qs'.map fun q=>(col'.getD q.1 0,q.2))):k=k':=by
 obtain⟨ps,rfl,p1,s1⟩:=h
 obtain⟨ps',rfl,p2,s2⟩:=h'
 rw[e,Qfi (p1.trans (p.trans p2.symm)) s1 s2]
theorem Qsh{col col':List Int}{c c':Int}{qs qs':List (Nat×Int)}{k:D}(h:LkOf col c qs k)(h':LkOf col' c' qs' k):c=c':=by
 obtain⟨ps,rfl,_,_⟩:=h
 obtain⟨ps',e,_,_⟩:=h'
 unfold Qdv at e
 injection e with e
 injection e with e _
 injection e
theorem Zh{α:Type}{R:α->D->Prop}{f:α->D}:∀{xs:List α} {ks:List D},Paired R xs ks->(∀x k,R x k->k=f x)->ks=xs.map f
 |_,_,.nil,_=>rfl
 |_,_,.cons h t,hf=>by rw[hf _ _ h,Zh t hf];rfl
theorem Qnu{α:Type}{n:Nat}{t:List Nat}(T:IsTurn n t){p q:Nat->Bool}{f g:Nat->α}(hp:∀i,i<n->q (t.getD i 0)=p i)(hf:∀i,i<n->g (t.getD i 0)=f i):(((List.range n).filter p).map f).Perm (((List.range n).filter q).map g):=by
 have e:(((List.range n).filter p).map f)=((t.filter q).map g):=by
  conv=>rhs;rw[show t=(List.range n).map fun i=>t.getD i 0 by rw[<-T.length];exact(Xb t 0).symm]
  rw[zQf,jQb]
  rw[List.filter_congr (q:=q∘fun i=>t.getD i 0) (fun i hi=>(hp i (yQ.mp hi)).symm)]
  exact kXa fun i hi=>(hf i (yQ.mp (wK.mp hi).1)).symm
 rw[e]
 exact(T.perm.filter _).map _
theorem Qib{n:Nat}{t:List Nat}(T:IsTurn n t){r:Row}(hl:r.1.length=n){i:Nat}(hi:i<n):(ledR t n r).1.getD (t.getD i 0) 0=r.1.getD i 0:=by
 have:=Qhb (ns:=r.1) T hl (getT T hi).1
 show(put r.1 t n).getD _ 0=_
 rw[jY,this,<-jY]
theorem Qus{n:Nat}{t:List Nat}(T:IsTurn n t){r:Row}(hl:r.1.length=n){a b:List Int}(c:Carry n t a b):((prt r).map fun q=>(a.getD q.1 0,q.2)).Perm ((prt (ledR t n r)).map fun q=>(b.getD q.1 0,q.2)):=by
 unfold prt
 rw[jQb,jQb,hl,Qbp T]
 exact Qnu T (fun i hi=>by rw[Qib T hl hi]) fun i hi=>by
  show(b.getD (t.getD i 0) 0,(ledR t n r).1.getD (t.getD i 0) 0)=(a.getD i 0,r.1.getD i 0)
  rw[Qib T hl hi,c i hi]
theorem Qnv(rs:List Row)(rw0:List Int)(j:Nat)(g:Row->Int)(h:∀k,k<rs.length->rw0.getD k 0=g (rs.getD k ([],0))):((stn rs j).map fun q=>(rw0.getD q.1 0,q.2))=(rs.filter fun r=>!decide (r.1.getD j 0=0)).map fun r=>(g r,r.1.getD j 0):=by
 unfold stn
 conv=>rhs;rw[<-Xb rs ([],0)]
 rw[jQb,zQf,jQb]
 exact kXa fun k hk=>by
  show(rw0.getD k 0,_)=(g (rs.getD k ([],0)),_)
  rw[h k (yQ.mp (wK.mp hk).1)]
open Classical in
def lkF(col:List Int)(r:Row):D:=if h:∃k,LkOf col r.2 (prt r) k then Classical.choose h else .non
theorem Qay{col:List Int}{r:Row}{k:D}(h:LkOf col r.2 (prt r) k):k=lkF col r:=by
 have ex:∃k,LkOf col r.2 (prt r) k:=⟨k,h⟩
 unfold lkF
 rw[dif_pos ex]
 exact Qur h (Classical.choose_spec ex) rfl (.refl _)
section
variable{n:Nat}{rs:List Row}{cs a b:List Int}{k1 k2 c1 c2:List D}{nm:D->Nat}{t:List Nat}
theorem keepF(T:IsTurn n t)(kt:Yp rs cs t n)(hl:∀r∈rs,r.1.length=n)(c:Carry n t a b)(h1:Paired (fun r k=>LkOf a r.2 (prt r) k) rs k1)(h2:Paired (fun r k=>LkOf b r.2 (prt r) k) rs k2) :
  ∀r∈rs,ledR t n r∈rs/\lkF b (ledR t n r)=lkF a r:=fun r hr=>by
 have hm:ledR t n r∈rs:=kt.2.mem_iff.mp (List.mem_map_of_mem hr)
 refine⟨hm,?_⟩
 obtain⟨i,hi,e⟩:=jXc hr
 obtain⟨j,hj,e'⟩:=jXc hm
 obtain⟨k,_,hk⟩:=Paired.getR h1 (gE hi)
 obtain⟨k',_,hk'⟩:=Paired.getR h2 (gE hj)
 rw[e]at hk
 rw[e']at hk'
 rw[<-Qay hk,<-Qay hk']
 exact(Qur hk hk' rfl (Qus T (hl r hr) c)).symm
theorem Qjk(T:IsTurn n t)(kt:Yp rs cs t n)(hl:∀r∈rs,r.1.length=n)(c:Carry n t a b)(h1:Paired (fun r k=>LkOf a r.2 (prt r) k) rs k1)(h2:Paired (fun r k=>LkOf b r.2 (prt r) k) rs k2):k1.Perm k2:=by
 have F:=keepF T kt hl c h1 h2
 rw[Zh h1 fun _ _=>Qay,Zh h2 fun _ _=>Qay]
 rw[show rs.map (lkF a)=(rs.map (ledR t n)).map (lkF b)by rw[jQb];exact kXa fun r hr=>((F r hr).2).symm]
 exact kt.2.map _
theorem nm_at{ks:List D}{xs:List Row}{f:Row->D}(e:ks=xs.map f){k:Nat}(hk:k<xs.length):(ks.map fun x=>((nm x:Nat):Int)).getD k 0=(nm (f (xs.getD k ([],0))):Nat):=by
 rw[e,jQb,jY,jV,jY,gE hk];rfl
theorem Vh{ks:List D}{k:Nat}(hk:k<ks.length):(ks.map fun x=>((nm x:Nat):Int)).getD k 0=(nm (ks.getD k .non):Nat):=by
 rw[jY,jV,jY,gE hk];rfl
theorem chLk{n:Nat}{R:Nat->D->Prop}{ks:List D}(h:Paired R (List.range n) ks){i:Nat}(hi:i<n):i<ks.length/\R i (ks.getD i .non):=by
 obtain⟨k,e,hk⟩:=Paired.getR h (xY hi)
 refine⟨(jK.mp e).1,?_⟩
 rw[jY,e]
 exact hk
theorem Qic(T:IsTurn n t)(kt:Yp rs cs t n)(hl:∀r∈rs,r.1.length=n)(c:Carry n t a b)(h1:Paired (fun r k=>LkOf a r.2 (prt r) k) rs k1)(h2:Paired (fun r k=>LkOf b r.2 (prt r) k) rs k2)
  (g1:Paired (fun j k=>LkOf (k1.map fun x=>((nm x:Nat):Int)) (a.getD j 0) (stn rs j) k) (List.range n) c1) (g2:Paired (fun j k=>LkOf (k2.map fun x=>((nm x:Nat):Int)) (b.getD j 0) (stn rs j) k) (List.range n) c2) :
  c1.Perm c2/\∀i,i<n->c2.getD (t.getD i 0) .non=c1.getD i .non:=by
 have F:=keepF T kt hl c h1 h2
 have e1:=Zh h1 fun _ _=>Qay
 have e2:=Zh h2 fun _ _=>Qay
 have key:∀i,i<n->c2.getD (t.getD i 0) .non=c1.getD i .non:=fun i hi=>by
  refine(Qur (chLk g1 hi).2 (chLk g2 (getT T hi).2).2 (c i hi).symm ?_).symm
  rw[Qnv rs _ i (fun r=>(nm (lkF a r):Nat)) fun k hk=>nm_at e1 hk,Qnv rs _ (t.getD i 0) (fun r=>(nm (lkF b r):Nat)) fun k hk=>nm_at e2 hk]
  have q:(rs.filter fun r=>!decide (r.1.getD i 0=0)).map (fun r=>(((nm (lkF a r):Nat):Int),r.1.getD i 0))=((rs.map (ledR t n)).filter fun r=>!decide (r.1.getD (t.getD i 0) 0=0)).map fun r=>(((nm (lkF b r):Nat):Int),r.1.getD (t.getD i 0) 0):=by
   rw[zQf,jQb]
   rw[List.filter_congr (q:=(fun r:Row=>!decide (r.1.getD (t.getD i 0) 0=0))∘ledR t n) (fun r hr=>by show _=(!decide ((ledR t n r).1.getD (t.getD i 0) 0=0));rw[Qib T (hl r hr) hi])]
   refine kXa fun r hr=>?_
   have hr:=(wK.mp hr).1
   show(_,_)=(((nm (lkF b (ledR t n r)):Nat):Int),(ledR t n r).1.getD (t.getD i 0) 0)
   rw[Qib T (hl r hr) hi,(F r hr).2]
  rw[q]
  exact(kt.2.filter _).map _
 refine⟨?_,key⟩
 have l1:=Paired.length g1
 have l2:=Paired.length g2
 rw[kQ]at l1 l2
 have:c1=t.map fun k=>c2.getD k .non:=by
  refine yQa (by rw[jX,T.length];exact l1.symm) fun i h1 h2=>?_
  have hi:i<n:=Om
  have:=key i hi
  have hit:i<t.length:=by rw[T.length];exact hi
  rw[kXd]
  rw[show t.getD i 0=t[i]from by rw[jY,gE hit];rfl,show c1.getD i D.non=c1[i]from by rw[jY,gE h1];rfl]at this
  exact this.symm
 rw[this]
 refine(T.perm.map _).trans (.of_eq ?_)
 rw[l2]
 exact Xb c2 .non
theorem Qqy{rw1 rw2:List Int}(g1:Paired (fun j k=>LkOf rw1 (a.getD j 0) (stn rs j) k) (List.range n) c1)(g2:Paired (fun j k=>LkOf rw2 (b.getD j 0) (stn rs j) k) (List.range n) c2)(pm:c1.Perm c2)(lt:∀x∈c1,nm x<c1.length)(inj:∀x∈c1,∀y∈c1,nm x=nm y->x=y) :
  FinOk n a b (c1.map fun x=>((nm x:Nat):Int)) (c2.map fun x=>((nm x:Nat):Int)):=by
 have l1:=Paired.length g1
 have l2:=Paired.length g2
 rw[kQ]at l1 l2
 have mem:∀{c:List D} {i:Nat},i<c.length->c.getD i .non∈c:=fun h=>by
  rw[jY,gE h]
  exact jXf _
 refine⟨by rw[jX,<-l1],by rw[jX,<-l2],pm.map _,fun x hx=>?_,fun i j hi hj e=>?_,fun i j hi hj e=>?_⟩
 .obtain⟨y,hy,rfl⟩:=zQ.mp hx
  have:=lt y hy
  lia
 .rw[Vh Om,Vh Om]at e
  have e:=inj _ (mem Om) _ (mem Om) (Int.ofNat.inj e)
  have q:=(chLk g1 hi).2
  rw[e]at q
  exact Qsh q (chLk g1 hj).2
 .rw[Vh Om,Vh Om]at e
  have e:=inj _ (mem Om) _ (pm.mem_iff.mpr (mem Om)) (Int.ofNat.inj e)
  have q:=(chLk g1 hi).2
  rw[e]at q
  exact Qsh q (chLk g2 hj).2
theorem Qqz{n:Nat}{t:List Nat}(T:IsTurn n t)(h1:c1.length=n)(h2:c2.length=n)(h:∀i,i<n->c2.getD (t.getD i 0) .non=c1.getD i .non):Carry n t (c1.map fun x=>((nm x:Nat):Int)) (c2.map fun x=>((nm x:Nat):Int)):=fun i hi=>by
 rw[Vh (by rw[h2];exact(getT T hi).2),Vh Om,h i hi]
end
theorem Qaa{n:Nat}{t:List Nat}{a b:List Int}(T:IsTurn n t)(ha:a.length=n)(hb:b.length=n){c p:Nat}{x:Int}(hc:c<n)(hp:p<n)(h:Carry n t a b)(e:t.getD c 0=p):Carry n t (a.set c x) (b.set p x):=fun i hi=>by
 rw[Yh Om,Yh Om]
 by_cases z:c=i
 .subst z
  rw[if_pos e.symm,if_pos rfl]
 .rw[if_neg z,if_neg ?_,h i hi]
  intro q
  rw[<-e]at q
  have e1:=(getT T hc).1
  have e2:=(getT T hi).1
  rw[q]at e1
  exact z (T.inj e1 e2)
theorem Qid{n:Nat}{t:List Nat}{a b:List Int}(T:IsTurn n t)(ha:a.length=n)(hb:b.length=n){c p:Nat}{x:Int}(hc:c<n)(hp:p<n)(na:x∉a)(nb:x∉b)(h:Carry n t (a.set c x) (b.set p x)):t.getD c 0=p/\(b.getD p 0=a.getD c 0->Carry n t a b):=by
 have h0:=h c hc
 rw[Yh Om,Yh Om,if_pos rfl]at h0
 have e:t.getD c 0=p:=Classical.byContradiction fun z=>by
  rw[if_neg (fun y=>z y.symm)]at h0
  exact nb (h0▸Qgb (by rw[hb];exact(getT T hc).2))
 refine⟨e,fun eq i hi=>?_⟩
 by_cases z:c=i
 .subst z
  rw[e];exact eq
 .have h1:=h i hi
  rw[Yh Om,Yh Om,if_neg z]at h1
  by_cases y:p=t.getD i 0
  .rw[if_pos y]at h1
   exact absurd (h1▸Qgb Om) na
  .rw[if_neg y]at h1
   exact h1
theorem FinOk.dc{n:Nat}{a b a' b':List Int}(ha:a.length=n)(h:FinOk n a b a' b'):Nb.dc a<=Nb.dc a':=dc_le (by rw[ha,h.la]) fun i j hi hj e=>h.fine i j Om Om e
def ColA(K:Fg)(H:Hp)(A:Addr)(a:List Int):Prop:=SqL K H A (a.map V.int)\/SqT K H A (a.map V.int)
theorem ColA.same{K:Fg}{H H':Hp}{A:Addr}{a:List Int}(h:ColA K H A a)(s:Same H H'):ColA K H' A a:=h.elim (fun z=>.inl (s.seq z)) fun z=>.inr (s.tup z)
def PairA(K:Fg)(H:Hp)(p:Addr)(a b:List Int):Prop:=∃A B,SqT K H p [.ref A,.ref B]/\ColA K H A a/\ColA K H B b
def PairL(K:Fg)(H:Hp)(p:Addr)(a b:List Int):Prop:=∃A B,SqT K H p [.ref A,.ref B]/\SqL K H A (a.map V.int)/\SqL K H B (b.map V.int)
theorem PairL.any{K:Fg}{H:Hp}{p:Addr}{a b:List Int}(h:PairL K H p a b):PairA K H p a b:=by obtain⟨A,B,h1,h2,h3⟩:=h;exact⟨A,B,h1,.inl h2,.inl h3⟩
theorem PairA.same{K:Fg}{H H':Hp}{p:Addr}{a b:List Int}(h:PairA K H p a b)(s:Same H H'):PairA K H' p a b:=by obtain⟨A,B,h1,h2,h3⟩:=h;exact⟨A,B,s.tup h1,h2.same s,h3.same s⟩
theorem PairL.same{K:Fg}{H H':Hp}{p:Addr}{a b:List Int}(h:PairL K H p a b)(s:Same H H'):PairL K H' p a b:=by obtain⟨A,B,h1,h2,h3⟩:=h;exact⟨A,B,s.tup h1,s.seq h2,s.seq h3⟩
theorem CoAt.ob{K:Fg}{C:Addr}{H:Hp}{p:Addr}{rs:List Row}{cs:List Int}(S:CoAt K C H p rs cs){nm:Str}(hn:nm∈(["__init__","row_looks","choice_looks","finer","fixed","is_tired","turn_by"]:List Str)){q:Prop}(h:q):∃a dx fs,V.ref p=.ref a/\H a=some (.ins C dx fs)/\fs.lookup nm=none/\q:=by
 obtain⟨lk,prb,le,pa,st,us,ws,o1,o2,_⟩:=S
 exact o1.mt (o2 nm hn) h
def Qek(n:Nat)(rs:List Row)(cs a b:List Int):Prop:=∀t,IsTurn n t->Yp rs cs t n->¬Carry n t a b
def Carries(n:Nat)(rs:List Row)(cs a b a' b':List Int):Prop:=∀t,IsTurn n t->Yp rs cs t n->Carry n t a b->Carry n t a' b'
structure FinB(n:Nat)(a b a' b':List Int):Prop where
 la:a'.length=n
 lb:b'.length=n
 fine:∀i j,i<n->j<n->a'.getD i 0=a'.getD j 0->a.getD i 0=a.getD j 0
 cross:∀i j,i<n->j<n->a'.getD i 0=b'.getD j 0->a.getD i 0=b.getD j 0
theorem FinB.fin{n:Nat}{a b a' b' a2 b2:List Int}(h:FinB n a b a' b')(g:FinOk n a' b' a2 b2):FinOk n a b a2 b2 :=
 ⟨g.la,g.lb,g.perm,g.lt,fun i j hi hj e=>h.fine i j hi hj (g.fine i j hi hj e),fun i j hi hj e=>h.cross i j hi hj (g.cross i j hi hj e)⟩
theorem FinOk.b{n:Nat}{a b a' b':List Int}(h:FinOk n a b a' b'):FinB n a b a' b':=⟨h.la,h.lb,h.fine,h.cross⟩
theorem Qnw{ks:List D}(nm:D->Nat):(ks.map fun r=>V.int (nm r:Nat))=(ks.map fun x=>((nm x:Nat):Int)).map V.int:=by rw[jQb];rfl
theorem round1{n:Nat}{rs:List Row}{cs a b:List Int}{k1 k2:List D}(hl:∀r∈rs,r.1.length=n)(h1:Paired (fun r k=>LkOf a r.2 (prt r) k) rs k1)(h2:Paired (fun r k=>LkOf b r.2 (prt r) k) rs k2)(np:¬k1.Perm k2):Qek n rs cs a b :=
 fun _ T kt c=>np (Qjk T kt hl c h1 h2)
abbrev Qel:Stmt:=inClass (top 8) 3
def Qgc(P:Program)(w:World)(K:Fg)(C:Addr):Sp:=fun vs H Q _=>∃(p pr:Addr) (rs:List Row) (cs a b:List Int),vs=[.ref p,.ref pr]/\CoAt K C H p rs cs/\PairA K H pr a b/\a.length=cs.length/\b.length=cs.length/\(∀r∈rs,r.1.length=cs.length)/\rs.length<=1000/\cs.length<=100 /\
 (∀H',Same H H'->Qek cs.length rs cs a b->Q .non H') /\
 ∀(p':Addr) (a' b':List Int) (H':Hp),Same H H'->PairL K H' p' a' b'->FinOk cs.length a b a' b'->Carries cs.length rs cs a b a' b'->Q (.ref p') H'
section
variable{P:Program}{w:World}{K:Fg}{mg:Str->Option Value}{base:Heap}
theorem scFiner:FnScope ["self","pair","known","rows"] ["self","pair"] (Qh Qel):=⟨rfl,rfl,rfl,Dk,rfl,Dk,Dk⟩
theorem Qut{f C:Addr}{fd:FuncData}(F:Fun K "finer" "Colours.finer" Qel f fd)(M:Mg mg)(T:CoTxt K mg C){fR fC:Addr}{fdR fdC:FuncData}(mR:Meth K C "row_looks" fR)(GR:FnOk P w K mg base CX0 1 fR fdR ["self","colours"] (Qnq P w K C))(bR:Binds K fdR ["self","colours"] [])(mC:Meth K C "choice_looks" fC)(GC:FnOk P w K mg base CX0 1 fC fdC ["self","colours","rows"] fun vs H Q E=>Qfz P w K C vs H Q E\/Qga P w K C vs H Q E)(bC:Binds K fdC ["self","colours","rows"] [])(c_named:Cal P w K mg base 1 "named" ["one","other"] (Qnm P w K)):FnOk P w K mg base CX0 2 f fd ["self","pair"] (Qgc P w K C):=by
 refine F.ok scFiner (fun vs H Q E h=>?_) (fun cdv A outer s H vs Q E hr h=>?_)
 .obtain⟨p,pr,rs,cs,a,b,rfl,_⟩:=h
  rfl
 obtain⟨p,pr,rs,cs,a,b,rfl,S,hp,la,lb,hrl,h1,h2,q0,q⟩:=h
 refine⟨_,(Qg (Qo (i:=2) scFiner.nd rfl (Or.inl rfl) Qj)
  (Qm (Qba PassesOwn.never (Vl Qaf) (Qg (Zn (Xc Qev (Zv (pv 0) rfl) Ys (Xf _)) (Qm (Qkf (pv 0) (Qx Yi (Qn (Qkw rfl) rfl M.sum bt_sum (Qa (Zy ["places"] [none] rfl (Xj (Zv (pv 0) rfl)) (fun _ _ _=>(Qz (i:=0) (show(["places"]:List Str).Nodup by decide +kernel) rfl (Or.inl rfl) (Or.inr rfl))) (fun _ _ _=>Ye) (fun _ _ _=>(Qn (Qbi (K:=K) rfl) rfl M.len Zj (Qa (pv 0) Qf)))) Qf)) (Qn Xa rfl M.len Zj (Qa (Zv (pv 0) rfl) Qf))) in_sub)) Xi)
  (Qg (Qo (i:=3) scFiner.nd rfl (Or.inl rfl) (Xp c_named (hr.mono Dc) (Qa (Zl (pv 0) T.cl mR GR (hr.mono Dc) bR .nil Kz (Qa (Qu Qy (pv 1) Qj (fun _ _=>rfl)) Qf)) (Qa (Zl (pv 0) T.cl mR GR (hr.mono Dc) bR .nil Kz (Qa (Qu Qy (pv 1) Qj (fun _ _=>rfl)) Qf)) Qf))))
  (Qg (Zn (Xc Qal (pv 3) Ys (Xf _)) (Qm (Qs Ys)) Xi)
  (Qg (Qo (i:=1) scFiner.nd rfl (Or.inl rfl) (Xp c_named (hr.mono Dc) (Qa (Zl (pv 0) T.cl mC GC (hr.mono Dc) bC .nil Kz (Qa (Qu Qy (pv 1) Qj (fun _ _=>rfl)) (Qa (Qu Qy (pv 3) Qj (fun _ _=>rfl)) Qf))) (Qa (Zl (pv 0) T.cl mC GC (hr.mono Dc) bC .nil Kz (Qa (Qu Qy (pv 1) Qj (fun _ _=>rfl)) (Qa (Qu Qy (pv 3) Qj (fun _ _=>rfl)) Qf))) Qf))))
  (Qg (Zn (PW.pt (Qok (Xc Qal (pv 1) Ys (Xf _)) (Qgi (Xc Qeu (Qn Kn rfl M.len Zj (Qa (Qt (Wi rfl) rfl M.set_ Qlr (Qa (Qu Qy (pv 1) Qj (fun _ _=>rfl)) Qf)) Qf)) (pv 2) (Xf _))))) (Qm (Qs (pv 1))) Xi)
  (Qm (Qo (i:=2) scFiner.nd rfl (Or.inl rfl) (Qn Kn rfl M.len Zj (Qa (Qt (Wi rfl) rfl M.set_ Qlr (Qa (Qu Qy (pv 1) Qj (fun _ _=>rfl)) Qf)) Qf)))))))))))),?_⟩
 have hz:(1000:Nat)<sizeLine:=Dc
 refine Qbb (fun σ H1=>∃(x3:Option V) (pr1:Addr) (a1 b1:List Int) (kn:Nat),σ=[some (.ref p),some (.ref pr1),some (.int (kn:Nat)),x3]/\Same H H1/\PairA K H1 pr1 a1 b1/\FinB cs.length a b a1 b1/\Carries cs.length rs cs a b a1 b1/\kn<=dc a1) (fun σ _=>match σ[2]? with | some (some (V.int k))=>cs.length+1-k.toNat | _=>0) ⟨none,pr,a,b,0,rfl,fun _ _ z=>z,hp,⟨la,lb,fun _ _ _ _ e=>e,fun _ _ _ _ e=>e⟩,fun _ _ _ c=>c,wY _⟩ ?_ ?_
 .rintro σ H1 ⟨x3,pr1,a1,b1,kn,rfl,s1,hp1,fb,ca,hk⟩
  have S1:=S.same s1
  obtain⟨lk,prb,le,pa,st,us,ws,o1,o2,o3,o4,o5,o6,o7,o8,o9,o10,o11,o12,o13⟩:=id S1
  refine⟨_,rfl,iteT ?_⟩
  refine⟨_,rfl,o1.fld T (by unfold coN;simp) o5 ⟨rfl,_,rfl,?_⟩⟩
  rw[show(!decide (V.non=V.non))=false by simp]
  refine iteF ?_
  obtain⟨A,B,t1,t2,t3⟩:=id hp1
  refine⟨_,rfl,S1.ob (by simp) ⟨_,rfl,pr1,_,_,_,rfl,rfl,t1,at0,p,A,rs,cs,a1,rfl,S1,t2,(by rw[fb.la];exact hrl),h1,(by rw[fb.la];exact h2),fun d1 ws1 k1 H2 s2 hd1 lk1 pk1=>?_⟩⟩
  have S2:=S1.same s2
  refine⟨_,rfl,S2.ob (by simp) ⟨_,rfl,pr1,_,_,_,rfl,rfl,s2.tup t1,at1,p,B,rs,cs,b1,rfl,S2,t3.same s2,(by rw[fb.lb];exact hrl),h1,(by rw[fb.lb];exact h2),fun d2 ws2 k2 H3 s3 hd2 lk2 pk2=>?_⟩⟩
  have lk1':=Paired.length pk1
  have lk2':=Paired.length pk2
  refine⟨d1,d2,ws1,ws2,k1,k2,rfl,Qi (s3 _ _ hd1),lk1.same s3,Qi hd2,lk2,Om,Om,fun H4 s4 np=>?_,fun rp RA RB nm H4 s4 pm ht hA hB nlt ninj=>?_⟩
  .refine⟨_,rfl,rfl,_,rfl,?_⟩
   rw[show decide (V.non=V.non)=true by simp]
   exact iteT (q0 H4 (s1.trans (s2.trans (s3.trans s4))) fun t T' kt c=>round1 hrl pk1 pk2 np t T' kt (ca t T' kt c))
  refine⟨_,rfl,rfl,_,rfl,?_⟩
  rw[show decide (V.ref rp=V.non)=false by simp]
  refine iteF ?_
  have s14:=s2.trans (s3.trans s4)
  have S4:=S1.same s14
  have hp4:=hp1.same s14
  have e1:=Qnw (ks:=k1) nm
  have e2:=Qnw (ks:=k2) nm
  rw[e1]at hA
  rw[e2]at hB
  have l1:(k1.map fun x=>((nm x:Nat):Int)).length=rs.length:=by rw[jX];lia
  have l2:(k2.map fun x=>((nm x:Nat):Int)).length=rs.length:=by rw[jX];lia
  have ch:∀{H5:Hp} {cl rw0:List Int} {l m:Addr} {Q:VK} {E:XK},CoAt K C H5 p rs cs->ColA K H5 l cl->SqL K H5 m (rw0.map V.int)->rw0.length=rs.length->cl.length=cs.length ->
    (∀(d:Addr) (ws:List V) (ks:List D) (H':Hp),Same H5 H'->H' d=some (.lst ws)->LksAre K H' ws ks->Paired (fun j k=>LkOf rw0 (cl.getD j 0) (stn rs j) k) (List.range cl.length) ks->Q (.ref d) H')->Qfz P w K C [.ref p,.ref l,.ref m] H5 Q E\/Qga P w K C [.ref p,.ref l,.ref m] H5 Q E:=fun{H5 cl rw0 l m Q E} S5 c5 m5 y1 y2 q5=>by
   rcases c5 with c5 | c5
   .exact .inl ⟨p,l,m,rs,cs,cl,rw0,rfl,S5,c5,m5,y1,y2,h1,Om,q5⟩
   .exact .inr ⟨p,l,m,rs,cs,cl,rw0,rfl,S5,c5,m5,y1,y2,h1,Om,q5⟩
  refine⟨_,rfl,S4.ob (by simp) ⟨_,rfl,pr1,_,_,_,rfl,rfl,s14.tup t1,at0,_,rfl,rp,_,_,_,rfl,rfl,ht,at0,ch S4 (t2.same s14) (Qi hA) l1 fb.la fun d3 ws3 c1 H5 s5 hd3 lk3 pk3=>?_⟩⟩
  have S5:=S4.same s5
  have s15:=s14.trans s5
  refine⟨_,rfl,S5.ob (by simp) ⟨_,rfl,pr1,_,_,_,rfl,rfl,s15.tup t1,at1,_,rfl,rp,_,_,_,rfl,rfl,s5.tup ht,at1,ch S5 (t3.same s15) (Qi (s5 _ _ hB)) l2 fb.lb fun d4 ws4 c2 H6 s6 hd4 lk4 pk4=>?_⟩⟩
  rw[fb.la]at pk3
  rw[fb.lb]at pk4
  have lc1:=Paired.length pk3
  have lc2:=Paired.length pk4
  rw[kQ]at lc1 lc2
  refine⟨d3,d4,ws3,ws4,c1,c2,rfl,Qi (s6 _ _ hd3),lk3.same s6,Qi hd4,lk4,Om,Om,fun H7 s7 np=>?_,fun np NA NB nm2 H7 s7 pm2 ht2 hA2 hB2 nlt2 ninj2=>?_⟩
  .refine⟨_,rfl,rfl,_,rfl,?_⟩
   rw[show decide (V.non=V.non)=true by simp]
   refine iteT (iteT ⟨_,rfl,q0 H7 (s1.trans (s15.trans (s6.trans s7))) fun t T' kt c=>np ?_⟩)
   exact(Qic T' kt hrl (ca t T' kt c) pk1 pk2 pk3 pk4).1
  refine⟨_,rfl,rfl,_,rfl,?_⟩
  rw[show decide (V.ref np=V.non)=false by simp]
  refine iteF ?_
  have s17:=s1.trans (s15.trans (s6.trans s7))
  rw[Qnw]at hA2 hB2
  have fo:=Qqy (rs:=rs) pk3 pk4 pm2 nlt2 ninj2
  have ca2:Carries cs.length rs cs a b (c1.map fun x=>((nm2 x:Nat):Int)) (c2.map fun x=>((nm2 x:Nat):Int)):=fun t T' kt c=>Qqz T' lc1.symm lc2.symm (Qic T' kt hrl (ca t T' kt c) pk1 pk2 pk3 pk4).2
  generalize (c1.map fun x=>((nm2 x:Nat):Int))=a2 at hA2 fo ca2
  generalize (c2.map fun x=>((nm2 x:Nat):Int))=b2 at hB2 fo ca2
  have fo2:=fb.fin fo
  have dle:dc a1<=dc a2:=fo.dc fb.la
  have dl2:dc a2<=cs.length:=by have:=Qsg (a:=a2);rw[fo.la]at this;exact this
  have hp7:PairL K H7 np a2 b2:=⟨NA,NB,ht2,Qi hA2,Qi hB2⟩
  refine⟨_,rfl,np,_,_,_,rfl,rfl,ht2,at0,NA,a2,rfl,Qi hA2,by rw[fo.la];lia,fun sd Sf hsd=>?_⟩
  have s8:=Qc hsd (.set Sf (a2.foldl PyProof.Rows.step_dedup []).length)
  refine⟨sd,Sf,_,rfl,Qb,_,rfl,rfl,_,rfl,?_⟩
  generalize hH8:upd H7 sd (.set Sf (a2.foldl PyProof.Rows.step_dedup []).length)=H8 at s8⊢
  by_cases z:dc a2=kn
  .rw[show decide (V.int ((a2.foldl PyProof.Rows.step_dedup []).length:Nat)=V.int (kn:Nat))=true from xW (by rw[show(a2.foldl PyProof.Rows.step_dedup []).length=kn from z])]
   exact iteT ⟨_,rfl,q np a2 b2 H8 (s17.trans s8) (hp7.same s8) fo2 ca2⟩
  .rw[show decide (V.int ((a2.foldl PyProof.Rows.step_dedup []).length:Nat)=V.int (kn:Nat))=false from wQ (fun y=>z (Int.ofNat.inj (V.int.inj y)))]
   refine iteF ?_
   refine⟨_,rfl,np,_,_,_,rfl,rfl,s8.tup ht2,at0,NA,a2,rfl,s8.seq (Qi hA2),by rw[fo.la];lia,fun sd2 Sf2 hsd2=>?_⟩
   have s9:=Qc hsd2 (.set Sf2 (a2.foldl PyProof.Rows.step_dedup []).length)
   refine⟨sd2,Sf2,_,rfl,Qb,⟨_,np,a2,b2,dc a2,rfl,s17.trans (s8.trans s9),(hp7.same (s8.trans s9)).any,fo2.b,ca2,jW _⟩,?_⟩
   show cs.length+1-(((dc a2:Nat):Int)).toNat<cs.length+1-(((kn:Nat):Int)).toNat
   rw[jQe,jQe]
   lia
 .rintro σ H1 Q1 Q2 hq ⟨k,e,h⟩
  exact⟨k,e,hq _ _ h⟩
abbrev Qem:Stmt:=inClass (top 8) 4
def Qgd(P:Program)(w:World)(K:Fg)(C:Addr):Sp:=fun vs H Q _=>∃(p pr:Addr) (c pl:Nat) (rs:List Row) (cs a b:List Int),vs=[.ref p,.ref pr,.int (c:Nat),.int (pl:Nat)]/\CoAt K C H p rs cs/\PairL K H pr a b/\a.length=cs.length/\b.length=cs.length/\c<cs.length/\pl<cs.length/\(∀r∈rs,r.1.length=cs.length)/\rs.length<=1000/\cs.length<=100 /\
 (∀H',Same H H'->Qek cs.length rs cs (a.set c (cs.length:Nat)) (b.set pl (cs.length:Nat))->Q .non H') /\
 ∀(p':Addr) (a' b':List Int) (H':Hp),Same H H'->PairL K H' p' a' b'->FinOk cs.length (a.set c (cs.length:Nat)) (b.set pl (cs.length:Nat)) a' b'->Carries cs.length rs cs (a.set c (cs.length:Nat)) (b.set pl (cs.length:Nat)) a' b'->Q (.ref p') H'
theorem scFixed:FnScope ["self","pair","choice","place","one","other"] ["self","pair","choice","place"] (Qh Qem):=⟨rfl,rfl,rfl,Dk,rfl,Dk,Dk⟩
theorem Quu{f C:Addr}{fd:FuncData}(F:Fun K "fixed" "Colours.fixed" Qem f fd)(M:Mg mg)(T:CoTxt K mg C){fF:Addr}{fdF:FuncData}(mF:Meth K C "finer" fF)(GF:FnOk P w K mg base CX0 2 fF fdF ["self","pair"] (Qgc P w K C))(bF:Binds K fdF ["self","pair"] []):FnOk P w K mg base CX0 3 f fd ["self","pair","choice","place"] (Qgd P w K C):=by
 refine F.ok scFixed (fun vs H Q E h=>?_) (fun cdv A outer s H vs Q E hr h=>?_)
 .obtain⟨p,pr,c,pl,rs,cs,a,b,rfl,_⟩:=h
  rfl
 obtain⟨p,pr,c,pl,rs,cs,a,b,rfl,S,hp,la,lb,hc,hpl,hrl,h1,h2,q0,q⟩:=h
 refine⟨_,(Qg (Qo (i:=4) scFixed.nd rfl (Or.inl rfl) (Qt Yo rfl M.list_ Ja (Qa (Qu Qy (pv 1) Qj (fun _ _=>rfl)) Qf)))
  (Qg (Qo (i:=5) scFixed.nd rfl (Or.inl rfl) (Qt Yo rfl M.list_ Ja (Qa (Qu Qy (pv 1) Qj (fun _ _=>rfl)) Qf)))
  (Qg (Qgl (Qn Xa rfl M.len Zj (Qa (pv 4) Qf)) (Qgk (pv 4) (pv 2) set_list))
  (Qg (Qgl (Qn Xa rfl M.len Zj (Qa (pv 4) Qf)) (Qgk (pv 5) (pv 3) set_list))
  (Qm (Qs (Zl (pv 0) T.cl mF GF (hr.mono Dc) bF .nil Kz (Qa (Yd (Qa (pv 4) (Qa (pv 5) Qf))) Qf)))))))),?_⟩
 have hz:(1000:Nat)<sizeLine:=Dc
 obtain⟨A,B,t1,t2,t3⟩:=id hp
 refine⟨_,rfl,pr,_,_,_,rfl,rfl,t1,at0,A,_,rfl,.inl t2,fun L1 hL1=>?_⟩
 have s1:=Qc hL1 (.lst (a.map V.int))
 have e1:upd H L1 (.lst (a.map V.int)) L1=some (.lst (a.map V.int)):=Qb
 generalize upd H L1 (.lst (a.map V.int))=H1 at s1 e1⊢
 refine⟨_,rfl,pr,_,_,_,rfl,rfl,s1.tup t1,at1,B,_,rfl,.inl (s1.seq t3),fun L2 hL2=>?_⟩
 have s2:=s1.trans (Qc hL2 (.lst (b.map V.int)))
 have n12:L1≠L2:=Ql e1 hL2
 have e2:upd H1 L2 (.lst (b.map V.int)) L2=some (.lst (b.map V.int)):=Qb
 have e1:=Qc hL2 (.lst (b.map V.int)) _ _ e1
 generalize upd H1 L2 (.lst (b.map V.int))=H2 at s2 e1 e2⊢
 have f1:H L1=none:=hL1
 have f2:H L2=none:=by
  cases z:H L2 with
  |none=>rfl
  |some o=>rw[s1 _ _ z]at hL2;cases hL2
 refine⟨_,rfl,L1,_,rfl,.inl (Qi e1),_,rfl,_,rfl,L1,_,_,c,rfl,rfl,e1,Qpi (by rw[jX];lia),?_⟩
 have s3:Same H (upd H2 L1 (.lst ((a.map V.int).set c (V.int (((a.map V.int).length:Nat):Int))))):=fun x o e=>by rw[Qk (Ql e f1)];exact s2 _ _ e
 have e2:upd H2 L1 (.lst ((a.map V.int).set c (V.int (((a.map V.int).length:Nat):Int)))) L2=_:=(Qk n12.symm).trans e2
 have e1:upd H2 L1 (.lst ((a.map V.int).set c (V.int (((a.map V.int).length:Nat):Int)))) L1=some (.lst ((a.set c (cs.length:Nat)).map V.int)):=by rw[Qb,List.map_set,jX,la]
 generalize upd H2 L1 (.lst ((a.map V.int).set c (V.int (((a.map V.int).length:Nat):Int))))=H3 at s3 e1 e2⊢
 refine⟨_,rfl,L1,_,rfl,.inl (Qi e1),_,rfl,_,rfl,L2,_,_,pl,rfl,rfl,e2,Qpi (by rw[jX];lia),?_⟩
 rw[show((a.set c ((cs.length:Nat):Int)).map V.int).length=cs.length by rw[jX,kJf,la]]
 have s4:Same H (upd H3 L2 (.lst ((b.map V.int).set pl (V.int ((cs.length:Nat):Int))))):=fun x o e=>by rw[Qk (Ql e f2)];exact s3 _ _ e
 have e1:upd H3 L2 (.lst ((b.map V.int).set pl (V.int ((cs.length:Nat):Int)))) L1=_:=(Qk n12).trans e1
 have e2:upd H3 L2 (.lst ((b.map V.int).set pl (V.int ((cs.length:Nat):Int)))) L2=some (.lst ((b.set pl (cs.length:Nat)).map V.int)):=by rw[Qb,List.map_set]
 generalize upd H3 L2 (.lst ((b.map V.int).set pl (V.int ((cs.length:Nat):Int))))=H4 at s4 e1 e2⊢
 refine⟨_,rfl,(S.same s4).ob (by simp) ⟨_,rfl,_,rfl,by show 2<=sizeLine;decide,fun t ht=>?_⟩⟩
 have sT:=Qc ht (.tup [V.ref L1,V.ref L2])
 have s5:=s4.trans sT
 refine⟨p,t,rs,cs,_,_,rfl,S.same s5,⟨L1,L2,Qr Qb,.inl (Qi (sT _ _ e1)),.inl (Qi (sT _ _ e2))⟩,by rw[kJf];exact la,by rw[kJf];exact lb,hrl,h1,h2,fun H' s6 nt=>q0 H' (s5.trans s6) nt,fun p' a' b' H' s6 pl' fo ca=>q p' a' b' H' (s5.trans s6) pl' fo ca⟩
abbrev Qab:Stmt:=top 6
def OftI(cs:List Int)(kvs:List (Key×V)):Prop:=∀c:Int,valV kvs (.inl c)=if c∈cs then some (.int (cs.count c:Nat))else none
theorem Qnx{cs:List Int}{kvs:List (Key×V)}(h:OftI cs kvs)(c:Int):∃z:Int,(valV kvs (.inl c)).getD (.int 0)=.int z/\OftI (cs++[c]) (putK kvs (.inl c) (.int (z+1))):=by
 refine⟨(cs.count c:Nat),?_,fun j=>?_⟩
 .rw[h c]
  by_cases m:c∈cs
  .rw[if_pos m];rfl
  .rw[if_neg m,List.count_eq_zero_of_not_mem m];rfl
 .rw[Qgw,List.count_append]
  by_cases e:j=c
  .rw[e,if_pos rfl,if_pos (wJ _ (kW.mpr rfl)),List.count_singleton_self]
   rfl
  .have e2:(Sum.inl j:Key)≠.inl c:=fun z=>e (Sum.inl.inj z)
   rw[if_neg e2,h j]
   have e3:List.count j [c]=0:=List.count_eq_zero_of_not_mem fun z=>e (kW.mp z)
   rw[e3]
   by_cases m:j∈cs
   .rw[if_pos m,if_pos (jYc _ m)];rfl
   .rw[if_neg m,if_neg fun z=>(wX.mp z).elim m fun z=>e (kW.mp z)]
def Qie(K:Fg):Sp:=fun vs H Q _=>∃(l:Addr) (cs:List Int),vs=[.ref l]/\SqL K H l (cs.map V.int)/\cs.length<=1000/\∀(d:Addr) (kvs:List (Key×V)) (H':Hp),Same H H'->H' d=some (.dK kvs)->OftI cs kvs->Q (.ref d) H'
theorem scCountI:FnScope ["things","often","thing"] ["things"] (Qh Qab):=⟨rfl,rfl,rfl,Dk,rfl,Dk,Dk⟩
theorem Qra(F:Fn K mg "counted" Qab)(M:Mg mg):Cal P w K mg base 1 "counted" ["things"] (Qie K):=by
 refine Xy F scCountI (fun _ _ _ _ _ _=>bind1 (fun _=>rfl)) (fun vs H Q E h=>?_) (fun f cdv A outer s H vs Q E hr h=>?_)
 .obtain⟨l,cs,rfl,_⟩:=h
  rfl
 obtain⟨l,cs,rfl,hl,hn,q⟩:=h
 have hu:(A.deeper (PyProof.Rows.envOfC "counted" (Qh Qab) s.heap.objs.size f cdv)).units+1<cLine:=xX (xZ Dc _) hr.un
 refine⟨_,(Qg (Qo (i:=1) scCountI.nd rfl (Or.inl rfl) Qpd)
  (Qg (Yb PassesOwn.never rfl (Xj (pv 0)) (Qz (i:=2) scCountI.nd rfl (Or.inl rfl) (Or.inl rfl)) (Qm (Qtd hu (pv 1) (pv 2) (Qx Yi (Qpe hu (pv 1) (pv 2) Qj ⟨rfl,rfl,rfl,rfl⟩) Qj) rfl)))
  (Qm (Qs (pv 1))))),?_⟩
 refine Yu ?_
 intro rT3 rT2
 have hz:(1000:Nat)<sizeLine:=Dc
 refine fun d hd=>?_
 have s1:=Qc hd (.dK [])
 have hd1:upd H d (.dK []) d=some (.dK []):=Qb
 generalize upd H d (.dK [])=H1 at s1 hd1⊢
 let Pv19:Nat->St->Hp->Prop:=fun i σ H2=>∃(x:Option V) (kvs:List (Key×V)),σ=[some (.ref l),some (.ref d),x]/\H2 d=some (.dK kvs)/\OftI (cs.take i) kvs/\kvs.length<=i/\Same H H2
 refine⟨_,rfl,l,rfl,⟨_,s1.seq hl⟩,Kd (K:=K) (a:=l) (xs:=cs.map V.int) Pv19 ⟨none,[],rfl,hd1,(fun c=>rfl),jW _,s1⟩ (fun i σ H2 _ h=>?_) ?_ ?_⟩
 .obtain⟨x,kvs,rfl,rd,of,lk,s2⟩:=h
  exact s2.seq hl
 .rintro i x σ H2 e1 ⟨x',kvs,rfl,rd,of,lk,s2⟩
  obtain⟨c,er,rfl⟩:=Ze e1
  have hi:i<cs.length:=(jK.mp er).1
  obtain⟨z,ez,of2⟩:=Qnx of c
  refine⟨_,rfl,d,rfl,.inl ⟨_,.inl rd⟩,_,rfl,_,.inl ⟨kvs,.inl c,.inl rd,rfl,rfl⟩,?_⟩
  rw[ez]
  refine⟨_,_,rfl,rfl,?_⟩
  refine⟨_,rfl,_,rfl,d,_,rfl,DPut.k (k:=Sum.inl c) (v:=V.int (z+1)) rd Om,?_⟩
  refine⟨_,_,rfl,Qb,by rw[Qbn er];exact of2,jQd (Zd kvs (.inl c) _) Om,fun b o e=>?_⟩
  rw[Qk (Ql e hd)];exact s2 _ _ e
 .rintro σ H2 ⟨x,kvs,rfl,rd,of,lk,s2⟩
  rw[jX,wW]at of
  exact⟨_,rfl,q d kvs H2 s2 rd of⟩
end
end Nb
namespace L2
open PySem PySem.Spec PyProof.Rows PySem.W
end L2
namespace L2
open PySem PySem.Spec PySem.W PyProof.Rows
section
variable{prog:Program}{w:World}{A:Around}{s:Shared}{h₀:Heap}{D:Value->Prop}{r:Value->Value->Prop}{f c':Addr}{name qual x:Str}{params:Arguments}{body:Expr}{scope:Scope}{clos:List (Str×Addr)}{pm ctv:Value}
theorem Qny(hroom:A.depth<recursionLimit)(hlim:h₀.NoLimit)(hcd:h₀.CodeRec (.ref c') qual)
  (ho:h₀.get? f=some { cls:=.type "function",data:=.func (kla_fn name qual params body scope clos pm (.ref c') ctv) })
  (hbind:∀v,bindArgs (kla_fn name qual params body scope clos pm (.ref c') ctv) ⟨[v],[]⟩=pure [(x,v)]) (hloc:scope.names.lookup x=some .local) (hcell:∀y∈scope.names,y.2≠.cell) (hk:scope.kind=.function) (hco:scope.isCoroutine=false) (hgen:scope.isGenerator=false)
  (run:∀(v:Value) (g:Heap) (L:Addr) (tk:Nat) (Q:Value->Shared->Prop) (E:Value->Shared->Prop),D v->Ext h₀ g->g.Ns L (fun y=>[(x,v)].reverse.lookup y)->(∀u tk',r v u->Q u { s with heap:=g,toks:=tk' }) ->
   wpAny (model prog w) (A.deeper (envX qual scope L f (.ref c') clos)) (eval body (envX qual scope L f (.ref c') clos)) Q E { s with heap:=g,toks:=tk }) :
  FunR prog w A h₀ s (.ref f) D r:=by
 intro v h tk Q E hD hx q
 obtain⟨c2,oc,vs,t,e2,hoc,hd,hv⟩:=id hcd
 refine wpAny_call (kla_callFunE hroom (hx _ _ ho) rfl hco hgen rfl ⟨c2,oc,vs,t,e2,hx _ _ hoc,hd,hv⟩ ?_)
 rw[hbind]
 refine jJ (wpAny_newFunctionEnv hcell (fun y hy=>by rw[kW.mp hy];exact hloc) (fun h₁ hns hsb=>⟨(hlim.keeps hx).fresh _ hsb,?_⟩) hk)
 have hk₁:Ext h h₁:=fun b o e=>hsb.extBut b o (yZ (kK e)) (jZ _ e)
 show codeAny _ _ (.expr body (envX qual scope h.objs.size f (.ref c') clos)) _ _
 exact kla_codeExpr (run v h₁ h.objs.size _ _ _ hD (hx.trans hk₁) hns fun u tk' hr=>q u h₁ tk' hr hk₁)
end
def oneArg(x:Str)(p:Pos):Arguments:={ posonlyargs:=[],args:=[{ arg:=x,annotation:=none,pos:=p }],vararg:=none,kwonlyargs:=[],kw_defaults:=[],kwarg:=none,defaults:=[] }
def Qge:Scope:={ kind:=.function,names:=[("other",.local),("choice",.free)],isGenerator:=false,isCoroutine:=false,more:=[] }
section
variable{X:Cx}
theorem Qjl{a:Expr}{ta:TA}{i:Nat}{c P:Addr}{p pos kp pl pa p1 p2 p3:Pos}{k:Nat}(hr:Room k X.A)(hg:Gl X "sorted")(hm:X.mg "sorted"=none)(hcode:X.env.code=.ref c)(hC:codeHdIn X.K c P=true)(hB:BltK X.K X.mg)
  (hN:X.N[i]?=some ("choice":Str)) (hkc:X.env.kindOf "choice"=some .cell) (ha:PA X [a] ta) (hs:autoParam (starEach [a] X.env=[(false,eval a X.env)]) L2.aRfl._auto_1) :
  PE X (.Call (.Name "sorted" p) [a] [⟨some "key",.Lambda (oneArg "other" pa) (.Compare (.Name "other" p1) [.NotEq] [.Name "choice" p2] p3) Qge pl,kp⟩] pos)
   (fun σ H Q=>ta σ H fun vs H1=>∃(l:Addr) (ns:List Int) (z:Int),vs=[.ref l]/\σ[i]?=some (some (.int z))/\SqL X.K H1 l (ns.map V.int)/\ns.length<=1000/\LamT H1 P pl (X.env.qual ++ "<lambda>") /\
    ∀(m:List Int) (d:Addr) (H2:Hp),SameT H1 H2->OthT P H1 H2->m.Perm ns->H2 d=some (.lst (m.map V.int))->LamT H2 P pl (X.env.qual ++ "<lambda>")->Q (.ref d) H2):=by
 intro pins s σ H Q I h
 have C:=codeHd_of_K I.ok.mod.kin hC
 have B:=hB.of I
 refine wpAny_Call_Name_kw (Jt I hg hm (u:=.builtin "sorted") (by rfl) ?_)
 refine PyProof.Rows.callWith_kw (thn (ha pos pins s σ H _ I h) fun us s1 hqP=>?_) (he:=by rw[hs];rfl) (hplain:=by rw[hs];rfl)
 obtain⟨vs,H1,I1,r1,q1⟩:=hqP
 obtain⟨l,ns,z,rfl,hz,hq,hle,hL,q⟩:=q1
 obtain⟨m,hn,hl⟩:=I1.loc
 obtain⟨uc,rc,lk⟩:=hl i "choice" _ hN hz (.inr (.inl hkc))
 obtain⟨tz,rfl⟩:=rc
 obtain⟨cc,hcc,hcell⟩:∃cc,X.env.cells.lookup ("choice":Str)=some cc/\s1.heap.IsCell cc (some (.int z tz)):=by
  rcases lk with⟨e,_⟩ | ⟨_,cc,e1,e2⟩
  .rw[hkc]at e;cases e
  .exact⟨cc,e1,e2⟩
 have hcl:closureFor Qge X.env=pure [(("choice":Str),cc)]:=by
  unfold closureFor Qge
  simp[cellOf,hcc]
 refine kws_cons (kla_eval rfl (Qhw I1 hcode C B hcl hL fun f c' pm ctv h' tk H2 I2 S2 O2 L2' cr nf of=>kws_nil ?_))
 obtain⟨u',rfl,ru⟩:=r1.one
 cases ru
 have hq2:SqL X.K H2 l (ns.map V.int):=by
  rcases hq with e | e
  .rcases e with e | ⟨o,e⟩
   .exact .inl (.inl (S2 _ _ (fun _ z=>nomatch z) e))
   .exact .inl (.inr ⟨o,S2 _ _ (fun _ z=>nomatch z) e⟩)
  .exact .inr e
 obtain⟨its,r,pp,hz2⟩:=I2.list hq2
 obtain⟨m2,hn2,hl2⟩:=I2.loc
 obtain⟨uc2,rc2,lk2⟩:=hl2 i "choice" _ hN hz (.inr (.inl hkc))
 obtain⟨tz2,rfl⟩:=rc2
 have hcell2:h'.IsCell cc (some (.int z tz2)):=by
  rcases lk2 with⟨e,_⟩ | ⟨_,c3,e1,e2⟩
  .rw[hkc]at e;cases e
  .rw[hcc]at e1;cases e1;exact e2
 have li:its.length=ns.length:=by rw[<-r.length,jX]
 have hf:=Qny (prog:=X.prog) (w:=X.w) (A:=X.A.in1.in1) (s:={ s1 with heap:=h',toks:=tk }) (h₀:=h') (D:=fun v=>v∈its) (r:=fun _ u=>∃b,u=.bool b) (x:="other") hr.depth I2.nolimit cr of (fun v=>rfl) rfl Dc rfl rfl rfl (by
  rintro v g L tk2 Q2 E2 hv hx hns q2
  obtain⟨n,tn,rfl⟩:∃n t,v=.int n t:=by
   obtain⟨j,hj⟩:=jZc.mp hv
   obtain⟨y,ey⟩:∃y,(ns.map V.int)[j]?=some y:=⟨_,gE (by rw[jX,<-li];exact(jK.mp hj).1)⟩
   obtain⟨u,eu,ru⟩:=r.get ey
   rw[hj]at eu;cases eu
   rw[jV]at ey
   cases e:ns[j]? with
   |none=>rw[e]at ey;cases ey
   |some n=>rw[e]at ey;cases ey;obtain⟨t,rfl⟩:=ru;exact⟨n,t,rfl⟩
  refine wpAny_Compare1 (wpAny_Name (wpAny_loadName_local rfl rfl hns (v:=.int n tn) rfl ?_) Dc) rfl
  refine wpAny_Name (wpAny_loadName_free rfl rfl (c:=cc) rfl (v:=.int z tz2) (by obtain⟨o,e,d⟩:=hcell2;exact⟨o,hx _ _ e,d⟩) ?_) Dc
  exact ne_int (q2 _ _ ⟨_,rfl⟩))
 refine Qnn hf pp.isList (by rw[li];lia) fun d h2 tk2 out cn x2 ge od pm2=>?_
 obtain⟨m,hm2⟩:∃m:List Int,m.Perm ns/\Vals (m.map V.int) out.toList:=by
  have:∀(as bs:List Value),as.Perm bs->∀ns:List Int,Vals (ns.map V.int) bs->∃m:List Int,m.Perm ns/\Vals (m.map V.int) as:=by
   intro as bs pq
   induction pq with
   |nil=>intro ns rv;cases ns with | nil=>exact⟨[],.refl _,.nil⟩ | cons=>cases rv
   |cons x _ ih=>
    intro ns rv
    cases ns with
    |nil=>cases rv
    |cons n ns=>cases rv with | cons r0 rv=>obtain⟨m,p,y⟩:=ih ns rv;exact⟨n::m,p.cons n,.cons r0 y⟩
   |swap x y l=>
    intro ns rv
    cases ns with
    |nil=>cases rv
    |cons n ns=>
     cases rv with
     |cons r0 rv=>
      cases ns with
      |nil=>cases rv
      |cons n2 ns=>cases rv with | cons r1 rv=>exact⟨n2::n::ns,.swap ..,.cons r1 (.cons r0 rv)⟩
   |trans _ _ i1 i2=>
    intro ns rv
    obtain⟨m,p,y⟩:=i2 ns rv
    obtain⟨m',p',y'⟩:=i1 m y
    exact⟨m',p'.trans p,y'⟩
  exact this _ _ pm2 ns r
 have fd:H2 d=none:=I2.hok.fresh ge
 have lm:m.length=ns.length:=hm2.1.length_eq
 refine⟨.ref d,upd H2 d (.lst (m.map V.int)),I2.laid (t':=tk2) (fun b u e=>x2 b u e) ge ⟨by rw[jX,lm];exact jQd hle Dc,_,cn,hm2.2,by rw[zXe];exact od⟩,rfl,q m d _ (fun a o n e=>?_) (fun a o n e=>?_) hm2.1 Qb ?_⟩
 .have e2:=S2 a o n e
  rw[Qk (fun z=>by rw[z,fd]at e2;cases e2)]
  exact e2
 .have e2:=O2 a o n e
  rw[Qk (fun z=>by rw[z,fd]at e2;cases e2)]
  exact e2
 .obtain⟨ps,eP,hh⟩:=L2'
  refine⟨ps,by rw[Qk (fun z=>by rw[z,fd]at eP;cases eP)];exact eP,?_⟩
  rcases hh with e | ⟨c2,oc,vs,t,e1,e2,e3,e4⟩
  .exact .inl e
  .exact .inr ⟨c2,oc,vs,t,e1,by rw[Qk (fun z=>by rw[z,fd]at e2;cases e2)];exact e2,e3,e4⟩
end
theorem Qgf(a v d:Value):argsOk "min" ⟨[a],[(Str.ofString "key",v),(Str.ofString "default",d)]⟩:=by unfold argsOk;kernel_rfl
section
variable{prog:Program}{w:World}{A:Around}{R:Result->Shared->Prop}{I q:Addr}{fp wr:List Addr}{n:Nat}{P:Nat->Value->Prop}{St:Nat->Heap->Prop}{s0:Shared}{h₀:Heap}{d:Value}
theorem Qnz(W:Walks prog w A.in1 I fp wr n P St)(hkey:FunR prog w A.in1 h₀ s0 (.ref q) (fun v=>∃i,P i v) fun _ u=>∃k t,u=.int k t)(S:Addr)(hSf:S∉fp)(ho:∀b o,h₀.get? b=some o->b∉wr/\b≠S)
  (hR:∀(h:Heap) (tk:Nat) i v,P i v->Ext h₀ h->R (.ok (.ret v)) { s0 with heap:=h,toks:=tk }) :
  ∀(k j:Nat) (s:Shared) (vb:Value) (kb:Int) (tb:Tok) (c i:Nat),n-(j+1)=k->j+1<=n->St (j+1) s.heap->P i vb->Ext h₀ s.heap ->
  s.heap.get? S=some { cls:=.type "list",dict:=none,data:=.seq #[vb,.int kb tb] c,slots:=#[] } ->
  (∃h tk,s={ s0 with heap:=h,toks:=tk }) ->
  codeAny (model prog w) A (.builtin "min.loop" ⟨[.ref I,.ref q,.ref S],[(Str.ofString "default",d)]⟩) R s:=by
 have hSw:S∉wr:=fun h=>hSf (W.sub _ h)
 have hname:(toString "min" ++ toString ".loop":String)="min.loop":=Dc
 intro k
 induction k with
 |zero=>
  rintro j _ vb kb tb c i hk hj hst hPb hkp hS ⟨h0,tk0,rfl⟩
  have hin:j+1=n:=Om
  refine codeAny_builtin F.entry_min_loop ?_
  rw[Around.under_plainId F.plain_min_loop _]
  show wpAny _ A.in1 (seqItems? (.ref S) >>= _) _ _ _
  refine jQ (wpAny_seqItems hS rfl ?_)
  show wpAny _ A.in1 (tryCatch (pyNext (.ref I)) _ >>= _) _ _ _
  refine jQ (wpAny_tryCatch (W.done _ _ _ (hin▸hst) fun h' tk hk'=>?_))
  have hS':=hk' S _ hSw hS
  show wpAny _ A.in1 (updateSeq S (fun _=>#[]) >>= _) _ _ _
  refine jQ ?_
  refine wpAny_updateSeq hS' rfl (jQ (wpAny_letGo (jJ ?_)))
  exact hR _ _ i vb hPb fun b o e=>(jYe _ _ (Ne.symm (ho b o e).2)).trans (hk' b o (ho b o e).1 (hkp b o e))
 |succ k ih=>
  rintro j _ vb kb tb c i hk hj hst hPb hkp hS ⟨h0,tk0,rfl⟩
  have hlt:j+1<n:=Om
  refine codeAny_builtin F.entry_min_loop ?_
  rw[Around.under_plainId F.plain_min_loop _]
  show wpAny _ A.in1 (seqItems? (.ref S) >>= _) _ _ _
  refine jQ (wpAny_seqItems hS rfl ?_)
  show wpAny _ A.in1 (tryCatch (pyNext (.ref I)) _ >>= _) _ _ _
  refine jQ (wpAny_tryCatch (W.item (j+1) _ _ _ hlt hst fun v h' tk hP hst' hk'=>?_))
  have hS':=hk' S _ hSw hS
  have hkp':Ext h₀ h':=fun b o e=>hk' b o (ho b o e).1 (hkp b o e)
  show wpAny _ A.in1 (tryCatch (holding [v] (call (.ref q) [v])) _ >>= _) _ _ _
  refine jQ (wpAny_tryCatch (wpAny_holding (hkey v _ _ _ _ ⟨_,hP⟩ hkp' fun u h2 tk2 ⟨k2,t2,hu⟩ x2=>?_)))
  subst hu
  have hS2:=x2 S _ hS'
  have hst2:=W.frame _ _ _ hst' fun b hbf o e=>x2 b o e
  have hkp2:=hkp'.trans x2
  show wpAny _ A.in1 (tryCatch (holding [v,.int k2 t2] (richCompare .Lt (.int k2 t2) (.int kb tb) >>= _)) _ >>= _) _ _ _
  refine jQ (wpAny_tryCatch (wpAny_holding (jQ (CmpOf.ints_lt (prog:=prog) (w:=w) (A:=A.in1) (P:=fun i v=>∃t,v=.int (if i=0 then k2 else kb) t) (fun i=>if i=0 then k2 else kb) (fun i v h=>h) 0 1 _ _ _ _ _ ⟨t2,rfl⟩ ⟨tb,rfl⟩ ?_))))
  refine jQ (wpAny_holding (wpAny_truthy_bool ?_))
  refine jQ (wpAny_letGo (jJ ?_))
  split
  .refine jQ ?_
   refine wpAny_updateSeq hS2 rfl (jQ (wpAny_letGo ?_))
   rw[hname]
   refine jJ ⟨kQd F.plain_min_loop _,ih (j+1) _ v k2 t2 _ (j+1) Om hlt (W.frame _ _ _ hst2 fun b hbf o e=>?_) hP (fun b o e=>?_) (jJc _ hS2 rfl) ⟨_,_,rfl⟩⟩
   .exact(jYe _ _ (fun h:S=b=>hSf (by rw[h];exact hbf))).trans e
   .exact(jYe _ _ (Ne.symm (ho b o e).2)).trans (hkp2 b o e)
  .refine jQ (wpAny_letGo ?_)
   rw[hname]
   exact jJ ⟨kQd F.plain_min_loop _,ih (j+1) _ vb kb tb c i Om hlt hst2 hPb hkp2 hS2 ⟨_,_,rfl⟩⟩
theorem Qjm(W:Walks prog w A.in1 I fp wr n P St)(hkey:FunR prog w A.in1 h₀ s0 (.ref q) (fun v=>∃i,P i v) fun _ u=>∃k t,u=.int k t)(S:Addr)(hSf:S∉fp)(ho:∀b o,h₀.get? b=some o->b∉wr/\b≠S){c:Nat}{h:Heap}{tk:Nat}(hst:St 0 h)(hkp:Ext h₀ h)
  (hS:h.get? S=some { cls:=.type "list",dict:=none,data:=.seq #[] c,slots:=#[] })
  (h0:n=0->∀(h:Heap) (tk:Nat),Ext h₀ h->R (.ok (.ret d)) { s0 with heap:=h,toks:=tk })
  (hR:0<n->∀(h:Heap) (tk:Nat) i v,P i v->Ext h₀ h->R (.ok (.ret v)) { s0 with heap:=h,toks:=tk }) :
  codeAny (model prog w) A (.builtin "min.loop" ⟨[.ref I,.ref q,.ref S],[(Str.ofString "default",d)]⟩) R { s0 with heap:=h,toks:=tk }:=by
 have hSw:S∉wr:=fun h=>hSf (W.sub _ h)
 have hname:(toString "min" ++ toString ".loop":String)="min.loop":=Dc
 refine codeAny_builtin F.entry_min_loop ?_
 rw[Around.under_plainId F.plain_min_loop _]
 show wpAny _ A.in1 (seqItems? (.ref S) >>= _) _ _ _
 refine jQ (wpAny_seqItems hS rfl ?_)
 show wpAny _ A.in1 (tryCatch (pyNext (.ref I)) _ >>= _) _ _ _
 rcases Nat.eq_zero_or_pos n with e0 | hn
 .refine jQ (wpAny_tryCatch (W.done _ _ _ (e0▸hst) fun h' tk hk'=>?_))
  show wpAny _ A.in1 (rule _ >>= fun _=>ret d) _ _ _
  exact jQ (wpAny_rule (jJ (h0 e0 h' tk fun b o e=>hk' b o (ho b o e).1 (hkp b o e))))
 refine jQ (wpAny_tryCatch (W.item 0 _ _ _ hn hst fun v h' tk hP hst' hk'=>?_))
 have hS':=hk' S _ hSw hS
 have hkp':Ext h₀ h':=fun b o e=>hk' b o (ho b o e).1 (hkp b o e)
 show wpAny _ A.in1 (tryCatch (holding [v] (call (.ref q) [v])) _ >>= _) _ _ _
 refine jQ (wpAny_tryCatch (wpAny_holding (hkey v _ _ _ _ ⟨_,hP⟩ hkp' fun u h2 tk2 ⟨k2,t2,hu⟩ x2=>?_)))
 subst hu
 have hS2:=x2 S _ hS'
 have hst2:=W.frame _ _ _ hst' fun b hbf o e=>x2 b o e
 have hkp2:=hkp'.trans x2
 show wpAny _ A.in1 (updateSeq S (fun _=>#[v,.int k2 t2]) >>= _) _ _ _
 refine jQ ?_
 refine wpAny_updateSeq hS2 rfl ?_
 rw[hname]
 refine jJ ⟨kQd F.plain_min_loop _,Qnz W hkey S hSf ho (hR hn) _ 0 _ v k2 t2 _ 0 rfl hn (W.frame _ _ _ hst2 fun b hbf o e=>?_) hP (fun b o e=>?_) (jJc _ hS2 rfl) ⟨_,_,rfl⟩⟩
 .exact(jYe _ _ (fun h:S=b=>hSf (by rw[h];exact hbf))).trans e
 .exact(jYe _ _ (Ne.symm (ho b o e).2)).trans (hkp2 b o e)
theorem Quv{E:Value->Shared->Prop}{l:Addr}{vs:List Value}{Q:Value->Shared->Prop}(hh:A.handled=none)(hl:s0.heap.IsList l vs.toArray)
  (hkey:FunR prog w A.in1 s0.heap s0 (.ref q) (fun v=>v∈vs) fun _ u=>∃k t,u=.int k t)
  (h0:vs=[]->∀(h':Heap) (tk:Nat),Ext s0.heap h'->Q d { s0 with heap:=h',toks:=tk })
  (h:∀(h':Heap) (tk:Nat) v,v∈vs->Ext s0.heap h'->Q v { s0 with heap:=h',toks:=tk }) :
  wpAny (model prog w) A (call (.builtin "min") [.ref l] [(Str.ofString "key",.ref q),(Str.ofString "default",d)]) Q E s0:=by
 have hname:(toString "min" ++ toString ".loop":String)="min.loop":=Dc
 have hlt:l<s0.heap.objs.size:=by obtain⟨_,e,_⟩:=id hl;exact kK e
 refine kmk_tree PySem.F.kind_min PySem.F.plain_min PySem.F.entry_min (Qgf _ _ _) ?_
 show wpAny _ A.in1 (Builtin.Builtins.bindParams "min" ["key","default"] 0 ⟨[],[(Str.ofString "key",.ref q),(Str.ofString "default",d)]⟩ >>= _) _ _ s0
 refine jQ (wpAny_of_eq (show Builtin.Builtins.bindParams "min" ["key","default"] 0 ⟨[],[(Str.ofString "key",.ref q),(Str.ofString "default",d)]⟩=pure [some (.ref q),some d]from rfl) ?_)
 refine jQ (jJ ?_)
 refine jQ (wpAny_pyIter_list hl ?_)
 refine jQ (wpAny_newObj_type ?_)
 rw[hname]
 have W:=Walks.list (prog:=prog) (w:=w) (A:=A.in1) hh s0.heap.objs.size l (yZ hlt) vs.toArray
 have hsz:vs.toArray.size=vs.length:=kJ ..
 have sz:(s0.heap.push { cls:=.type "list_iterator",data:=.fields #[.ref l,.int 0 0] }).objs.size=s0.heap.objs.size+1:=jYf ..
 refine jJ ⟨kQd F.plain_min_loop _,Qjm (h₀:=s0.heap) (s0:=s0) W (fun v h tk Q E ⟨i,hi⟩=>hkey v h tk Q E (kY (by simpa using hi))) _ (fun hm=>?_) (fun b o e=>⟨fun hm=>?_,fun z=>?_⟩) (W.frame 0 (s0.heap.push { cls:=.type "list_iterator",data:=.fields #[.ref l,.int 0 0] }) _ ⟨⟨_,kX _ rfl,rfl,rfl⟩,hl.push _⟩ fun b _ o e=>jZ _ e) (fun b o e=>jZ _ (jZ _ e)) (kX _ rfl) (fun e0 h' tk x=>?_) fun hn h' tk i v hP x=>?_⟩
 .rcases yY.mp hm with z | z
  .rw[sz]at z;exact absurd z (kJa (kQb _))
  .have e:=kW.mp z
   exact absurd hlt (by rw[<-e,sz];exact Nat.not_lt.mpr (kQe _))
 .rw[kW.mp hm]at e
  exact absurd (kK e) (jJe _)
 .have:=kK e
  rw[z,sz]at this
  exact absurd this (Nat.not_lt.mpr (kQe _))
 .exact h0 (xJ (by rw[<-hsz];exact e0)) h' tk x
 .exact h h' tk v (kY (by simpa using hP)) x
end
theorem SqL.sameT{K:Fg}{H H':Hp}{l:Addr}{xs:List V}(h:SqL K H l xs)(S:SameT H H'):SqL K H' l xs:=by
 rcases h with e | e
 .rcases e with e | ⟨o,e⟩
  .exact .inl (.inl (S _ _ (fun _ z=>nomatch z) e))
  .exact .inl (.inr ⟨o,S _ _ (fun _ z=>nomatch z) e⟩)
 .exact .inr e
theorem Inv.inCell{X:Cx}{pins:List (Addr×Obj)}{σ:St}{H:Hp}{s:Shared}{i:Nat}{x:Str}{v:V}(I:Inv X pins σ H s)(hN:X.N[i]?=some x)(hk:X.env.kindOf x=some .cell)(e:σ[i]?=some (some v)) :
  ∃c u,RelV v u/\X.env.cells.lookup x=some c/\s.heap.IsCell c (some u):=by
 obtain⟨m,hn,hl⟩:=I.loc
 obtain⟨u,r,lk⟩:=hl i x v hN e (.inr (.inl hk))
 rcases lk with⟨e1,_⟩ | ⟨_,c,e1,e2⟩
 .rw[hk]at e1;cases e1
 .exact⟨c,u,r,e1,e2⟩
theorem Qaz{h h':Heap}{c:Addr}{v:Option Value}(x:Ext h h')(y:h.IsCell c v):h'.IsCell c v:=by
 obtain⟨o,e,d⟩:=y
 exact⟨o,x _ _ e,d⟩
def Quw:Scope:={ kind:=.function,names:=[("choice",.local),("colours",.free),("often",.free)],isGenerator:=false,isCoroutine:=false,more:=[] }
section
variable{X:Cx}
theorem Qux{a:Expr}{jn:Nat}{ta:TA}{i j:Nat}{c P:Addr}{p pos kp kp2 pl pa p1 p2 p3 p4 p5 pd:Pos}{k:Nat}(hr:Room k X.A)(hc:X.calm=true)(hg:Gl X "min")(hm:X.mg "min"=none)(hcode:X.env.code=.ref c)(hC:codeHdIn X.K c P=true)(hB:BltK X.K X.mg)
  (hNi:X.N[i]?=some ("colours":Str)) (hki:X.env.kindOf "colours"=some .cell) (hNj:X.N[j]?=some ("often":Str)) (hkj:X.env.kindOf "often"=some .cell) (ha:PA X [a] ta) (hs:autoParam (starEach [a] X.env=[(false,eval a X.env)]) L2.aRfl._auto_1) :
  PE X (.Call (.Name "min" p) [a] [⟨some "key",.Lambda (oneArg "choice" pa) (.Subscript (.Name "often" p1) (.Subscript (.Name "colours" p2) (.Name "choice" p3) p4) p5) Quw pl,kp⟩,⟨some "default",.Constant .none jn pd,kp2⟩] pos)
   (fun σ H Q=>ta σ H fun vs H1=>∃(l cl d:Addr) (ns cs:List Int) (kvs:List (Key×V)),vs=[.ref l]/\σ[i]?=some (some (.ref cl))/\σ[j]?=some (some (.ref d))/\SqL X.K H1 l (ns.map V.int)/\SqL X.K H1 cl (cs.map V.int)/\H1 d=some (.dK kvs) /\
    (∀n∈ns,0<=n/\∃c k,cs[n.toNat]?=some c/\valV kvs (.inl c)=some (.int k))/\LamT H1 P pl (X.env.qual ++ "<lambda>") /\
    ∀(v:V) (H2:Hp),SameT H1 H2->OthT P H1 H2->(ns=[]->v=.non)->(ns≠[]->∃n∈ns,v=.int n)->LamT H2 P pl (X.env.qual ++ "<lambda>")->Q v H2):=by
 intro pins s σ H Q I h
 have C:=codeHd_of_K I.ok.mod.kin hC
 have B:=hB.of I
 refine wpAny_Call_Name_kw (Jt I hg hm (u:=.builtin "min") (by rfl) ?_)
 refine PyProof.Rows.callWith_kw (thn (ha pos pins s σ H _ I h) fun us s1 hqP=>?_) (he:=by rw[hs];rfl) (hplain:=by rw[hs];rfl)
 obtain⟨vs,H1,I1,r1,q1⟩:=hqP
 obtain⟨l,cl,d,ns,cs,kvs,rfl,hi,hj,hq,hqc,hqd,hall,hL,q⟩:=q1
 obtain⟨cc,uc,rc,hcc,_⟩:=I1.inCell hNi hki hi
 obtain⟨co,uo,ro,hco,_⟩:=I1.inCell hNj hkj hj
 cases rc
 cases ro
 have hcl:closureFor Quw X.env=pure [(("often":Str),co),(("colours":Str),cc)]:=by
  unfold closureFor Quw
  simp[cellOf,hcc,hco]
 refine kws_cons (kla_eval rfl (Qhw I1 hcode C B hcl hL fun f c' pm ctv h' tk H2 I2 S2 O2 L2' cr nf of=>?_))
 refine kws_cons (Constant_none (kws_nil ?_))
 obtain⟨u',rfl,ru⟩:=r1.one
 cases ru
 have hq2:=hq.sameT S2
 have hqc2:=hqc.sameT S2
 have hqd2:=S2 d (.dK kvs) (fun _ z=>nomatch z) hqd
 obtain⟨its,r,pp,hz2⟩:=I2.list hq2
 obtain⟨itc,rcs,pc,hz3⟩:=I2.list hqc2
 obtain⟨_,_,dvs,rel,dd⟩:=dk_of I2.hok hqd2
 obtain⟨cc2,uc2,rc2,hcc2,ce⟩:=I2.inCell hNi hki hi
 obtain⟨co2,uo2,ro2,hco2,oe⟩:=I2.inCell hNj hkj hj
 rw[hcc]at hcc2
 rw[hco]at hco2
 cases hcc2
 cases hco2
 cases rc2
 cases ro2
 have li:its.length=ns.length:=by rw[<-r.length,jX]
 have lc:itc.length=cs.length:=by rw[<-rcs.length,jX]
 have item:∀v∈its,∃n t,v=.int n t/\n∈ns:=by
  intro v hv
  obtain⟨j,hj⟩:=jZc.mp hv
  obtain⟨y,ey⟩:∃y,(ns.map V.int)[j]?=some y:=⟨_,gE (by rw[jX,<-li];exact(jK.mp hj).1)⟩
  obtain⟨u,eu,ru⟩:=r.get ey
  rw[hj]at eu;cases eu
  rw[jV]at ey
  cases e:ns[j]? with
  |none=>rw[e]at ey;cases ey
  |some n=>rw[e]at ey;cases ey;obtain⟨t,rfl⟩:=ru;exact⟨n,t,rfl,kY e⟩
 have hf:=Qny (prog:=X.prog) (w:=X.w) (A:=X.A.in1) (s:={ s1 with heap:=h',toks:=tk }) (h₀:=h') (D:=fun v=>v∈its) (r:=fun _ u=>∃k t,u=.int k t) (x:="choice") hr.depth I2.nolimit cr of (fun v=>rfl) rfl Dc rfl rfl rfl (by
  rintro v g L tk2 Q2 E2 hv hx hns q2
  obtain⟨n,tn,rfl,hn⟩:=item v hv
  obtain⟨n0,cz,kz,hcz,hkz⟩:=hall n hn
  refine Qfc (T:="dict") slot_dict_getitem.lookup (fun _ _=>rfl) (wpAny_Name (wpAny_loadName_free rfl rfl (c:=co) rfl (Qaz hx oe) ?_) Dc)
  refine Subscript_ (wpAny_Name (wpAny_loadName_free rfl rfl (c:=cc) rfl (Qaz hx ce) ?_) Dc)
  refine wpAny_Name (wpAny_loadName_local rfl rfl hns (v:=.int n tn) rfl ?_) Dc
  obtain⟨uz,ez,rz⟩:=rcs.get (show(cs.map V.int)[n.toNat]?=some (.int cz)by rw[jV,hcz];rfl)
  obtain⟨tz,rfl⟩:=rz
  have dd2:=dd.keep hx
  obtain⟨w',hw,rw'⟩:=RelO.some_of (v:=V.int kz) (o:=valueAt dvs (.inl cz)) (by rw[<-hkz];exact rel.val (.inl cz))
  obtain⟨tw,rfl⟩:=rw'
  have lt:=(jK.mp ez).1
  refine item_listR (x:=.int cz tz) (u:=tn) (by obtain⟨o,e,d⟩:=pc.isList;exact⟨o,hx _ _ e,d⟩) n0 (by have:=Qcj;have lm:(cs.map V.int).length=cs.length:=jX ..;lia) (by simpa using ez) ⟨dd2.typeIs,?_⟩ (by rfl)
  exact wpAny_getItem_of (k:=Sum.inl cz) (Qce cz tz) dd2.mapOf hw (q2 _ _ ⟨_,_,rfl⟩))
 refine Quv (I.ok.hd hc) pp.isList hf (fun e0 h2 tk2 x2=>?_) fun h2 tk2 v hv x2=>?_
 .have e1:ns=[]:=xJ (by rw[<-li,e0];rfl)
  exact⟨.non,H2,I2.kept x2,rfl,q _ _ S2 O2 (fun _=>rfl) (fun z=>absurd e1 z) L2'⟩
 .obtain⟨n,t,rfl,hn⟩:=item v hv
  exact⟨.int n,H2,I2.kept x2,⟨t,rfl⟩,q _ _ S2 O2 (fun z=>by rw[z]at hn;cases hn) (fun _=>⟨n,hn,rfl⟩) L2'⟩
end
end L2
namespace Nb
open PySem L2
abbrev Qen:Stmt:=top 9
section
variable{P:Program}{w:World}{c T:Addr}{K:Fg}{mg:Str->Option Value}{base:Heap}
abbrev posL:Pos:=⟨95,28,95,65⟩
def Qoa(K:Fg)(T:Addr):Sp:=fun vs H Q _=>∃(l:Addr) (cs:List Int),vs=[.ref l]/\SqL K H l (cs.map V.int)/\cs.length<=1000/\LamT H T posL "loose.<locals>.<lambda>" /\
 ∀(v:V) (H':Hp),SameT H H'->OthT T H H'->LamT H' T posL "loose.<locals>.<lambda>"->(v=.non->∀c∈cs,cs.count c<=1)->(v≠.non->∃i:Nat,v=.int (i:Nat)/\i<cs.length/\1<cs.count (cs.getD i 0))->Q v H'
theorem Xm{H H':Hp}(s:Same H H'):SameT H H':=fun a o _ e=>s a o e
theorem Qac{H H':Hp}{P:Addr}{pos:Pos}{q:Str}(s:Same H H')(h:LamT H P pos q):LamT H' P pos q:=by
 obtain⟨ps,e,hh⟩:=h
 refine⟨ps,s _ _ e,?_⟩
 rcases hh with z | ⟨c2,oc,vs,t,e1,e2,e3,e4⟩
 .exact .inl z
 .exact .inr ⟨c2,oc,vs,t,e1,s _ _ e2,e3,e4⟩
theorem Vi:∀{ys:List V} {ks:List Nat},Paired (fun v (x:Nat)=>v=V.int (x:Int)) ys ks->ys=ks.map (V.int∘fun k:Nat=>(k:Int))
 |_,_,.nil=>rfl
 |_,_,.cons h t=>by rw[h,zW,<-Vi t];rfl
theorem Qif(cs:List Int):cs.map V.int=(List.range cs.length).map fun k=>V.int (cs.getD k 0):=by
 refine jKd fun i=>?_
 rw[jV,jV]
 by_cases h:i<cs.length
 .rw[xY h,gE h]
  show some (V.int _)=some (V.int (cs.getD i 0))
  rw[jY,gE h];rfl
 .rw[jQf Om,jQf (by rw[kQ];lia)];rfl
theorem scLoose:FnScope ["colours","often","choices"] ["colours"] (Qh Qen):=⟨rfl,rfl,rfl,Dk,rfl,Dk,Dk⟩
theorem Quy(F:FnL K mg "loose" Qen c T)(hC:PySem.W.codeHdIn K c T=true)(hB:BltK K mg)(M:Mg mg)(c_counted:Cal P w K mg base 1 "counted" ["things"] (Qie K)):Cal P w K mg base 2 "loose" ["colours"] (Qoa K T):=by
 refine Quh F scLoose (fun _ _ _ _ _ _=>bind1 (fun _=>rfl)) (fun vs H Q E h=>?_) (fun f A outer s H vs Q E hr h=>?_)
 .obtain⟨l,cs,rfl,_⟩:=h
  rfl
 obtain⟨l,cs,rfl,hl,hn,hL,q⟩:=h
 have hu:(A.deeper (PyProof.Rows.envOfC "loose" (Qh Qen) s.heap.objs.size f (.ref c))).units+1<cLine:=xX (xZ Dc _) hr.un
 refine⟨_,(Qg (Qo (i:=1) scLoose.nd rfl (Or.inr rfl) (Xp c_counted (hr.mono Dc) (Qa (pv 0) Qf)))
  (Qg (Qbd (i:=2) ["choice","colour","often"] [none,none,some 1] rfl scLoose.nd rfl (Or.inl rfl) (Wd true rfl M.enumerate_ (Qa (pv 0) Qf)) (fun _ _ _=>(Yf (K:=K) (i:=0) (j:=1) rfl rfl (show(["choice","colour","often"]:List Str).Nodup by decide +kernel) rfl rfl rfl rfl)) (fun _ _ _=>(Qkr (Xc Qsp (Qtc hu (pv 2) (pv 1) (fun _ _=>rfl)) Qj (Xf _)))) (fun _ _ _=>(pv 0)))
  (Qm (Qs (Qux (i:=0) (j:=1) hr rfl rfl M.min rfl hC hB rfl rfl rfl rfl (Qa (pv 2) Qf)))))),?_⟩
 refine Yu ?_
 intro rT3 rT2
 have hz:(1000:Nat)<sizeLine:=Dc
 have mem:∀k,k<cs.length->cs.getD k 0∈cs:=fun k hk=>by
  rw[jY,gE hk]
  exact jXf _
 refine⟨_,rfl,l,cs,rfl,hl,hn,fun d kvs H1 s1 hd of=>?_⟩
 have hl1:=s1.seq hl
 have hl2:=hl1
 rw[Qif]at hl2
 refine⟨_,rfl,l,rfl,⟨_,hl1⟩,fun D hD=>?_⟩
 refine Ww (K:=K) (xs:=List.range cs.length) (v1:=fun k=>.int ((k:Nat):Int)) (v2:=fun k=>.int (cs.getD k 0)) (fun _ v x=>v=.int ((x:Nat):Int)) (fun k=>k) (fun k=>decide (1<cs.count (cs.getD k 0))) rfl (Jp (m:=true) fun H2 s=>s.seq hl2) (by rw[kQ];lia) hD (fun _ _ h=>h) (fun h=>h) (fun k hk H2 s2 P h=>?_) (fun k hk c H2 s2 hD1 P h=>?_) fun H2 ys s2 h1 hp=>?_
 .have hv:=of (cs.getD k 0)
  rw[if_pos (mem k (yQ.mp hk))]at hv
  refine⟨_,rfl,_,rfl,d,_,rfl,.inl ⟨kvs,.inl (cs.getD k 0),.inl (s2 _ _ hd),rfl,hv.symm⟩,_,_,rfl,rfl,_,rfl,?_⟩
  show P (decide ((1:Int)<((cs.count (cs.getD k 0):Nat):Int))) H2
  rw[show decide ((1:Int)<((cs.count (cs.getD k 0):Nat):Int))=decide (1<cs.count (cs.getD k 0))from decide_eq_decide.mpr ⟨fun z=>Om,fun z=>Om⟩]
  exact h H2 fun _ _ z=>z
 .exact⟨_,rfl,h _ _ (fun _ _ z=>z) rfl⟩
 .have s12:=s1.trans s2
  have ey:ys=((((List.range cs.length).filter fun k=>decide (1<cs.count (cs.getD k 0))).map fun k:Nat=>(k:Int))).map V.int:=by
   rw[jQb]
   rw[List.map_id']at hp
   exact Vi hp
  have mi:∀{z:Int},z∈(((List.range cs.length).filter fun k=>decide (1<cs.count (cs.getD k 0))).map fun k:Nat=>(k:Int))->∃k:Nat,z=(k:Int)/\k<cs.length/\1<cs.count (cs.getD k 0):=fun hz=>by
   obtain⟨k,hk,rfl⟩:=zQ.mp hz
   obtain⟨h1,h2⟩:=wK.mp hk
   exact⟨k,rfl,yQ.mp h1,jJb h2⟩
  refine⟨_,rfl,D,l,d,_,cs,kvs,rfl,rfl,rfl,Qi (h1.trans (congrArg (fun y=>some (HO.lst y)) ey)),s12.seq hl,s2 _ _ hd,fun z hz=>?_,Qac s12 hL,fun v H3 S3 O3 e1 e2 L3=>?_⟩
  .obtain⟨k,rfl,k1,_⟩:=mi hz
   have hv:=of (cs.getD k 0)
   rw[if_pos (mem k k1)]at hv
   refine⟨Om,cs.getD k 0,_,?_,hv⟩
   rw[jQe,jY,gE k1];rfl
  .refine q v H3 ((Xm s12).trans S3) (fun b ps n e=>O3 b ps n (s12 _ _ e)) L3 (fun z c hc=>?_) fun z=>?_
   .refine kXb fun w=>?_
    obtain⟨k,hk,rfl⟩:=jXc hc
    have ec:cs.getD k 0=cs[k]:=by rw[jY,gE hk];rfl
    have hin:(k:Int)∈(((List.range cs.length).filter fun k=>decide (1<cs.count (cs.getD k 0))).map fun k:Nat=>(k:Int)):=zQ.mpr ⟨k,wK.mpr ⟨yQ.mpr hk,xW (by rw[ec];exact w)⟩,rfl⟩
    obtain⟨n,_,e⟩:=e2 (fun y=>by rw[y]at hin;cases hin)
    rw[z]at e;cases e
   .by_cases y:(((List.range cs.length).filter fun k=>decide (1<cs.count (cs.getD k 0))).map fun k:Nat=>(k:Int))=[]
    .exact absurd (e1 y) z
    .obtain⟨n,hn,rfl⟩:=e2 y
     obtain⟨k,rfl,k1,k2⟩:=mi hn
     exact⟨k,rfl,k1,k2⟩
end
abbrev Qad:Stmt:=top 4
section
variable{P:Program}{w:World}{K:Fg}{mg:Str->Option Value}{base:Heap}
theorem scKeepsT:FnScope ["problem","turn","rows","costs"] ["problem","turn"] (Qh Qad):=⟨rfl,rfl,rfl,Dk,rfl,Dk,Dk⟩
theorem Qrb(F:Fn K mg "turn_keeps" Qad)(M:Mg mg)(c_turned:Cal P w K mg base 1 "turned" ["row","turn"] (Kk K)):Cal P w K mg base 2 "turn_keeps" ["problem","turn"] (spKT K):=by
 refine Xy F scKeepsT (fun _ _ _ _ _ _=>Vn (fun _ _=>rfl)) (fun vs H Q E h=>?_) (fun f cdv A outer s H vs Q E hr h=>?_)
 .obtain⟨p,u,rs,cs,n,t,rfl,_⟩:=h
  rfl
 obtain⟨p,u,rs,cs,n,t,rfl,pr,hu1,T,hn,hrl,hcl,h60,q⟩:=h
 have hu6:(A.deeper (PyProof.Rows.envOfC "turn_keeps" (Qh Qad) s.heap.objs.size f cdv)).units+6<cLine:=xX (xZ Dc _) hr.un
 refine⟨_,(Qg (Qo (i:=2) scKeepsT.nd rfl (Or.inl rfl) (Qu Qy (pv 0) Qj (fun _ _=>rfl)))
  (Qg (Qo (i:=3) scKeepsT.nd rfl (Or.inr rfl) (Qu Qy (pv 0) Qj (fun _ _=>rfl)))
  (Qg (Zn (Vl (Qn (Qcx rfl) rfl M.any Qrs (Qa (Zy ["cost","place","costs"] [none,none,some 3] rfl (Qcw false true rfl M.zip_ (Qa (pv 3) (Qa (pv 1) Qf))) (fun _ _ _=>(Yf (K:=K) (i:=0) (j:=1) rfl rfl (show(["cost","place","costs"]:List Str).Nodup by decide +kernel) rfl rfl rfl rfl)) (fun _ _ _=>Ye) (fun _ _ _=>(Zz Qop (pv 0) (Qu (Zr (K:=K) rfl) (pv 2) (pv 1) (fun _ _=>rfl)) (Xf _)))) Qf))) (Qm (Qs Qaf)) Xi)
  (Qm (Qs (Zz (Qrr (n:=6) hu6) (Qn (Yx (K:=K) rfl (xX (xZ Dc _) hr.un)) rfl M.sorted Xq (Qa (Zy ["row","turn"] [none,some 1] rfl (Xj (pv 2)) (fun _ _ _=>(Qz (i:=0) (show(["row","turn"]:List Str).Nodup by decide +kernel) rfl (Or.inl rfl) (Or.inr rfl))) (fun _ _ _=>Ye) (fun _ _ _=>(Xp c_turned (hr.mono Dc) (Qa (pv 0) (Qa (pv 1) Qf))))) Qf)) (Qn (Yx (K:=K) rfl (xX (xZ Dc _) hr.un)) rfl M.sorted Xq (Qa (pv 2) Qf)) (Xf _))))))),?_⟩
 refine Qpm ?_
 intro rT4 rT3 rT2
 have hz:(1000:Nat)<sizeLine:=Dc
 obtain⟨l,c,vs,ht,hl,hrw,hc⟩:=id pr
 have lt:=T.length
 have lv:=hrw.length
 refine⟨_,rfl,p,_,_,_,rfl,rfl,ht,at0,?_⟩
 refine⟨_,rfl,p,_,_,_,rfl,rfl,ht,at1,?_⟩
 refine⟨_,rfl,_,rfl,c,u,rfl,⟨_,hc⟩,⟨_,hu1⟩,fun D hD=>?_⟩
 let Pv20:Nat->St->List V->Hp->Prop:=fun i τ ys H1=>∃u' v':Option V,τ=[u',v',some (.ref c)]/\ys=((List.range i).map fun j=>!decide (cs.getD j 0=cs.getD (t.getD j 0) 0)).map V.bl/\H1 D=some (.lst ys)/\Same H H1
 refine Zx (n:=n) Pv20 ?_ (fun i τ ys H1 hi h=>?_) (fun i τ ys H1 hi h=>?_) (fun τ ys H1 h=>?_) ?_ ?_
 .exact⟨none,none,rfl,rfl,Qb,Qc hD _⟩
 .obtain⟨u',v',rfl,rfl,hD1,s1⟩:=h
  exact⟨hD1,by rw[jX,jX,kQ];lia⟩
 .obtain⟨u',v',rfl,rfl,hD1,s1⟩:=h
  have i1:i<cs.length:=Om
  have i2:i<(tI t).length:=by rw[Yk];lia
  exact⟨_,_,.int cs[i],.int (tI t)[i],s1.tup hc,s1.seq hu1,by rw[jV,gE i1];rfl,by rw[jV,gE i2];rfl⟩
 .obtain⟨u',v',rfl,rfl,hD1,s1⟩:=h
  exact⟨_,_,s1.tup hc,s1.seq hu1,by rw[jX,jX,Yk];lia⟩
 .rintro i τ ys H1 x H2 hi ⟨u',v',rfl,rfl,hD1,s1⟩ ⟨T',x1,y1,rfl,hT,rfl,e1,e2⟩
  obtain⟨x,ex,rfl⟩:=Ze (e1 _ (s1.tup hc))
  obtain⟨y,ey,rfl⟩:=Ze (e2 _ (s1.seq hu1))
  obtain⟨k,ek,rfl⟩:=Qth ey
  have sT:=Qc hT (.tup [.int x,.int ((k:Nat):Int)])
  have hD2:=sT _ _ hD1
  refine⟨T',_,rfl,Qr Qb,rfl,_,_,rfl,_,_,rfl,rfl,?_⟩
  refine⟨_,rfl,_,rfl,_,rfl,c,_,_,_,rfl,rfl,sT.tup (s1.tup hc),atK6 (by have:=T.lt ek;lia),rfl,hD2,_,_,rfl,?_,Qb,fun b o e=>?_⟩
  .rw[kZb,zK,zK,zW,zW,yZf,Qpp ex,Qhi ek,Qdm]
   rfl
  .rw[Qk (Ql e hD)];exact sT _ _ (s1 _ _ e)
 rintro τ ys H1 ⟨u',v',rfl,rfl,hD1,s1⟩
 refine⟨D,_,rfl,Qi hD1,_,rfl,ite2 (fun y=>?_) (fun y=>?_)⟩
 .refine q false H1 s1 ⟨fun z=>(nomatch z),fun z=>absurd z.1 (any_no.mp y)⟩
 .have ok:Qdk cs t n:=Classical.byContradiction fun z=>y (any_no.mpr z)
  refine⟨_,rfl,l,rfl,⟨_,s1.seq hl⟩,fun D2 hD2=>?_⟩
  let Pv21:Nat->St->List V->Hp->Prop:=fun i τ ys H2=>∃v:Option V,τ=[v,some (.ref u)]/\RowsAre K H2 ys ((rs.take i).map (ledR t n))/\H2 D2=some (.lst ys)/\Same H1 H2
  refine Zx (n:=rs.length) Pv21 ?_ (fun i τ ys H2 hi h=>?_) (fun i τ ys H2 hi h=>?_) (fun τ ys H2 h=>?_) ?_ ?_
  .exact⟨none,rfl,.nil,Qb,Qc hD2 _⟩
  .obtain⟨v,rfl,hra,hD3,s2⟩:=h
   have:=hra.length
   rw[jX,wZ]at this
   exact⟨hD3,Om⟩
  .obtain⟨v,rfl,hra,hD3,s2⟩:=h
   exact⟨vs,vs[i]'Om,(s1.trans s2).seq hl,gE Om⟩
  .obtain⟨v,rfl,hra,hD3,s2⟩:=h
   exact⟨vs,(s1.trans s2).seq hl,Om⟩
  .rintro i τ ys H2 x H3 hi ⟨v,rfl,hra,hD3,s2⟩ ⟨rfl,e1⟩
   obtain⟨t',r,rfl,er,hrt⟩:=hrw.get (e1 _ ((s1.trans s2).seq hl))
   refine⟨_,rfl,_,rfl,t',u,r,n,t,rfl,hrt.same (s1.trans s2),(s1.trans s2).seq hu1,T,hrl r (kY er),Om,fun r' H4 s4 rr=>?_⟩
   have hD4:=s4 _ _ hD3
   refine⟨hD4,_,rfl,?_,Qb,fun b o e=>?_⟩
   .rw[Qbn er,zK]
    exact Wj (Wl hD4 (Xg s4 hra)) (rr.upd hD4)
   .rw[Qk (Ql e hD2)];exact s4 _ _ (s2 _ _ e)
  rintro τ ys H2 ⟨v,rfl,hra,hD3,s2⟩
  rw[wW]at hra
  have ly:=hra.length
  rw[jX]at ly
  have s12:=s1.trans s2
  refine⟨D2,ys,_,n,rfl,Qi hD3,hra,Om,(fun r hr=>by obtain⟨r0,_,rfl⟩:=zQ.mp hr;exact Qbp T _),fun S ws qs hS hws lws pq sq=>?_⟩
  have s3:=Qc hS (.lst ws)
  refine⟨_,rfl,l,vs,rs,n,rfl,(s12.trans s3).seq hl,Xg (s12.trans s3) hrw,Om,hrl,fun S2 ws2 qs2 hS2 hws2 lws2 pq2 sq2=>?_⟩
  have s4:=Qc hS2 (.lst ws2)
  refine⟨S,S2,_,_,rfl,rfl,RowsAre.hasD (Qi (s4 _ _ Qb)) (Xg (s3.trans s4) hws),RowsAre.hasD (Qi Qb) (Xg s4 hws2),We qs qs2,fun c hc=>q c _ ((s12.trans s3).trans s4) ?_⟩
  rw[hc,Qdl]
  constructor
  .rintro rfl
   exact⟨ok,pq.symm.trans pq2⟩
  .intro h
   exact Jk (pq.trans (h.2.trans pq2.symm)) sq sq2
end
abbrev posT:Pos:=⟨87,40,87,69⟩
abbrev quT:Str:="Colours.turn_by.<locals>.<lambda>"
def LamB(H:Hp)(T1 T2:Addr):Prop:=LamT H T1 posL "loose.<locals>.<lambda>"/\LamT H T2 posT quT
theorem LamB.same{H H':Hp}{T1 T2:Addr}(h:LamB H T1 T2)(s:Same H H'):LamB H' T1 T2:=⟨Qac s h.1,Qac s h.2⟩
theorem SqT.sameT{K:Fg}{H H':Hp}{l:Addr}{xs:List V}(h:SqT K H l xs)(S:SameT H H'):SqT K H' l xs:=by
 rcases h with e | e
 .rcases e with e | ⟨o,e⟩
  .exact .inl (.inl (S _ _ (fun _ z=>nomatch z) e))
  .exact .inl (.inr ⟨o,S _ _ (fun _ z=>nomatch z) e⟩)
 .exact .inr e
def Vj(H:Hp):Hp:=fun b=>match H b with | some (.tbl _)=>none | x=>x
theorem Qrc{H:Hp}{b:Addr}{o:HO}(h:H b=some o)(n:∀ps,o≠.tbl ps):Vj H b=some o:=by
 unfold Vj
 rw[h]
 cases o with
 |tbl ps=>exact absurd rfl (n ps)
 |_=>rfl
theorem Kc{H H':Hp}(S:SameT H H'):Same (Vj H) H':=fun b o e=>by
 unfold Vj at e
 cases q:H b with
 |none=>rw[q]at e;cases e
 |some u=>
  rw[q]at e
  cases u with
  |tbl ps=>cases e
  |_=>cases e;exact S _ _ (fun _ z=>nomatch z) q
theorem Qjn{H:Hp}{b:Addr}(h:H b=none):Vj H b=none:=by
 unfold Vj
 rw[h]
theorem Jr{H H':Hp}{b:Addr}(S:SameT H H')(h:Vj H' b=none):Vj H b=none:=by
 cases q:Vj H b with
 |none=>rfl
 |some o=>
  have e:=Kc S _ _ q
  unfold Vj at h q
  rw[e]at h
  cases o with
  |tbl ps=>
   cases z:H b with
   |none=>rw[z]at q;cases q
   |some u=>rw[z]at q;cases u<;>cases q
  |_=>cases h
theorem ProbAt.sameT{K:Fg}{H H':Hp}{t:Addr}{rs:List Row}{cs:List Int}(h:ProbAt K H t rs cs)(S:SameT H H'):ProbAt K H' t rs cs:=by
 obtain⟨l,c,vs,h1,h2,h3,h4⟩:=h;exact⟨l,c,vs,SqT.sameT h1 S,h2.sameT S,Paired.mapP h3 fun _ _ ⟨a,e,p,z1,z2⟩=>⟨a,e,p,SqT.sameT z1 S,SqT.sameT z2 S⟩,SqT.sameT h4 S⟩
theorem PtsA.sameT{K:Fg}{H H':Hp}{α:Type}{f:α->List (Nat×Int)}{us:List V}{xs:List α}(h:PtsA K H f us xs)(S:SameT H H'):PtsA K H' f us xs :=
 Paired.mapP h fun _ _ ⟨l,ts,e,h1,h2⟩=>⟨l,ts,e,h1.sameT S,Paired.mapP h2 fun _ _ ⟨t,e,z⟩=>⟨t,e,SqT.sameT z S⟩⟩
theorem CoAt.sameT{K:Fg}{C:Addr}{H H':Hp}{p:Addr}{rs:List Row}{cs:List Int}(h:CoAt K C H p rs cs)(S:SameT H H'):CoAt K C H' p rs cs:=by
 obtain⟨lk,prb,le,pa,st,us,ws,h1,h2,h3,h4,h5,h6,h7,h8,h9,h10,h11,h12,h13⟩:=h
 exact⟨lk,prb,le,pa,st,us,ws,h1.sameT S,h2,h3,ProbAt.sameT h4 S,h5,h6,h7.sameT S,h8,h9.sameT S,h10.sameT S,h11,h12.sameT S,h13.sameT S⟩
theorem PairL.sameT{K:Fg}{H H':Hp}{p:Addr}{a b:List Int}(h:PairL K H p a b)(S:SameT H H'):PairL K H' p a b:=by obtain⟨A,B,h1,h2,h3⟩:=h;exact⟨A,B,SqT.sameT h1 S,h2.sameT S,h3.sameT S⟩
theorem Qrd{n:Nat}{a b:List Int}(la:a.length=n)(lb:b.length=n)(pm:a.Perm b)(nd:a.Nodup):∃pos:Int->Nat,(∀x∈a,b[pos x]?=some x/\∀m,m<pos x->b[m]?≠some x)/\IsTurn n (a.map pos)/\Carry n (a.map pos) a b/\∀t,IsTurn n t->Carry n t a b->t=a.map pos:=by
 have ndb:=pm.nodup_iff.mp nd
 have inj:∀{i j:Nat} {x:Int},b[i]?=some x->b[j]?=some x->i=j:=fun{i j x} e1 e2=>(List.getElem?_inj (jK.mp e1).1 ndb).mp (e1.trans e2.symm)
 have ex:∀x:Int,∃j:Nat,x∈a->b[j]?=some x:=fun x=>by
  by_cases h:x∈a
  .obtain⟨j,hj,e⟩:=jXc (pm.mem_iff.mp h)
   exact⟨j,fun _=>by rw[gE hj,e]⟩
  .exact⟨0,fun z=>absurd z h⟩
 have sp:∀x∈a,b[Classical.choose (ex x)]?=some x:=fun x=>Classical.choose_spec (ex x)
 refine⟨fun x=>Classical.choose (ex x),fun x hx=>⟨sp x hx,fun m hm e=>absurd (inj e (sp x hx)) (yZ hm)⟩,?_,?_,?_⟩
 .refine⟨Kb _ _ ?_ ?_ (by rw[jX,kQ,la];exact jW _)⟩
  .refine jYb.mpr (nd.imp_of_mem fun{x y} hx hy ne e=>ne ?_)
   have h1:=sp x hx
   have h2:=sp y hy
   rw[e]at h1
   exact Option.some.inj (h1.symm.trans h2)
  .intro y hy
   obtain⟨x,hx,rfl⟩:=zQ.mp hy
   rw[yQ,<-lb]
   exact(jK.mp (sp x hx)).1
 .intro i hi
  have hi':i<a.length:=Om
  rw[show(a.map fun x=>Classical.choose (ex x)).getD i 0=Classical.choose (ex (a.getD i 0))by rw[jY,jV,jY,gE hi'];rfl]
  rw[jY,sp _ (Qgb hi')];rfl
 .intro t T c
  refine yQa (by rw[T.length,jX,la]) fun i h1 h2=>?_
  have hi:i<n:=by rw[<-T.length];exact h1
  have hi':i<a.length:=Om
  rw[kXd]
  have e:=c i hi
  have e1:t.getD i 0=t[i]:=by rw[jY,gE h1];rfl
  have e2:a.getD i 0=a[i]:=by rw[jY,gE hi'];rfl
  have hl:t[i]<b.length:=by have:=(getT T hi).2;lia
  rw[e1,e2]at e
  refine inj (x:=a[i]) ?_ (sp _ (jXf _))
  rw[gE hl]
  rw[jY,gE hl]at e
  exact congrArg some e
def plc(a b:List Int)(c:Nat):List Nat:=(List.range b.length).filter fun k=>decide (b.getD k 0=a.getD c 0)
abbrev Vk:Stmt:=inClass (top 8) 7
def Kw(P:Program)(w:World)(K:Fg)(C T1 T2:Addr):Nat->Sp
 |0=>fun _ _ _ _=>False
 |d+1=>fun vs H Q _=>∃(p:Addr) (v:V) (rs:List Row) (cs:List Int),vs=[.ref p,v]/\CoAt K C H p rs cs/\LamB H T1 T2/\(∀r∈rs,r.1.length=cs.length)/\rs.length<=1000/\cs.length<=100/\((v=.non/\Q .non H)\/∃(pr:Addr) (a b:List Int),v=.ref pr/\PairL K H pr a b/\a.length=cs.length/\b.length=cs.length/\a.Perm b/\(∀x∈a,0<=x/\x<cs.length)/\cs.length<=dc a+d /\
  (∀H',SameT H H'->LamB H' T1 T2->Qek cs.length rs cs a b->Q .non H') /\
  ∀(u:Addr) (t:List Nat) (H':Hp),SameT H H'->LamB H' T1 T2->H' u=some (.lst ((tI t).map V.int))->Vj H u=none->IsTurn cs.length t->Yp rs cs t cs.length->Carry cs.length t a b->Q (.ref u) H')
section
variable{P:Program}{w:World}{K:Fg}{mg:Str->Option Value}{base:Heap}{c0 C T1 T2 f:Addr}{fd:FuncData}
theorem scTurnBy:FnScope ["self","pair","choice","turn","places","place"] ["self","pair"] (Qh Vk):=⟨rfl,rfl,rfl,Dk,rfl,Dk,Dk⟩
theorem Qob(F:FunL K "turn_by" "Colours.turn_by" Vk f fd c0 T2):FnOk P w K mg base CX0 3 f fd ["self","pair"] (Kw P w K C T1 T2 0):=F.ok scTurnBy (fun vs H Q E h=>h.elim) fun A outer s H vs Q E hr h=>h.elim
theorem Qre(d0:Nat)(F:FunL K "turn_by" "Colours.turn_by" Vk f fd c0 T2)(hC:PySem.W.codeHdIn K c0 T2=true)(hB:BltK K mg)(M:Mg mg)(T:CoTxt K mg C){fX fT:Addr}{fdX fdT:FuncData}(mX:Meth K C "fixed" fX)(GX:FnOk P w K mg base CX0 3 fX fdX ["self","pair","choice","place"] (Qgd P w K C))(bX:Binds K fdX ["self","pair","choice","place"] [])(mT:Meth K C "is_tired" fT)(GT:FnOk P w K mg base CX0 1 fT fdT ["self"] (Qns P w K C))(bT:Binds K fdT ["self"] [])(mB:Meth K C "turn_by" f)(bB:Binds K fd ["self","pair"] [])(c_loose:Cal P w K mg base 2 "loose" ["colours"] (Qoa K T1))(c_turn_keeps:Cal P w K mg base 2 "turn_keeps" ["problem","turn"] (spKT K))(ne:T1≠T2)(GB:FnOk P w K mg base CX0 (3+d0) f fd ["self","pair"] (Kw P w K C T1 T2 d0)):FnOk P w K mg base CX0 (3+d0+1) f fd ["self","pair"] (Kw P w K C T1 T2 (d0+1)):=by
 refine F.ok scTurnBy (fun vs H Q E h=>?_) (fun A outer s H vs Q E hr h=>?_)
 .obtain⟨p,v,rs,cs,rfl,_⟩:=h
  rfl
 obtain⟨p,v,rs,cs,rfl,S,LB,hrl,h1,h2,hv⟩:=h
 refine⟨_,(Qg (Zn (PW.pt (Qok (Xc Qal (pv 1) Ys (Xf _)) (Qgi (Vl (Qos (pv 0) T.cl mT GT (hr.mono Om) bT .nil Kz))))) (Qm (Qs Ys)) Xi)
  (Qg (Qo (i:=2) scTurnBy.nd rfl (Or.inr rfl) (Xp c_loose (hr.mono Om) (Qa (Qu Qy (pv 1) Qj (fun _ _=>rfl)) Qf)))
  (Qg (Zn (Xc Qal (pv 2) Ys (Xf _)) (Qg (Qbd (i:=3) ["colour","pair"] [none,some 1] rfl scTurnBy.nd rfl (Or.inl rfl) (Xj (Qu Qy (pv 1) Qj (fun _ _=>rfl))) (fun _ _ _=>(Qz (i:=0) (show(["colour","pair"]:List Str).Nodup by decide +kernel) rfl (Or.inl rfl) (Or.inr rfl))) (fun _ _ _=>Ye) (fun _ _ _=>(pe_bmK (K:=K) rfl PySem.F.plainAttrs_list PySem.F.slot_list_index PySem.F.type_list_index (Qlc (K:=K) rfl) (Qu (Zr (K:=K) rfl) (pv 1) Qj (fun _ _=>rfl)) (Qa (pv 0) Qf))))
  (Qm (Qs (Qol (Vl (Xp c_turn_keeps (hr.mono Om) (Qa (Zv (pv 0) rfl) (Qa (pv 3) Qf)))) (pv 3) Ys)))) Xi)
  (Qg (Qbd (i:=4) ["place","colour","pair","choice"] [none,none,some 1,some 2] rfl scTurnBy.nd rfl (Or.inl rfl) (Wd true rfl M.enumerate_ (Qa (Qu Qy (pv 1) Qj (fun _ _=>rfl)) Qf)) (fun _ _ _=>(Yf (K:=K) (i:=0) (j:=1) rfl rfl (show(["place","colour","pair","choice"]:List Str).Nodup by decide +kernel) rfl rfl rfl rfl)) (fun _ _ _=>(Qkr (Xc Qeu (pv 1) (Qu (Kh (K:=K) rfl) (Qu (Zr (K:=K) rfl) (pv 2) Qj (fun _ _=>rfl)) (pv 3) (fun _ _=>rfl)) (Xf _)))) (fun _ _ _=>(pv 0)))
  (Qg (Yb PassesOwn.never rfl (Xj (Qjl (i:=2) hr rfl M.sorted rfl hC hB rfl rfl (Qa (pv 4) Qf))) (Qz (i:=5) scTurnBy.nd rfl (Or.inl rfl) (Or.inl rfl)) (Qg (Qo (i:=3) scTurnBy.nd rfl (Or.inl rfl) (Zl (pv 0) T.cl mB GB (hr.mono Om) bB .nil Kz (Qa (Zl (pv 0) T.cl mX GX (hr.mono Om) bX .nil Kz (Qa (pv 1) (Qa (pv 2) (Qa (pv 5) Qf)))) Qf)))
  (Qm (Zn (Xc Qev (pv 3) Ys (Xf _)) (Qm (Qs (pv 3))) Xi))))
  (Qm (Qs Ys))))))),?_⟩
 have hz:(1000:Nat)<sizeLine:=Dc
 have hz:(1000:Nat)<sizeLine:=Dc
 have nv:(!decide (V.non=V.non))=false:=by simp
 rcases hv with⟨rfl,q⟩ | ⟨pr,a,b,rfl,hp,la,lb,pm,hlt,hd,q0,q⟩
 .refine⟨_,rfl,rfl,_,rfl,?_⟩
  rw[show decide (V.non=V.non)=true by simp]
  exact iteT (iteT q)
 refine⟨_,rfl,rfl,_,rfl,?_⟩
 rw[show decide (V.ref pr=V.non)=false by simp]
 refine iteF ⟨_,rfl,S.ob (by simp) ⟨p,rs,cs,rfl,S,⟨_,rfl,iteF ?_⟩⟩⟩
 obtain⟨A,B,t1,t2,t3⟩:=id hp
 refine⟨_,rfl,pr,_,_,_,rfl,rfl,t1,at0,A,a,rfl,t2,Om,LB.1,fun v H1 S1 O1 L1 e1 e2=>?_⟩
 have LB1:LamB H1 T1 T2:=⟨L1,LB.2.other S1 O1 ne.symm⟩
 have SC1:=S.sameT S1
 have hp1:=hp.sameT S1
 obtain⟨A1,B1,t1,t2,t3⟩:=id hp1
 by_cases z:v=.non
 .subst z
  refine⟨_,rfl,rfl,_,rfl,?_⟩
  rw[show decide (V.non=V.non)=true by simp]
  refine iteT ?_
  have nd:a.Nodup:=List.nodup_iff_count.mpr fun x=>by
   by_cases hx:x∈a
   .exact e1 rfl x hx
   .rw[List.count_eq_zero.mpr hx];exact wY _
  obtain⟨pos,g1,g2,g3,g4⟩:=Qrd la lb pm nd
  refine⟨_,rfl,pr,_,_,_,rfl,rfl,t1,at0,A1,rfl,⟨_,t2⟩,fun D hD=>?_⟩
  refine Qbx (fun k:Nat=>V.int (k:Nat)) pos rfl (Ji (xs:=a) (val:=V.int) t2) Om hD (fun x hx H2 s2 P h=>?_) fun H2 s2 hD2=>?_
  .exact⟨_,rfl,pr,_,_,V.ref B1,rfl,rfl,s2.tup t1,at1,.inl ⟨rfl,_,s2.seq t3⟩,_,rfl,B1,b,x,pos x,rfl,rfl,s2.seq t3,(g1 x hx).1,(g1 x hx).2,h H2 fun _ _ z=>z⟩
  have hD3:H2 D=some (.lst ((tI (a.map pos)).map V.int)):=by rw[hD2];unfold tI;simp only[jQb];rfl
  obtain⟨lk,prb,le,pa,st,us,ws,o1,o2,o3,o4,_⟩:=SC1.same s2
  refine⟨_,rfl,o1.fld T (by unfold coN;simp) o3 ⟨_,rfl,prb,D,rs,cs,cs.length,a.map pos,rfl,o4,Qi hD3,g2,h2,hrl,rfl,h1,fun c H3 s3 hc=>?_⟩⟩
  have sH:SameT H H3:=S1.trans (Xm (s2.trans s3))
  have LH:LamB H3 T1 T2:=LB1.same (s2.trans s3)
  cases c with
  |true=>exact⟨_,rfl,iteT ⟨_,rfl,q D (a.map pos) H3 sH LH (s3 _ _ hD3) (Jr S1 (Qjn hD)) g2 (hc.mp rfl) g3⟩⟩
  |false=>
   refine⟨_,rfl,iteF (q0 H3 sH LH fun t T' kt c=>?_)⟩
   rw[g4 t T' c]at kt
   exact nomatch hc.mpr kt
 obtain⟨c,rfl,hc,hc2⟩:=e2 z
 refine⟨_,rfl,rfl,_,rfl,?_⟩
 rw[show decide (V.int (c:Nat)=V.non)=false by simp]
 refine iteF ?_
 obtain⟨d1,rfl⟩:∃d1,d0=d1+1:=by
  cases d0 with
  |zero=>
   have:=List.nodup_iff_count.mp (Quq (a:=a) Om) (a.getD c 0)
   lia
  |succ d1=>exact⟨d1,rfl⟩
 have na:((cs.length:Nat):Int)∉a:=fun z=>by have:=(hlt _ z).2;lia
 have nb:((cs.length:Nat):Int)∉b:=fun z=>na (pm.mem_iff.mpr z)
 have e3:=t3
 rw[Qif]at e3
 refine⟨_,rfl,pr,_,_,_,rfl,rfl,t1,at1,B1,rfl,⟨_,t3⟩,fun D hD=>?_⟩
 refine Ww (K:=K) (xs:=List.range b.length) (v1:=fun k=>.int ((k:Nat):Int)) (v2:=fun k=>.int (b.getD k 0)) (fun _ v x=>v=.int ((x:Nat):Int)) (fun k=>k) (fun k=>decide (b.getD k 0=a.getD c 0)) rfl (Jp (m:=true) fun H2 s=>s.seq e3) (by rw[kQ];lia) hD (fun _ _ h=>h) (fun h=>h) (fun k hk H2 s2 P h=>?_) (fun k hk _ H2 s2 hD1 P h=>?_) fun H2 ys s2 hD2 hpp=>?_
 .refine⟨_,rfl,_,rfl,pr,_,_,V.ref A1,rfl,rfl,s2.tup t1,at0,_,rfl,A1,_,_,_,rfl,rfl,s2.seq t2,atK6 hc,rfl,_,rfl,?_⟩
  rw[Qdm]
  exact h H2 fun _ _ z=>z
 .exact⟨_,rfl,h _ _ (fun _ _ z=>z) rfl⟩
 have ey:ys=((plc a b c).map fun k:Nat=>(k:Int)).map V.int:=by
  rw[jQb]
  rw[List.map_id']at hpp
  exact Vi hpp
 have LB2:=LB1.same s2
 have S2:SameT H H2:=S1.trans (Xm s2)
 have lpl:(plc a b c).length<=1000:=by
  unfold plc
  have:=jJd (fun k=>decide (b.getD k 0=a.getD c 0)) (List.range b.length)
  rw[kQ]at this
  lia
 refine⟨_,rfl,D,(plc a b c).map (fun k:Nat=>(k:Int)),((c:Nat):Int),rfl,rfl,Qi (hD2.trans (congrArg (fun y=>some (HO.lst y)) ey)),by rw[jX];exact lpl,LB2.2,fun m d H3 S3 O3 pmm hd3 L3=>?_⟩
 have LB3:LamB H3 T1 T2:=⟨LB2.1.other S3 O3 ne,L3⟩
 have S03:=S2.trans S3
 have mpl:∀{z:Int},z∈m->∃k:Nat,z=(k:Nat)/\k<cs.length/\b.getD k 0=a.getD c 0:=fun{z} hz=>by
  obtain⟨k,hk,rfl⟩:=zQ.mp (pmm.mem_iff.mp hz)
  obtain⟨h1,h2⟩:=wK.mp hk
  exact⟨k,rfl,by have:=yQ.mp h1;lia,jJb h2⟩
 have hm:∀t,IsTurn cs.length t->Carry cs.length t a b->((t.getD c 0:Nat):Int)∈m:=fun t T' ct=>by
  refine pmm.mem_iff.mpr (zQ.mpr ⟨_,wK.mpr ⟨yQ.mpr ?_,xW (ct c Om)⟩,rfl⟩)
  have:=(getT T' (show c<cs.length by lia)).2
  lia
 let Pv22:Nat->St->Hp->Prop:=fun i σ H4=>∃x3 x5:Option V,σ=[some (.ref p),some (.ref pr),some (.int (c:Nat)),x3,some (.ref D),x5]/\SameT H3 H4/\LamB H4 T1 T2/\∀t,IsTurn cs.length t->Yp rs cs t cs.length->Carry cs.length t a b->((t.getD c 0:Nat):Int)∉m.take i
 refine⟨d,rfl,⟨_,Qi hd3⟩,Kd (K:=K) (a:=d) (xs:=m.map V.int) Pv22 ⟨_,_,rfl,SameT.refl _,LB3,fun _ _ _ _ z=>nomatch z⟩ (fun i σ H4 _ h=>?_) ?_ ?_⟩
 .obtain⟨x3,x5,rfl,S4,L4,no⟩:=h
  exact(Qi hd3).sameT S4
 .rintro i x σ H4 ex ⟨x3,x5,rfl,S4,L4,no⟩
  obtain⟨y,ey,rfl⟩:=Ze ex
  obtain⟨k,rfl,hk,ek⟩:=mpl (kY ey)
  have S04:=S03.trans S4
  have SC4:=S.sameT S04
  have hp4:=hp.sameT S04
  have nx:Qek cs.length rs cs (a.set c (cs.length:Nat)) (b.set k (cs.length:Nat))->∀t,IsTurn cs.length t->Yp rs cs t cs.length->Carry cs.length t a b->((t.getD c 0:Nat):Int)∉m.take (i+1):=fun nt t T' kt ct hin=>by
   rw[Qbn ey]at hin
   rcases wX.mp hin with z | z
   .exact no t T' kt ct z
   .exact nt t T' kt (Qaa T' la lb Om hk ct (Int.ofNat.inj (kW.mp z)))
  refine⟨_,rfl,SC4.ob (by simp) ⟨_,rfl,SC4.ob (by simp) ⟨_,rfl,_,rfl,_,rfl,p,pr,c,k,rs,cs,a,b,rfl,SC4,hp4,la,lb,Om,hk,hrl,h1,h2,fun H5 s5 nt=>?_,fun p' a' b' H5 s5 pl' fo ca=>?_⟩⟩⟩
  .refine⟨p,.non,rs,cs,rfl,SC4.same s5,L4.same s5,hrl,h1,h2,.inl ⟨rfl,?_⟩⟩
   refine⟨_,rfl,rfl,_,rfl,?_⟩
   rw[nv]
   exact iteF ⟨_,_,rfl,S4.trans (Xm s5),L4.same s5,nx nt⟩
  have grow:cs.length<=dc a'+d1:=by
   have h3:=dc_set (a:=a) (c:=c) (x:=((cs.length:Nat):Int)) hc hc2 na
   have h4:=fo.dc (by rw[kJf];exact la)
   lia
  refine⟨p,.ref p',rs,cs,rfl,SC4.same s5,L4.same s5,hrl,h1,h2,.inr ⟨p',a',b',rfl,pl',fo.la,fo.lb,fo.perm,fo.lt,grow,fun H6 S6 L6 nt=>?_,fun u t H6 S6 L6 hu hf T' kt ct=>?_⟩⟩
  .refine⟨_,rfl,rfl,_,rfl,?_⟩
   rw[nv]
   exact iteF ⟨_,_,rfl,S4.trans ((Xm s5).trans S6),L6,nx fun t T' kt ct=>nt t T' kt (ca t T' kt ct)⟩
  .refine⟨_,rfl,rfl,_,rfl,?_⟩
   rw[show(!decide (V.ref u=V.non))=true by simp]
   exact iteT ⟨_,rfl,q u t H6 (S04.trans ((Xm s5).trans S6)) L6 hu (Jr (S04.trans (Xm s5)) hf) T' kt ((Qid T' la lb Om hk na nb (Carry.back fo T' ct)).2 ek)⟩
 .rintro σ H4 ⟨x3,x5,rfl,S4,L4,no⟩
  refine q0 H4 (S03.trans S4) L4 fun t T' kt ct=>no t T' kt ct ?_
  rw[jX,wW]
  exact hm t T' ct
end
abbrev Qrf:Stmt:=top 10
def Qsi(P:Program)(w:World)(K:Fg)(T1 T2:Addr):Sp:=fun vs H Q _=>∃(t:Addr) (i j:Nat) (rs:List Row) (cs:List Int),vs=[.ref t,.int (i:Nat),.int (j:Nat)]/\ProbAt K H t rs cs/\LamB H T1 T2/\(∀r∈rs,r.1.length=cs.length)/\rs.length<=1000/\cs.length<=10/\i<cs.length/\j<cs.length /\
 (∀H',SameT H H'->LamB H' T1 T2->(∀t,IsTurn cs.length t->Yp rs cs t cs.length->t.getD i 0≠j)->Q .non H') /\
 ∀(u:Addr) (t:List Nat) (H':Hp),SameT H H'->LamB H' T1 T2->H' u=some (.lst ((tI t).map V.int))->Vj H u=none->IsTurn cs.length t->Yp rs cs t cs.length->t.getD i 0=j->Q (.ref u) H'
theorem range_getD{n i:Nat}(h:i<n):(List.range n).getD i 0=i:=by
 rw[jY,xY h];rfl
theorem Qig{n:Nat}{rs:List Row}{cs:List Int}(hl:∀r∈rs,r.1.length=n):IsTurn n (List.range n)/\Yp rs cs (List.range n) n/\∀a:List Int,Carry n (List.range n) a a:=by
 refine⟨⟨.refl _⟩,⟨fun i hi=>by rw[range_getD hi],?_⟩,fun a i hi=>by rw[range_getD hi]⟩
 rw[show rs.map (ledR (List.range n) n)=rs.map id from kXa fun r hr=>by
  show(put r.1 (List.range n) n,r.2)=r
  rw[Wf (hl r hr)],List.map_id]
section
variable{P:Program}{w:World}{K:Fg}{mg:Str->Option Value}{base:Heap}{C T1 T2 fI fF fX fB:Addr}{fdI fdF fdX fdB:FuncData}
theorem scFrom:FnScope ["problem","one","other","colours","pair"] ["problem","one","other"] (Qh Qrf):=⟨rfl,rfl,rfl,Dk,rfl,Dk,Dk⟩
theorem okFrom(F:Fn K mg "turn_from" Qrf)(M:Mg mg)(T:CoTxt K mg C)(mgC:mg "Colours"=some (.ref C))(MI:Mk K C fI)(GI:FnOk P w K mg base CX0 2 fI fdI ["self","problem","patience"] (Qhy P w K C))(bI:Binds K fdI ["self","problem","patience"] [])(mF:Meth K C "finer" fF)(GF:FnOk P w K mg base CX0 2 fF fdF ["self","pair"] (Qgc P w K C))(bF:Binds K fdF ["self","pair"] [])(mX:Meth K C "fixed" fX)(GX:FnOk P w K mg base CX0 3 fX fdX ["self","pair","choice","place"] (Qgd P w K C))(bX:Binds K fdX ["self","pair","choice","place"] [])(mB:Meth K C "turn_by" fB)(GB:FnOk P w K mg base CX0 14 fB fdB ["self","pair"] (Kw P w K C T1 T2 11))(bB:Binds K fdB ["self","pair"] []):Cal P w K mg base 15 "turn_from" ["problem","one","other"] (Qsi P w K T1 T2):=by
 refine Xy F scFrom (fun _ _ _ _ _ _=>Qis (fun _ _ _=>rfl)) (fun vs H Q E h=>?_) (fun f cdv A outer s H vs Q E hr h=>?_)
 .obtain⟨t,i,j,rs,cs,rfl,_⟩:=h
  rfl
 obtain⟨t,i,j,rs,cs,rfl,pr,LB,hrl,hn,hc,hi,hj,q0,q⟩:=h
 refine⟨_,(Qg (Qo (i:=3) scFrom.nd rfl (Or.inl rfl) (Qsu MI GI (hr.mono Dc) rfl mgC bI .nil Kz (Qa (pv 0) (Qa Ys Qf))))
  (Qg (Qo (i:=4) scFrom.nd rfl (Or.inl rfl) (Zl (pv 3) T.cl mF GF (hr.mono Dc) bF .nil Kz (Qa (Yd (Qa (Qu Qy (pv 0) Qj (fun _ _=>rfl)) (Qa (Qu Qy (pv 0) Qj (fun _ _=>rfl)) Qf))) Qf)))
  (Qg (Zn (Xc Qop (Qu Xn (Qu Qy (pv 4) Qj (fun _ _=>rfl)) (pv 1) (fun _ _=>rfl)) (Qu Xn (Qu Qy (pv 4) Qj (fun _ _=>rfl)) (pv 2) (fun _ _=>rfl)) (Xf _)) (Qm (Qs Ys)) Xi)
  (Qm (Qs (Zl (pv 3) T.cl mB GB (hr.mono Dc) bB .nil Kz (Qa (Zl (pv 3) T.cl mX GX (hr.mono Dc) bX .nil Kz (Qa (pv 4) (Qa (pv 1) (Qa (pv 2) Qf)))) Qf))))))),?_⟩
 have hz:(1000:Nat)<sizeLine:=Dc
 obtain⟨l,cc,vs,h1,h2,h3,h4⟩:=id pr
 refine⟨_,rfl,fun p dx hp hdx ndx=>?_⟩
 have s1:Same H (upd (upd H dx (.own p)) p (.ins C dx [])):=(Qc hdx (.own p)).trans (Qc (by rw[Qk ndx.symm];exact hp) _)
 have ep:upd (upd H dx (.own p)) p (.ins C dx []) p=some (.ins C dx []):=Qb
 have ed:upd (upd H dx (.own p)) p (.ins C dx []) dx=some (.own p):=by rw[Qk ndx];exact Qb
 generalize upd (upd H dx (.own p)) p (.ins C dx [])=H1 at s1 ep ed⊢
 refine⟨p,dx,t,rs,cs,rfl,ep,ed,pr.same s1,hrl,hn,Om,fun H2 k2 S=>⟨rfl,?_⟩⟩
 have s2:Same H H2:=fun b o e=>k2 b o (Ql e hp) (Ql e hdx) (s1 _ _ e)
 have LB2:=LB.same s2
 refine⟨_,rfl,S.ob (by simp) ⟨_,rfl,t,_,_,_,rfl,rfl,s2.tup h1,at1,_,rfl,t,_,_,_,rfl,rfl,s2.tup h1,at1,by show 2<=sizeLine;decide,fun tp htp=>?_⟩⟩
 have sT:=Qc htp (.tup [V.ref cc,V.ref cc])
 have eT:upd H2 tp (.tup [V.ref cc,V.ref cc]) tp=some (.tup [V.ref cc,V.ref cc]):=Qb
 generalize upd H2 tp (.tup [V.ref cc,V.ref cc])=H3 at sT eT⊢
 have s3:=s2.trans sT
 obtain⟨i1,i2,i3⟩:=Qig (cs:=cs) hrl
 refine⟨p,tp,rs,cs,cs,cs,rfl,S.same sT,⟨cc,cc,Qr eT,.inr (s3.tup h4),.inr (s3.tup h4)⟩,rfl,rfl,hrl,hn,Om,fun H' _ nt=>absurd (i3 cs) (nt _ i1 i2),fun p' a b H4 s4 hp4 fo ca=>?_⟩
 have s04:=s3.trans s4
 have S4:=S.same (sT.trans s4)
 have LB4:=LB.same s04
 have caI:∀t,IsTurn cs.length t->Yp rs cs t cs.length->Carry cs.length t a b:=fun t T' kt=>ca t T' kt fun k hk=>(kt.1 k hk).symm
 obtain⟨A,B,t1,t2,t3⟩:=id hp4
 have la:=fo.la
 have lb:=fo.lb
 refine⟨_,rfl,p',_,_,V.ref A,rfl,rfl,t1,at0,_,rfl,A,_,_,_,rfl,rfl,t2,atK6 Om,_,rfl,p',_,_,V.ref B,rfl,rfl,t1,at1,_,rfl,B,_,_,_,rfl,rfl,t3,atK6 Om,rfl,_,rfl,?_⟩
 rw[Qdm]
 by_cases e:a.getD i 0=b.getD j 0
 .rw[xW e]
  refine iteF ⟨_,rfl,S4.ob (by simp) ⟨_,rfl,S4.ob (by simp) ⟨_,rfl,_,rfl,_,rfl,p,p',i,j,rs,cs,a,b,rfl,S4,hp4,la,lb,hi,hj,hrl,hn,Om,fun H5 s5 nt=>?_,fun p5 a5 b5 H5 s5 pl5 fo5 ca5=>?_⟩⟩⟩
  .exact⟨p,.non,rs,cs,rfl,S4.same s5,LB4.same s5,hrl,hn,Om,.inl ⟨rfl,q0 H5 (Xm (s04.trans s5)) (LB4.same s5) fun t T' kt e'=>nt t T' kt (Qaa T' la lb hi hj (caI t T' kt) e')⟩⟩
  .have na:((cs.length:Nat):Int)∉a:=fun z=>by have:=(fo.lt _ z).2;lia
   have nb:((cs.length:Nat):Int)∉b:=fun z=>na (fo.perm.mem_iff.mpr z)
   refine⟨p,.ref p5,rs,cs,rfl,S4.same s5,LB4.same s5,hrl,hn,Om,.inr ⟨p5,a5,b5,rfl,pl5,fo5.la,fo5.lb,fo5.perm,fo5.lt,(by show cs.length<=dc a5+10;lia),fun H6 S6 L6 nt=>?_,fun u t H6 S6 L6 hu hf T' kt ct=>?_⟩⟩
   .exact q0 H6 ((Xm (s04.trans s5)).trans S6) L6 fun t T' kt e'=>nt t T' kt (ca5 t T' kt (Qaa T' la lb hi hj (caI t T' kt) e'))
   .exact q u t H6 ((Xm (s04.trans s5)).trans S6) L6 hu (Jr (Xm (s04.trans s5)) hf) T' kt (Qid T' la lb hi hj na nb (Carry.back fo5 T' ct)).1
 .rw[wQ e]
  exact iteT (q0 H4 (Xm s04) LB4 fun t T' kt e'=>e (by rw[<-caI t T' kt i hi,e']))
end
abbrev Qeo:Stmt:=top 25
section
variable{P:Program}{w:World}{K:Fg}{mg:Str->Option Value}{base:Heap}
theorem Qrg{H H':Hp}(s:Same (Vj H) H'):SameT H H':=fun a o n e=>s a o (Qrc e n)
theorem Qoc{H:Hp}{T1 T2 u:Addr}{xs:List V}(h:LamB H T1 T2)(e:H u=some (.lst xs)){zs:List V}:LamB (upd H u (.lst zs)) T1 T2:=by
 have one:∀{T:Addr} {p:Pos} {q:Str},LamT H T p q->LamT (upd H u (.lst zs)) T p q:=fun{T p q} h=>by
  obtain⟨ps,eT,hh⟩:=h
  refine⟨ps,by rw[Qk (fun z=>by rw[z,e]at eT;cases eT)];exact eT,?_⟩
  rcases hh with z | ⟨c2,oc,vs,t,e1,e2,e3,e4⟩
  .exact .inl z
  .exact .inr ⟨c2,oc,vs,t,e1,by rw[Qk (fun z=>by rw[z,e]at e2;cases e2)];exact e2,e3,e4⟩
 exact⟨one h.1,one h.2⟩
theorem Qod(n:Nat):(List.replicate n false).any id=false:=by
 rw[List.any_eq_false]
 intro x hx
 rw[(List.mem_replicate.mp hx).2]
 exact fun z=>nomatch z
def Qoe(K:Fg)(T1 T2:Addr):Sp:=fun vs H Q _=>∃(p:Addr) (i j:Nat) (kn:Bool) (rs:List Row) (cs:List Int),vs=[.ref p,.int (i:Nat),.int (j:Nat),.bl kn]/\ProbAt K H p rs cs/\LamB H T1 T2/\(∀r∈rs,r.1.length=cs.length)/\rs.length<=1000/\cs.length<=10/\i<cs.length/\j<cs.length/\(kn=true->∃t,IsTurn cs.length t/\Yp rs cs t cs.length/\t.getD i 0=j)/\∀H',SameT H H'->LamB H' T1 T2->Q (.bl true) H'
theorem scRight:FnScope ["_law_problem_here","_law_one","_law_other","_law_known","_law_many","_law_handed","_law_again","_law_found"] ["_law_problem_here","_law_one","_law_other","_law_known"] (Qh Qeo):=⟨rfl,rfl,rfl,Dk,rfl,Dk,Dk⟩
theorem Quz(F:Fn K mg "_law_right" Qeo)(M:Mg mg){T1 T2:Addr}(cl_copy:Cal P w K mg base 1 "_law_copy" ["_law_problem_here"] (Qry K))(cl_orders:Cal P w K mg base 1 "_law_orders" ["_law_many"] (spOrd K))(cl_keeps:Cal P w K mg base 2 "_law_keeps" ["_law_problem_here","_law_turn"] (spKT K))(cl_is_turn:Cal P w K mg base 3 "_law_is_turn" ["_law_problem_here","_law_one","_law_other","_law_found"] (spIsT K))(c_turn_from:Cal P w K mg base 15 "turn_from" ["problem","one","other"] (Qsi P w K T1 T2)):Cal P w K mg base 16 "_law_right" ["_law_problem_here","_law_one","_law_other","_law_known"] (Qoe K T1 T2):=by
 refine Xy F scRight (fun _ _ _ _ _ _=>Qtk (fun _ _ _ _=>rfl)) (fun vs H Q E h=>?_) (fun f cdv A outer s H vs Q E hr h=>?_)
 .obtain⟨p,i,j,kn,rs,cs,rfl,_⟩:=h
  rfl
 obtain⟨p,i,j,kn,rs,cs,rfl,pr,LB,hrl,hrs,hcl,hi,hj,hkn,q⟩:=h
 have hu6:(A.deeper (PyProof.Rows.envOfC "_law_right" (Qh Qeo) s.heap.objs.size f cdv)).units+6<cLine:=xX (xZ Dc _) hr.un
 refine⟨_,(Qg (Qo (i:=4) scRight.nd rfl (Or.inl rfl) (Qn Xa rfl M.len Zj (Qa (Qu Qy (pv 0) Qj (fun _ _=>rfl)) Qf)))
  (Qg (Qo (i:=5) scRight.nd rfl (Or.inl rfl) (Xp cl_copy (hr.mono Dc) (Qa (pv 0) Qf)))
  (Qg (Yb PassesOwn.never rfl (Ya rfl M.range_ (Qa Qj Qf)) (Qz (i:=6) scRight.nd rfl (Or.inl rfl) (Or.inl rfl)) (Qg (Qo (i:=7) scRight.nd rfl (Or.inl rfl) (Xp c_turn_from (hr.mono Dc) (Qa (pv 5) (Qa (pv 1) (Qa (pv 2) Qf)))))
  (Qg (Zn (Xc (Qcy (n:=6) hu6) (pv 5) (pv 0) (Xf _)) (Qm (Qs Qaf)) Xi)
  (Qg (Zn (PW.pt (pw_and (Xc Qal (pv 7) Ys (Xf _)) (Qsm (PW.pt (Qok (Vl (pv 3)) (Qgi (Xc Qsp (pv 4) Qj (Xf _)))))))) (Qm (Qs (Qjw (pv 3)))) Xi)
  (Qg (Zn (Xc Qal (pv 7) Ys (Xf _)) (Qm (Qs (Qjw (Qn (Qcx rfl) rfl M.any Qrs (Qa (Zy ["_law_turn","_law_problem_here","_law_one","_law_other"] [none,some 0,some 1,some 2] rfl (Xj (Xp cl_orders (hr.mono Dc) (Qa (pv 4) Qf))) (fun _ _ _=>(Qz (i:=0) (show(["_law_turn","_law_problem_here","_law_one","_law_other"]:List Str).Nodup by decide +kernel) rfl (Or.inl rfl) (Or.inr rfl))) (fun _ _ _=>Ye) (fun _ _ _=>(Qch (Zz Qeu (Qu (Kh (K:=K) rfl) (pv 0) (pv 2) (fun _ _=>rfl)) (pv 3) (Xf _)) (Qcg (Xp cl_keeps (hr.mono Dc) (Qa (pv 1) (Qa (pv 0) Qf))))))) Qf))))) Xi)
  (Qg (Zn (Qjv (Vl (Xp cl_is_turn (hr.mono Dc) (Qa (pv 0) (Qa (pv 1) (Qa (pv 2) (Qa (pv 7) Qf))))))) (Qm (Qs Qaf)) Xi)
  (Qm (Zb (Vm PySem.F.plainAttrs_list PySem.F.slot_list_append PySem.F.type_list_append Xo (pv 7) (Qa Qj Qf))))))))))
  (Qm (Qs Qaf))))),?_⟩
 have hz:(1000:Nat)<sizeLine:=Dc
 have hm5:(5000:Nat)<sizeLine:=Dc
 obtain⟨l,cc,vs,h1,h2,h3,h4⟩:=id pr
 refine⟨_,rfl,p,_,_,_,rfl,rfl,h1,at1,cc,_,rfl,.inr h4,?_⟩
 rw[jX]
 refine⟨_,rfl,p,rs,cs,rfl,pr,hrs,fun P2 H2 s2 pr2=>?_⟩
 have LB2:=LB.same s2
 have prP:=pr.same s2
 let Pv23:Nat->St->Hp->Prop:=fun m σ H4=>∃x6 x7:Option V,σ=[some (.ref p),some (.int (i:Nat)),some (.int (j:Nat)),some (.bl kn),some (.int (cs.length:Nat)),some (.ref P2),x6,x7]/\SameT H2 H4/\LamB H4 T1 T2
 refine⟨2,rfl,Dc,Dc,Yn (lo:=0) (n:=(2:Int).toNat) Pv23 ⟨none,none,rfl,SameT.refl _,LB2⟩ ?_ ?_⟩
 .rintro m σ H4 hm ⟨x6,x7,rfl,S4,LB4⟩
  have pr4:=ProbAt.sameT pr2 S4
  have prP4:=ProbAt.sameT prP S4
  refine⟨_,rfl,_,rfl,_,rfl,P2,i,j,rs,cs,rfl,pr4,LB4,hrl,hrs,hcl,hi,hj,fun H5 S5 LB5 no=>?_,fun u t H5 S5 LB5 eu fu T kt ej=>?_⟩
  .have S05:=S4.trans S5
   have SH:SameT H H5:=(Xm s2).trans S05
   refine⟨_,rfl,_,rfl,P2,p,_,_,rfl,rfl,(ProbAt.sameT pr2 S05).hasD,(ProbAt.sameT prP S05).hasD,Qdh _ _ _ _,fun c hc=>⟨_,rfl,?_⟩⟩
   rw[hc.mpr rfl]
   refine iteF ⟨_,rfl,rfl,_,rfl,?_⟩
   rw[show decide (V.non=V.non)=true by simp]
   cases kn with
   |true=>
    obtain⟨t,T,kt,ej⟩:=hkn rfl
    exact absurd ej (no t T kt)
   |false=>
    refine iteT ⟨_,rfl,_,rfl,iteF ⟨_,rfl,_,_,rfl,rfl,_,rfl,ite2 (fun _=>⟨_,rfl,_,rfl,q H5 SH LB5⟩) (fun h5=>?_)⟩⟩
    have n5:cs.length<=5:=by
     refine kXb fun z=>h5 (xW ?_)
     show(5:Int)<((cs.length:Nat):Int)
     lia
    refine⟨_,rfl,rfl,_,rfl,?_⟩
    rw[show decide (V.non=V.non)=true by simp]
    refine iteT ⟨_,rfl,cs.length,rfl,n5,fun d us H6 s6 hd tr ll=>⟨d,rfl,⟨_,Qi hd⟩,fun E' hE=>?_⟩⟩
    have prP6:=(ProbAt.sameT prP S05).same s6
    let Pv24:Nat->St->List V->Hp->Prop:=fun m τ ys H7=>∃x:Option V,τ=[x,some (.ref p),some (.int (i:Nat)),some (.int (j:Nat))]/\ys=(List.replicate m false).map V.bl/\H7 E'=some (.lst ys)/\Same H6 H7
    refine Zx (n:=us.length) Pv24 ?_ (fun m τ ys H7 hm h=>?_) (fun m τ ys H7 hm h=>?_) (fun τ ys H7 h=>?_) ?_ ?_
    .exact⟨none,rfl,rfl,Qb,Qc hE _⟩
    .obtain⟨x,rfl,rfl,hE7,s7⟩:=h
     exact⟨hE7,by rw[jX,yYa];lia⟩
    .obtain⟨x,rfl,rfl,hE7,s7⟩:=h
     exact⟨us,us[m],s7.seq (Qi hd),gE hm⟩
    .obtain⟨x,rfl,rfl,hE7,s7⟩:=h
     exact⟨us,s7.seq (Qi hd),jW _⟩
    .rintro m τ ys H7 x H8 hm ⟨x',rfl,rfl,hE7,s7⟩ ⟨rfl,e1⟩
     obtain⟨a,t,rfl,_,ea,T⟩:=tr _ (kY (e1 _ (s7.seq (Qi hd))))
     have ea:=s7 _ _ ea
     have et:(tI t)[i]?=some ((t.getD i 0:Nat):Int):=by
      unfold tI
      rw[jV,(getT T hi).1];rfl
     refine⟨_,rfl,_,rfl,a,_,_,_,rfl,rfl,Qi ea,Ky (by rw[jV,et];rfl),_,rfl,rfl,_,rfl,?_⟩
     rw[Qdm]
     by_cases e:t.getD i 0=j
     .rw[e,xW rfl]
      refine iteT ⟨_,rfl,_,rfl,p,a,rs,cs,cs.length,t,rfl,prP6.same s7,Qi ea,T,Om,hrl,rfl,hrs,fun b H9 s9 hb=>?_⟩
      obtain rfl:b=false:=by
       cases b with
       |false=>rfl
       |true=>exact absurd e (no t T (hb.mp rfl))
      refine⟨s9 _ _ hE7,_,rfl,?_,Qb,fun b o e=>?_⟩
      .rw[zXd,zK];rfl
      .rw[Qk (Ql e hE)];exact s9 _ _ (s7 _ _ e)
     .rw[wQ (p:=((t.getD i 0:Nat):Int)=(j:Nat)) (fun z=>e Om)]
      refine iteF ⟨hE7,_,rfl,?_,Qb,fun b o e=>?_⟩
      .rw[zXd,zK];rfl
      .rw[Qk (Ql e hE)];exact s7 _ _ e
    rintro τ ys H7 ⟨x,rfl,rfl,hE7,s7⟩
    refine⟨E',_,rfl,Qi hE7,_,rfl,?_⟩
    rw[Qod]
    exact q H7 (SH.trans (Xm (s6.trans s7))) (LB5.same (s6.trans s7))
  .have S05:=S4.trans S5
   refine⟨_,rfl,_,rfl,P2,p,_,_,rfl,rfl,(ProbAt.sameT pr2 S05).hasD,(ProbAt.sameT prP S05).hasD,Qdh _ _ _ _,fun c hc=>⟨_,rfl,?_⟩⟩
   rw[hc.mpr rfl]
   refine iteF ⟨_,rfl,rfl,_,rfl,?_⟩
   rw[show decide (V.ref u=V.non)=false by simp]
   refine iteF (iteF ⟨_,rfl,rfl,_,rfl,?_⟩)
   rw[show decide (V.ref u=V.non)=false by simp]
   refine iteF ⟨_,rfl,_,rfl,_,rfl,_,rfl,p,u,i,j,rs,cs,cs.length,t,rfl,ProbAt.sameT prP S05,Qi eu,T,hcl,rfl,hrl,hrs,hi,kt,ej,fun H6 s6=>⟨_,rfl,iteF ?_⟩⟩
   have eu6:=s6 _ _ eu
   refine⟨_,rfl,.inl ⟨rfl,_,Qi eu6⟩,u,_,_,rfl,rfl,eu6,(by rw[jX,Yk,T.length];lia),⟨_,_,rfl,?_,Qoc (LB5.same s6) eu6⟩⟩
   refine Qrg fun b o e=>?_
   have e4:=Kc S4 b o e
   rw[Qk (fun z=>?_)]
   .exact s6 _ _ (Kc S05 b o e)
   .have:=Jr S4 fu
    rw[z]at e
    rw[this]at e;cases e
 .rintro σ H4 ⟨x6,x7,rfl,S4,LB4⟩
  exact q H4 ((Xm s2).trans S4) LB4
abbrev Kx:Stmt:=top 22
def orbM(t:List Nat)(n:Nat)(r:Row)(k:Nat):List Row:=(List.range k).map (ledM t n r)
theorem Qep(t:List Nat)(n:Nat)(r:Row)(k:Nat):orbM t n r (k+1)=orbM t n r k++[ledM t n r k]:=by
 unfold orbM;rw[kZb,zK];rfl
theorem Qcb(t:List Nat)(n:Nat)(r:Row)(k:Nat):(orbM t n r k).length=k:=by unfold orbM;rw[jX,kQ]
theorem Qof{K:Fg}{H:Hp}{ws:List V}{t:List Nat}{n:Nat}{r:Row}{k:Nat}(hk:1<=k)(h:RowsAre K H ws (orbM t n r k)):∃a,atI ws (-1)=some (.ref a)/\RowAt K H a (ledM t n r (k-1)):=by
 have lw:=h.length
 rw[Qcb]at lw
 obtain⟨a,q,e1,e2,z⟩:=h.get (gE (show ws.length-1<ws.length by lia))
 refine⟨a,Qhk (by rw[gE Om,e1]) Om,?_⟩
 unfold orbM at e2
 rw[jV,xY Om]at e2
 have:ledM t n r (ws.length-1)=q:=Option.some.inj e2
 rw[<-this,lw]at z
 exact z
def plM(t:List Nat)(n i k:Nat):List Int:=(List.range k).map fun m=>(((pw n t m).getD i 0:Nat):Int)
theorem Qrh(t:List Nat)(n i k:Nat):plM t n i (k+1)=plM t n i k++[(((pw n t k).getD i 0:Nat):Int)]:=by
 unfold plM;rw[kZb,zK];rfl
theorem Qae(t:List Nat)(n i k:Nat):(plM t n i k).length=k:=by unfold plM;rw[jX,kQ]
theorem Qih{t:List Nat}{n i k:Nat}(hk:1<=k):atI ((plM t n i k).map V.int) (-1)=some (.int (((pw n t (k-1)).getD i 0:Nat):Int)):=by
 refine Qhk ?_ ?_
 .rw[jX,Qae]
  unfold plM
  rw[jV,jV,xY Om]
  rfl
 .rw[jX,Qae];lia
theorem Qva{n:Nat}{t:List Nat}(T:IsTurn n t){i k:Nat}(hi:i<n):t.getD ((pw n t k).getD i 0) 0=(pw n t (k+1)).getD i 0:=by
 show _=(after (pw n t k) t).getD i 0
 obtain⟨e,_⟩:=getT (Wg T k) hi
 unfold after
 rw[jY (l:=List.map _ _),jV,e]
 rfl
theorem Qog{t:List Nat}{n:Nat}{r:Row}{k:Nat}(k1:1<=k)(e:ledM t n r k=r):((orbM t n r k).map (ledR t n)).Perm (orbM t n r k):=by
 obtain⟨j,rfl⟩:∃j,k=j+1:=⟨k-1,Om⟩
 have h1:(orbM t n r (j+1)).map (ledR t n)=(orbM t n r j).map (ledR t n)++[r]:=by
  rw[Qep,zK]
  show _++[ledM t n r (j+1)]=_
  rw[e]
 have h2:orbM t n r (j+1)=r::(orbM t n r j).map (ledR t n):=by
  unfold orbM
  rw[List.range_succ_eq_map,zW,jQb,jQb]
  rfl
 rw[h1,h2]
 exact jXb
def Qeq(n:Nat)(t:List Nat)(i x:Nat):Prop:=(∃m,x=(pw n t m).getD i 0)/\∀m,x<=(pw n t m).getD i 0
theorem Qer{n:Nat}{t:List Nat}(T:IsTurn n t){i:Nat}(hi:i<n)(m:Nat):(pw n t m).getD i 0=itF (fun j=>t.getD j 0) m i:=by
 rw[jY,Qti T hi m];rfl
theorem Qvb{n:Nat}{t:List Nat}(T:IsTurn n t){i k m':Nat}(hi:i<n)(k1:1<=k)(e:(pw n t k).getD i 0=i)(h:∀m,m<k->(pw n t m').getD i 0<=(pw n t m).getD i 0):Qeq n t i ((pw n t m').getD i 0):=by
 refine⟨⟨m',rfl⟩,fun m=>?_⟩
 have h2:=h (m % k) (yJd _ Om)
 rw[Qer T hi (m % k)]at h2
 rw[Qer T hi m]
 rw[Qer T hi k]at e
 have e2:itF (fun j=>t.getD j 0) m i=itF (fun j=>t.getD j 0) (m % k) i:=by
  conv=>lhs;rw[<-Nat.mod_add_div m k]
  rw[Jb,Qbo e]
 rw[e2]
 exact h2
theorem Qri{n:Nat}{t:List Nat}(T:IsTurn n t)(hn:n<=10){i x y:Nat}(hi:i<n)(hx:Qeq n t i x)(hy:Qeq n t (t.getD i 0) y):x=y:=by
 obtain⟨M,m1,_,em⟩:=Qhe T hn
 have hf:=(getT T hi).2
 obtain⟨⟨a,ea⟩,la⟩:=hx
 obtain⟨⟨b,eb⟩,lb⟩:=hy
 have eM:itF (fun j=>t.getD j 0) M i=i:=by
  rw[<-Qer T hi,em,jY,xY hi];rfl
 have s1:∀m,itF (fun j=>t.getD j 0) m (t.getD i 0)=itF (fun j=>t.getD j 0) (m+1) i:=fun m=>(Jb _ m 1 i).symm
 have s2:∀m,itF (fun j=>t.getD j 0) m i=itF (fun j=>t.getD j 0) (m+(M-1)) (t.getD i 0):=fun m=>by
  rw[s1,show m+(M-1)+1=m+M by lia,Jb,eM]
 have h1:=la (b+1)
 have h2:=lb (a+(M-1))
 rw[Qer T hi,<-s1,<-Qer T hf,<-eb]at h1
 rw[Qer T hf,<-s2,<-Qer T hi,<-ea]at h2
 lia
theorem Qrj{n:Nat}{t:List Nat}(T:IsTurn n t)(hn:n<=10){cs ds:List Int}(h:∀j,j<n->∃x,Qeq n t j x/\ds.getD j 0=cs.getD x 0):Qdk ds t n:=fun i hi=>by
 obtain⟨x,hx,ex⟩:=h i hi
 obtain⟨y,hy,ey⟩:=h _ (getT T hi).2
 rw[ex,ey,Qri T hn hi hx hy]
theorem Qjo{ds:List Int}{z:Int}{j:Nat}(h:j<ds.length):(ds++[z]).getD j 0=ds.getD j 0:=by
 rw[jY,yQb h,<-jY]
theorem Qjp{ds:List Int}{z:Int}:(ds++[z]).getD ds.length 0=z:=by
 rw[jY,jQa (jW _)];simp
theorem scAlike28:FnScope ["_law_problem_here","_law_turn","_law_rows","_law_row_here","_law_more","_law_costs","_law_i","_law_lot"] ["_law_problem_here","_law_turn"] (Qh Kx):=⟨rfl,rfl,rfl,Dk,rfl,Dk,Dk⟩
theorem Qoh(F:Fn K mg "_law_alike" Kx)(M:Mg mg)(cl_led:Cal P w K mg base 1 "_law_led" ["_law_row_here","_law_turn"] (Kk K)):Cal P w K mg base 2 "_law_alike" ["_law_problem_here","_law_turn"] (Qly K):=by
 refine Xy F scAlike28 (fun _ _ _ _ _ _=>Vn (fun _ _=>rfl)) (fun vs H Q E h=>?_) (fun f cdv A outer s H vs Q E hr h=>?_)
 .obtain⟨p,u,rs,cs,n,t,rfl,_⟩:=h
  rfl
 obtain⟨p,u,rs,cs,n,t,rfl,pr,hu1,T,hn,hrl,hcl,h3,q⟩:=h
 have hu6:(A.deeper (PyProof.Rows.envOfC "_law_alike" (Qh Kx) s.heap.objs.size f cdv)).units+6<cLine:=xX (xZ Dc _) hr.un
 refine⟨_,(Qg (Qo (i:=2) scAlike28.nd rfl (Or.inl rfl) (Yj Qf))
  (Qg (Yb PassesOwn.never rfl (Xj (Qu Qy (pv 0) Qj (fun _ _=>rfl))) (Qz (i:=3) scAlike28.nd rfl (Or.inl rfl) (Or.inl rfl)) (Qg (Qo (i:=4) scAlike28.nd rfl (Or.inl rfl) (Yj (Qa (pv 3) Qf)))
  (Qg (Qba PassesOwn.never (Xc (Qcy (n:=6) hu6) (Xp cl_led (hr.mono Dc) (Qa (Qu Xn (pv 4) (Qoo Qgn Qj) (fun _ _=>rfl)) (Qa (pv 1) Qf))) (pv 3) (Xf _)) (Qm (Zb (Vm PySem.F.plainAttrs_list PySem.F.slot_list_append PySem.F.type_list_append Xo (pv 4) (Qa (Xp cl_led (hr.mono Dc) (Qa (Qu Xn (pv 4) (Qoo Qgn Qj) (fun _ _=>rfl)) (Qa (pv 1) Qf))) Qf)))))
  (Qm (Qo (i:=2) scAlike28.nd rfl (Or.inl rfl) (Qx Qkn (pv 2) (pv 4)))))))
  (Qg (Qo (i:=5) scAlike28.nd rfl (Or.inl rfl) (Yj Qf))
  (Qg (Yb PassesOwn.never rfl (Ya rfl M.range_ (Qa (Qn Xa rfl M.len Zj (Qa (pv 1) Qf)) Qf)) (Qz (i:=6) scAlike28.nd rfl (Or.inl rfl) (Or.inl rfl)) (Qg (Qo (i:=7) scAlike28.nd rfl (Or.inl rfl) (Yj (Qa (pv 6) Qf)))
  (Qg (Qba PassesOwn.never (Xc Qop (Qu Xn (pv 1) (Qu Xn (pv 7) (Qoo Qgn Qj) (fun _ _=>rfl)) (fun _ _=>rfl)) (pv 6) (Xf _)) (Qm (Zb (Vm PySem.F.plainAttrs_list PySem.F.slot_list_append PySem.F.type_list_append Xo (pv 7) (Qa (Qu Xn (pv 1) (Qu Xn (pv 7) (Qoo Qgn Qj) (fun _ _=>rfl)) (fun _ _=>rfl)) Qf)))))
  (Qm (Zb (Vm PySem.F.plainAttrs_list PySem.F.slot_list_append PySem.F.type_list_append Xo (pv 5) (Qa (Qu Qy (Qu Qy (pv 0) Qj (fun _ _=>rfl)) (Qn (Qlp rfl) rfl M.min Qrt (Qa (pv 7) Qf)) (fun _ _=>rfl)) Qf)))))))
  (Qm (Qs (Yd (Qa (pv 2) (Qa (Qt Xd rfl M.tuple_ Yt (Qa (pv 5) Qf)) Qf))))))))),?_⟩
 have hz:(1000:Nat)<sizeLine:=Dc
 obtain⟨l,c,vs,ht,hl,hrw,hc⟩:=id pr
 have lt:=T.length
 have lv:=hrw.length
 have lT:((tI t).map V.int).length=n:=by rw[jX,Yk];exact lt
 have rg:∀{H1:Hp} {h':Addr} {row:Row} {k:Nat},RowAt K H1 h' (put (ledM t n row k).1 t n,(ledM t n row k).2)->RowAt K H1 h' (ledM t n row (k+1)):=fun z=>z
 obtain⟨M',m1,m2,em⟩:=Qhe T hn
 refine⟨by show 0<=sizeLine;decide,fun g0 hg0=>?_⟩
 have s0:=Qc hg0 (.lst [])
 let Pv25:Nat->St->Hp->Prop:=fun i σ H1=>∃(g:Addr) (ws:List V) (rs':List Row) (x y:Option V),σ=[some (.ref p),some (.ref u),some (.ref g),x,y,none,none,none]/\H1 g=some (.lst ws)/\RowsAre K H1 ws rs'/\(∀r∈rs',r.1.length=n)/\rs'.length<=36*i/\(rs'.map (ledR t n)).Perm rs'/\Same H H1
 refine⟨_,rfl,p,_,_,_,rfl,rfl,s0.tup ht,at0,l,rfl,⟨_,s0.seq hl⟩,Kd (K:=K) (a:=l) (xs:=vs) Pv25 ⟨g0,[],[],none,none,rfl,Qb,.nil,(fun r hr'=>nomatch hr'),jW _,.refl _,s0⟩ (fun i σ H1 _ h=>?_) ?_ ?_⟩
 .obtain⟨g,ws,rs',x,y,rfl,hg,hra,hln,hlen,hpm,s1⟩:=h
  exact s1.seq hl
 .rintro i x σ H1 e1 ⟨g,ws,rs',x',y',rfl,hg,hra,hln,hlen,hpm,s1⟩
  obtain⟨t',row,rfl,er,hrt⟩:=hrw.get e1
  have hi:i<rs.length:=(jK.mp er).1
  have lr:=hrl row (kY er)
  have eM:ledM t n row M'=row:=by rw[Qlu T lr,em,Wf lr]
  refine⟨_,rfl,by show 1<=sizeLine;decide,fun m hm=>?_⟩
  have sm:=Qc hm (.lst [.ref t'])
  have hm0:upd H1 m (.lst [.ref t']) m=some (.lst [.ref t']):=Qb
  generalize upd H1 m (.lst [.ref t'])=H1' at sm hm0⊢
  refine Qbb (fun σ H2=>∃(k:Nat) (w2:List V),σ=[some (.ref p),some (.ref u),some (.ref g),some (.ref t'),some (.ref m),none,none,none]/\1<=k/\k<=M'/\H2 m=some (.lst w2)/\RowsAre K H2 w2 (orbM t n row k)/\Same H1 H2)
   (fun σ H2=>match H2 m with | some (.lst ws)=>M'-ws.length | _=>0) ⟨1,[.ref t'],rfl,jW _,m1,hm0,Qpq (hrt.same (s1.trans sm)),sm⟩ ?_ ?_
  .rintro σ H2 ⟨k,w2,rfl,k1,k2,hm2,ho,s2⟩
   have lw:=ho.length
   rw[Qcb]at lw
   obtain⟨a,ea,za⟩:=Qof k1 ho
   have s12:=s1.trans s2
   refine⟨_,rfl,_,rfl,m,_,_,_,rfl,rfl,Qi hm2,ea,_,rfl,a,u,ledM t n row (k-1),n,t,rfl,za,s12.seq hu1,T,Qbq T lr _,Om,fun r' H3 s3 rr=>?_⟩
   have rr:=rg rr
   rw[show k-1+1=k by lia]at rr
   refine⟨_,rfl,r',t',_,_,rfl,rfl,rr.hasD,(hrt.same (s12.trans s3)).hasD,Qgz _ _,fun b hb=>⟨_,rfl,?_⟩⟩
   have hm3:=s3 _ _ hm2
   have ho3:=Xg s3 ho
   have s23:=s2.trans s3
   have s13:=s1.trans s23
   cases b with
   |true=>
    refine iteF ⟨_,rfl,_,rfl,g,m,ws,w2,rfl,rfl,s23 _ _ hg,hm3,by have:=hra.length;lia,fun g2 hg2=>?_⟩
    have sg:=Qc hg2 (.lst (ws++w2))
    refine⟨g2,_,rs'++orbM t n row k,_,_,rfl,Qb,Xg sg (Qlv (Xg s23 hra) ho3),fun x hx=>?_,by rw[yV,Qcb];lia,by rw[zK];exact hpm.append (Qog k1 (Qhh (hb.mp rfl))),s13.trans sg⟩
    rcases wX.mp hx with y | y
    .exact hln x y
    .obtain⟨k',_,rfl⟩:=zQ.mp y
     exact Qbq T lr _
   |false=>
    have ne:ledM t n row k≠row:=fun z=>nomatch hb.mpr (congrArg rowD z)
    have km:k<M':=Nat.lt_of_le_of_ne k2 fun z=>ne (by rw[z];exact eM)
    refine iteT ⟨_,rfl,.inl ⟨rfl,_,Qi hm3⟩,_,rfl,_,rfl,m,_,_,_,rfl,rfl,Qi hm3,ea,_,rfl,a,u,ledM t n row (k-1),n,t,rfl,za.same s3,s13.seq hu1,T,Qbq T lr _,Om,fun r2 H4 s4 rr2=>?_⟩
    have rr2:=rg rr2
    rw[show k-1+1=k by lia]at rr2
    have hm4:=s4 _ _ hm3
    refine⟨m,w2,_,rfl,rfl,hm4,Om,⟨k+1,_,rfl,Om,Om,Qb,?_,fun b o e=>?_⟩,?_⟩
    .rw[Qep]
     exact Wj (Wl hm4 (Xg s4 ho3)) (rr2.upd hm4)
    .rw[Qk (Ql e hm)];exact s4 _ _ (s23 _ _ e)
    .show(match upd H4 m (.lst (w2++[V.ref r2])) m with | some (.lst ws)=>M'-ws.length | _=>0)<(match H2 m with | some (.lst ws)=>M'-ws.length | _=>0)
     rw[Qb,hm2]
     show M'-(w2++[V.ref r2]).length<M'-w2.length
     rw[yV]
     show M'-(w2.length+1)<M'-w2.length
     lia
  .rintro σ H2 Q1 Q2 hq ⟨x1,e1,x2,e2,a1,a2,a3,a4,f1,f2,f3,f4,x5,e5,b1,b2,b3,b4,b5,b6,b7,b8,b9,b10,b11,b12⟩
   refine⟨x1,e1,x2,e2,a1,a2,a3,a4,f1,f2,f3,f4,x5,e5,b1,b2,b3,b4,b5,b6,b7,b8,b9,b10,b11,fun r' H3 s3 rr=>?_⟩
   obtain⟨y1,y2,y3,y4,y5,y6,y7,y8,y9,y10,y11,y12⟩:=b12 r' H3 s3 rr
   exact⟨y1,y2,y3,y4,y5,y6,y7,y8,y9,y10,y11,fun b hb=>let ⟨z1,z2,z3⟩:=y12 b hb;⟨z1,z2,hq _ _ z3⟩⟩
 rintro σ H1 ⟨g,ws,rs',x3,x4,rfl,hg,hra,hln,hlen,hpm,s1⟩
 refine⟨by show 0<=sizeLine;decide,fun C0 hC0=>?_⟩
 have sC:=Qc hC0 (.lst [])
 refine⟨_,rfl,u,_,rfl,.inl ((s1.trans sC).seq hu1),_,rfl,Om,by rw[lT];lia,Yn (lo:=0) (n:=Int.toNat ((((tI t).map V.int).length:Nat):Int)) (fun i σ H2=>∃(ds:List Int) (x6 x7:Option V),σ=[some (.ref p),some (.ref u),some (.ref g),x3,x4,some (.ref C0),x6,x7]/\H2 C0=some (.lst (ds.map V.int))/\ds.length=i/\(∀j,j<i->∃x,Qeq n t j x/\ds.getD j 0=cs.getD x 0)/\Same H1 H2) ⟨[],none,none,rfl,Qb,rfl,(fun j hj=>absurd hj (kZa j)),sC⟩ ?_ ?_⟩
 .rintro i σ H2 hi ⟨ds,x6,x7,rfl,hC2,ld,hor,s2⟩
  have hi':i<n:=by rw[lT]at hi;lia
  rw[show(0:Int)+(i:Int)=((i:Nat):Int)by lia]
  refine⟨_,rfl,by show 1<=sizeLine;decide,fun L hL=>?_⟩
  have sL:=Qc hL (.lst [.int (i:Nat)])
  have hL0:upd H2 L (.lst [.int (i:Nat)]) L=some (.lst ((plM t n i 1).map V.int)):=by
   rw[Qb]
   show _=some (HO.lst [V.int (((List.range n).getD i 0:Nat):Int)])
   rw[jY,xY hi']
   rfl
  generalize upd H2 L (.lst [.int (i:Nat)])=H2' at sL hL0⊢
  have pl:∀k,(pw n t k).getD i 0<n:=fun k=>(getT (Wg T k) hi').2
  refine Qbb (fun σ H3=>∃k:Nat,σ=[some (.ref p),some (.ref u),some (.ref g),x3,x4,some (.ref C0),some (.int (i:Nat)),some (.ref L)]/\1<=k/\k<=M'/\H3 L=some (.lst ((plM t n i k).map V.int))/\Same H2 H3)
   (fun σ H3=>match H3 L with | some (.lst ws)=>M'-ws.length | _=>0) ⟨1,rfl,jW _,m1,hL0,sL⟩ ?_ ?_
  .rintro σ H3 ⟨k,rfl,k1,k2,hL3,s3⟩
   have s13:=(s1.trans s2).trans s3
   obtain⟨et,_⟩:=getT T (pl (k-1))
   have ps:=Qva T (k:=k-1) hi'
   rw[show k-1+1=k by lia]at ps
   rw[ps]at et
   have au:atI ((tI t).map V.int) (((pw n t (k-1)).getD i 0:Nat):Int)=some (.int (((pw n t k).getD i 0:Nat):Int)):=Qpj (by rw[jV,Qrv et];rfl)
   refine⟨_,rfl,_,rfl,_,rfl,L,_,_,_,rfl,rfl,Qi hL3,Qih k1,u,_,_,_,rfl,rfl,s13.seq hu1,au,_,rfl,rfl,_,rfl,?_⟩
   rw[Qdm]
   refine ite2 (fun y=>?_) (fun y=>?_)
   .have ne:(pw n t k).getD i 0≠i:=fun z=>by rw[xW (show(((pw n t k).getD i 0:Nat):Int)=((i:Nat):Int)by rw[z])]at y;cases y
    have km:k<M':=Nat.lt_of_le_of_ne k2 fun z=>ne (by rw[z,em,jY,xY hi'];rfl)
    refine⟨_,rfl,.inl ⟨rfl,_,Qi hL3⟩,_,rfl,_,rfl,_,rfl,L,_,_,_,rfl,rfl,Qi hL3,Qih k1,u,_,_,_,rfl,rfl,s13.seq hu1,au,L,_,_,rfl,rfl,hL3,by rw[jX,Qae];lia,⟨k+1,rfl,Om,Om,?_,fun b o e=>?_⟩,?_⟩
    .rw[Qb,Qrh,zK];rfl
    .rw[Qk (Ql e hL)];exact s3 _ _ e
    .show(match upd H3 L (.lst ((plM t n i k).map V.int++[V.int (((pw n t k).getD i 0:Nat):Int)])) L with | some (.lst ws)=>M'-ws.length | _=>0)<(match H3 L with | some (.lst ws)=>M'-ws.length | _=>0)
     rw[Qb,hL3]
     show M'-((plM t n i k).map V.int++[V.int (((pw n t k).getD i 0:Nat):Int)]).length<M'-((plM t n i k).map V.int).length
     rw[yV,jX,Qae]
     show M'-(k+1)<M'-k
     lia
   .refine⟨_,rfl,.inl ⟨rfl,_,Qi (s3 _ _ hC2)⟩,_,rfl,p,_,_,_,rfl,rfl,s13.tup ht,at1,_,rfl,L,_,rfl,Qi hL3,fun z=>?_,fun mn hmn hmin=>?_⟩
    .have:=Qae t n i k
     rw[z]at this
     simp at this
     lia
    .obtain⟨m',_,rfl⟩:=zQ.mp hmn
     refine⟨c,_,_,_,rfl,rfl,s13.tup hc,atK6 (by have:=pl m';lia),C0,_,_,rfl,rfl,s3 _ _ hC2,by rw[jX];lia,ds++[cs.getD ((pw n t m').getD i 0) 0],_,_,rfl,by rw[Qb,zK];rfl,by rw[yV,ld];rfl,fun j hj=>?_,fun b o e=>?_⟩
     .rcases zQb j i with c | c
      .obtain⟨x,h1,h2⟩:=hor j c
       exact⟨x,h1,by rw[Qjo Om];exact h2⟩
      .have ej:j=i:=Om
       rw[ej]
       refine⟨_,Qvb T hi' k1 (Classical.byContradiction fun z=>y (by rw[wQ (fun w=>z Om)];rfl)) fun m hm=>?_,by rw[<-ld];exact Qjp⟩
       exact Int.ofNat_le.mp (hmin _ (zQ.mpr ⟨m,yQ.mpr hm,rfl⟩))
     rw[Qk (Ql e hC0)];exact s3 _ _ (s2 _ _ e)
  .rintro σ H3 Q1 Q2 hq ⟨x1,e1,x2,e2,x3,e3,a1,a2,a3,a4,f1,f2,f3,f4,b1,b2,b3,b4,g1,g2,g3,g4,x5,e5,w1,y1,y2,y3⟩
   exact⟨x1,e1,x2,e2,x3,e3,a1,a2,a3,a4,f1,f2,f3,f4,b1,b2,b3,b4,g1,g2,g3,g4,x5,e5,w1,y1,y2,hq _ _ y3⟩
 .rintro σ H2 ⟨ds,x6,x7,rfl,hC2,ld,hor,s2⟩
  rw[show Int.toNat ((((tI t).map V.int).length:Nat):Int)=n by rw[lT];lia]at ld hor
  refine⟨_,rfl,_,rfl,C0,_,rfl,.inl ⟨Qi hC2,fun cc hcc=>⟨by show 2<=sizeLine;decide,fun P' hP'=>?_⟩⟩⟩
  have sB:=Qc hP' (.tup [.ref g,.ref cc])
  have sA:=(Qc hcc (.tup (ds.map V.int))).trans sB
  exact q P' rs' ds _ ((s1.trans s2).trans sA) ⟨g,cc,ws,Qr Qb,Qi ((s2.trans sA) _ _ hg),Xg (s2.trans sA) hra,sB.tup (Qr Qb)⟩ hln ld Om ⟨Qrj T hn hor,hpm⟩
abbrev sLaw:Stmt:=top 26
theorem Qsj(z:Int){m:Int}(hm:0<m):∃k:Nat,z % m=(k:Int)/\k<m.toNat:=by
 have a:=yXa z (Int.ne_of_gt hm)
 have b:=kJb z hm
 exact⟨(z % m).toNat,Om,Om⟩
def Qcc(K:Fg)(T1 T2:Addr):Sp:=fun vs H Q _=>∃(a:Addr) (ns:List Int),vs=[.ref a]/\SqL K H a (ns.map V.int)/\ns.length<=63/\LamB H T1 T2/\∀H',Q (.bl true) H'
theorem scLaw:FnScope ["_law_script","_law_cell","_law_many","_law_problem_here","_law_left_here","_law_turn","_law_one","_law_other"] ["_law_script"] (Qh sLaw):=⟨rfl,rfl,rfl,Dk,rfl,Dk,Dk⟩
theorem okLaw{f:Addr}{fd:FuncData}(F:Fun K "law" "law" sLaw f fd)(M:Mg mg){T1 T2:Addr}(cl_cell_at:Cal P w K mg base 1 "_law_cell_at" ["_law_script","_law_k"] (Qgy K))(cl_problem:Cal P w K mg base 3 "_law_problem" ["_law_script","_law_many","_law_count"] (Wm K))(cl_numbered:Cal P w K mg base 1 "_law_numbered" ["_law_many","_law_left_here"] (Qsa K))(cl_alike:Cal P w K mg base 2 "_law_alike" ["_law_problem_here","_law_turn"] (Qly K))(cl_right:Cal P w K mg base 16 "_law_right" ["_law_problem_here","_law_one","_law_other","_law_known"] (Qoe K T1 T2)):FnOk P w K mg base CX0 17 f fd ["_law_script"] (Qcc K T1 T2):=by
 refine F.ok scLaw (fun vs H Q E h=>?_) (fun cdv A outer s H vs Q E hr h=>?_)
 .obtain⟨a,ns,rfl,_⟩:=h
  rfl
 obtain⟨a,ns,rfl,hS,h63,LB,q⟩:=h
 refine⟨_,(Qg (Qo (i:=1) scLaw.nd rfl (Or.inl rfl) (Xp cl_cell_at (hr.mono Dc) (Qa (pv 0) (Qa Qj Qf))))
  (Qg (Qo (i:=2) scLaw.nd rfl (Or.inl rfl) (Qx Yi Qj (Qx Zc (pv 1) Qj)))
  (Qg (Zn (Xc Qeu (Qx Zc (Qx Jv (pv 1) Qj) Qj) Qj (Xf _)) (Qm (Qo (i:=2) scLaw.nd rfl (Or.inl rfl) (Qx Yi Qj (Qx Zc (pv 1) Qj)))) Xi)
  (Qg (Qo (i:=3) scLaw.nd rfl (Or.inl rfl) (Xp cl_problem (hr.mono Dc) (Qa (pv 0) (Qa (pv 2) (Qa (Qx Zc (Qx Jv (pv 1) Qj) Qj) Qf)))))
  (Qg (Qo (i:=4) scLaw.nd rfl (Or.inl rfl) (Xp cl_cell_at (hr.mono Dc) (Qa (pv 0) (Qa Qj Qf))))
  (Qg (Qo (i:=5) scLaw.nd rfl (Or.inl rfl) (Qt (Kg rfl) rfl M.list_ Ja (Qa (Qgu M.range_ (Qa (pv 2) Qf)) Qf)))
  (Qg (Zn (Xc Qsp (Qx Zc (pv 4) Qj) Qj (Xf _)) (Qg (Qo (i:=5) scLaw.nd rfl (Or.inl rfl) (Xp cl_numbered (hr.mono Dc) (Qa (pv 2) (Qa (Qx Jv (pv 4) Qj) Qf))))
  (Qm (Qo (i:=3) scLaw.nd rfl (Or.inl rfl) (Xp cl_alike (hr.mono Dc) (Qa (pv 3) (Qa (pv 5) Qf)))))) Xi)
  (Qg (Qo (i:=6) scLaw.nd rfl (Or.inl rfl) (Qx Zc (Xp cl_cell_at (hr.mono Dc) (Qa (pv 0) (Qa Qj Qf))) (pv 2)))
  (Qg (Qo (i:=7) scLaw.nd rfl (Or.inl rfl) (Qx Zc (Qx Qbm (Xp cl_cell_at (hr.mono Dc) (Qa (pv 0) (Qa Qj Qf))) (pv 2)) (pv 2)))
  (Qm (Qs (Qch (Xp cl_right (hr.mono Dc) (Qa (pv 3) (Qa (pv 6) (Qa (Qu Xn (pv 5) (pv 6) (fun _ _=>rfl)) (Qa Qaf Qf))))) (Qcg (Xp cl_right (hr.mono Dc) (Qa (pv 3) (Qa (pv 6) (Qa (pv 7) (Qa Qaf Qf)))))))))))))))))),?_⟩
 have hz:(1000:Nat)<sizeLine:=Dc
 refine⟨_,rfl,a,ns,0,rfl,hS,Dc,fun z0=>⟨_,rfl,_,_,rfl,rfl,(by show(0:Int)<_;decide),_,_,rfl,rfl,?_⟩⟩
 have m0:=yXa z0 (show(5:Int)≠0 by decide)
 have m1:=kJb z0 (show(0:Int)<5 by decide)
 refine Qhj (fun σ' H'=>∃(M:Nat),σ'=[some (.ref a),some (.int z0),some (.int (M:Nat)),none,none,none,none,none]/\1<=M/\M<=10/\H=H') ?_ fun REST=>?_
 .rintro σ' H' ⟨M,rfl,M1,M10,rfl⟩
  have n0:=yXa (z0 / 8) (show(4:Int)≠0 by decide)
  have n1:=kJb (z0 / 8) (show(0:Int)<4 by decide)
  refine⟨_,rfl,_,rfl,_,rfl,_,_,rfl,rfl,⟨Dc,Dc⟩,_,_,rfl,rfl,(by show(0:Int)<_;decide),?_⟩
  refine⟨a,ns,_,_,rfl,hS,Om,Om,n0,Om,fun p rs cs H1 s1 pt hr1 hcl hrl=>?_⟩
  have hln:∀r∈rs,r.1.length=M:=fun r hr'=>by have:=hr1 r hr';lia
  have hcl':cs.length=M:=Om
  refine⟨_,rfl,a,ns,2,rfl,s1.seq hS,Dc,fun z2=>?_⟩
  refine⟨_,rfl,_,rfl,fun R hR=>⟨R,_,rfl,Qb,Om,Om,fun L hL=>?_⟩⟩
  have sL:=(Qc hR (.rng 0 ((M:Nat):Int))).trans (Qc hL (.lst ((List.range ((M:Nat):Int).toNat).map fun i=>V.int (i:Nat))))
  have eL:upd (upd H1 R (.rng 0 ((M:Nat):Int))) L (.lst ((List.range ((M:Nat):Int).toNat).map fun i=>V.int (i:Nat))) L=some (.lst ((tI (List.range M)).map V.int)):=by
   rw[Qb,jQe];unfold tI;rw[jQb];rfl
  have s2:=s1.trans sL
  have pt2:=pt.same sL
  generalize upd (upd H1 R (.rng 0 ((M:Nat):Int))) L (.lst ((List.range ((M:Nat):Int).toNat).map fun i=>V.int (i:Nat)))=H2 at eL s2 pt2⊢
  refine Qhj (fun σ' H'=>∃(P u:Addr) (rs:List Row) (cs:List Int) (t:List Nat),σ'=[some (.ref a),some (.int z0),some (.int (M:Nat)),some (.ref P),some (.int z2),some (.ref u),none,none]/\ProbAt K H' P rs cs/\SqL K H' u ((tI t).map V.int)/\IsTurn M t/\(∀r∈rs,r.1.length=M)/\cs.length=M/\rs.length<=108/\Yp rs cs t M/\Same H H') ?_ fun REST2=>?_
  .clear pt hr1 hcl hrl pt2 s2 eL sL hln hcl' s1
   rintro σ' H3 ⟨P,u,rs,cs,t,rfl,pr,huL,T,hln,hcl,hrl,kt,s3⟩
   have Mp:(0:Int)<((M:Nat):Int):=Om
   refine⟨_,rfl,a,ns,1,rfl,s3.seq hS,Dc,fun z1=>⟨_,rfl,_,_,rfl,rfl,Mp,?_⟩⟩
   obtain⟨i,ei,hi⟩:=Qsj z1 Mp
   show Qag 6 (V.int (z1 % ((M:Nat):Int))) _ _ _
   rw[ei]
   refine⟨_,rfl,a,ns,1,rfl,s3.seq hS,Dc,fun z1b=>⟨_,rfl,_,_,rfl,rfl,⟨Om,by unfold Big;lia⟩,_,rfl,_,_,rfl,rfl,Mp,?_⟩⟩
   obtain⟨j,ej,hj⟩:=Qsj (z1b.fdiv ((M:Nat):Int)) Mp
   show Qag 7 (V.int (z1b.fdiv ((M:Nat):Int) % ((M:Nat):Int))) _ _ _
   rw[ej]
   rw[jQe]at hi hj
   have et:(tI t)[i]?=some ((t.getD i 0:Nat):Int):=by
    unfold tI
    rw[jV,(getT T hi).1];rfl
   subst hcl
   refine⟨_,rfl,_,rfl,_,rfl,_,rfl,u,_,_,_,rfl,rfl,huL,Ky (by rw[jV,et];rfl),P,i,t.getD i 0,true,rs,cs,rfl,pr,LB.same s3,hln,Om,M10,hi,(getT T hi).2,(fun _=>⟨t,T,kt,rfl⟩),fun H4 S4 LB4=>⟨_,rfl,iteT ⟨_,rfl,_,rfl,_,rfl,P,i,j,false,rs,cs,rfl,ProbAt.sameT pr S4,LB4,hln,Om,M10,hi,hj,(fun z=>nomatch z),fun H5 _ _=>q H5⟩⟩⟩
  .obtain⟨i1,i2,_⟩:=Qig (cs:=cs) hln
   refine⟨_,rfl,_,_,rfl,rfl,(by show(0:Int)<_;decide),_,_,rfl,rfl,_,rfl,ite2 (fun _=>?_) (fun _=>REST2 _ _ ⟨p,L,rs,cs,_,rfl,pt2,Qi eL,i1,hln,hcl',Om,i2,s2⟩)⟩
   refine⟨_,rfl,_,rfl,_,_,rfl,rfl,⟨Dc,Dc⟩,_,_,rfl,Om,Om,fun u t H3 s3 huL T=>?_⟩
   rw[jQe]at T
   exact⟨_,rfl,_,rfl,p,u,rs,cs,M,t,rfl,pt2.same s3,Qi huL,T,M10,hln,hcl',Om,fun p' rs' cs' H4 s4 pr4 l4 c4 r4 k4=>REST2 _ _ ⟨p',u,rs',cs',t,rfl,pr4,Qi (s4 _ _ huL),T,l4,c4,r4,k4,s2.trans (s3.trans s4)⟩⟩
 .refine⟨_,rfl,_,_,rfl,rfl,⟨Dc,Dc⟩,_,_,rfl,rfl,(by show(0:Int)<_;decide),rfl,_,rfl,ite2 (fun _=>⟨_,rfl,_,_,rfl,rfl,(by show(0:Int)<_;decide),_,_,rfl,rfl,REST _ _ ⟨(6+z0 % 5).toNat,?_,Om,Om,rfl⟩⟩) (fun _=>REST _ _ ⟨(1+z0 % 5).toNat,?_,Om,Om,rfl⟩)⟩
  .rw[Int.toNat_of_nonneg Om];rfl
  .rw[Int.toNat_of_nonneg Om];rfl
abbrev Qcd:Stmt:=top 3
theorem scTurned:FnScope ["row","turn","numbers","number","place"] ["row","turn"] (Qh Qcd):=⟨rfl,rfl,rfl,Dk,rfl,Dk,Dk⟩
theorem Qrk(F:Fn K mg "turned" Qcd)(M:Mg mg):Cal P w K mg base 1 "turned" ["row","turn"] (Kk K):=by
 refine Xy F scTurned (fun _ _ _ _ _ _=>Vn (fun _ _=>rfl)) (fun vs H Q E h=>?_) (fun f cdv A outer s H vs Q E hr h=>?_)
 .obtain⟨r,u,row,n,t,rfl,_⟩:=h
  rfl
 obtain⟨r,u,row,n,t,rfl,⟨p,hr1,hr2⟩,hu1,T,hl,hn,q⟩:=h
 refine⟨_,(Qg (Qo (i:=2) scTurned.nd rfl (Or.inl rfl) (Qx Qrp (Yj (Qa Qj Qf)) (Qn Xa rfl M.len Zj (Qa (pv 1) Qf))))
  (Qg (Yb PassesOwn.never rfl (Qcw false true rfl M.zip_ (Qa (Qu Qy (pv 0) Qj (fun _ _=>rfl)) (Qa (pv 1) Qf))) (Yf (K:=K) (i:=3) (j:=4) rfl rfl scTurned.nd rfl rfl rfl rfl) (Qm (Qgl (pv 3) (Qgk (pv 2) (pv 4) set_list))))
  (Qm (Qs (Yd (Qa (Qt Xd rfl M.tuple_ Yt (Qa (pv 2) Qf)) (Qa (Qu Qy (pv 0) Qj (fun _ _=>rfl)) Qf))))))),?_⟩
 refine Yu ?_
 intro rT3 rT2
 have hz:(1000:Nat)<sizeLine:=Dc
 have lt:=T.length
 refine⟨by show 1<=sizeLine;decide,fun p1 hp1=>?_⟩
 have s1:Same H (upd H p1 (.lst [.int 0])):=Qc hp1 _
 refine⟨_,rfl,u,_,rfl,.inl (s1.seq hu1),p1,_,_,rfl,rfl,Qb,Om,?_,?_,fun p2 hp2=>?_⟩
 .rw[jX,Yk];lia
 .rw[jX,Yk,yYb];lia
 have s2:=s1.trans (Qc hp2 (.lst (List.replicate (Int.toNat ((((tI t).map V.int).length:Nat):Int)) [V.int 0]).flatten))
 have e0:(List.replicate (Int.toNat ((((tI t).map V.int).length:Nat):Int)) [V.int 0]).flatten=(put row.1 t 0).map V.int:=by
  rw[rep1,jX,Yk]
  show _=(List.replicate t.length 0).map V.int
  rw[List.map_replicate]
  rfl
 let Pv26:Nat->St->Hp->Prop:=fun i σ H3=>∃v w:Option V,σ=[some (.ref r),some (.ref u),some (.ref p2),v,w]/\H3 p2=some (.lst ((put row.1 t i).map V.int))/\Same H H3
 refine⟨_,rfl,r,_,_,_,rfl,rfl,s2.tup hr1,at0,_,rfl,p,u,rfl,⟨_,s2.tup hr2⟩,⟨_,s2.seq hu1⟩,Qbh (K:=K) (m1:=false) (m2:=true) (a:=p) (b:=u) (xs:=row.1.map V.int) (ys:=(tI t).map V.int) Pv26 ⟨none,none,rfl,?_,s2⟩ (fun i σ H3 _ h=>?_) ?_ ?_⟩
 .rw[Qb,e0]
 .obtain⟨v,w,rfl,hp3,s3⟩:=h
  exact⟨s3.tup hr2,s3.seq hu1⟩
 .rintro i x y σ H3 T' e1 e2 ⟨v,w,rfl,hp3,s3⟩ hT
  obtain⟨x,ex,rfl⟩:=Ze e1
  obtain⟨y,ey,rfl⟩:=Ze e2
  obtain⟨k,ek,rfl⟩:=Qth ey
  have nT:p2≠T':=Ql hp3 hT
  refine⟨T',_,rfl,Qr Qb,rfl,_,_,rfl,_,_,rfl,rfl,?_⟩
  refine⟨_,rfl,_,rfl,_,rfl,p2,_,_,k,rfl,rfl,by rw[Qk nT];exact hp3,Qpi (by rw[jX,Yz,lt];exact T.lt ek),_,_,rfl,?_,fun b o e=>?_⟩
  .rw[Qb,Qhd ex ek,List.map_set]
  .have nb:b≠p2:=fun z=>by subst z;rw[s1 _ _ e]at hp2;cases hp2
   rw[Qk nb,Qk (Ql (s3 _ _ e) hT)]
   exact s3 _ _ e
 .rintro σ H3 ⟨v,w,rfl,hp3,s3⟩
  have em:min (row.1.map V.int).length ((tI t).map V.int).length=n:=by rw[jX,jX,Yk];lia
  rw[em]at hp3
  refine⟨_,rfl,p2,_,rfl,.inl ⟨Qi hp3,fun w hw=>?_⟩⟩
  have s4:=s3.trans (Qc hw (.tup ((put row.1 t n).map V.int)))
  refine⟨_,rfl,r,_,_,_,rfl,rfl,s4.tup hr1,at1,by show 2<=sizeLine;decide,fun r' hr'=>?_⟩
  exact q r' _ (s4.trans (Qc hr' _)) ⟨w,Qr Qb,Qr (by rw[Qk (Ql Qb hr')];exact Qb)⟩
end
end Nb
namespace L2
open PySem PySem.Spec PyProof.Rows PySem.W
def Qvc(ts:List Addr)(H:Hp):Prop:=(∀P∈ts,H P=some (.tbl #[]))/\∀b,b∉ts->H b=none\/∃o xs,H b=some (.frz o (.lst xs))
theorem Qoi{P:Program}{w:World}{K:Fg}{mg mb:Str->Option Value}{CX:CXT}{k:Nat}{fa a:Addr}{fd:FuncData}{x:Str}{sp:Sp}{s₁:Shared}{vs:List Value}{ns:List Int}{ts:List Addr}
  (KX:K.In s₁.heap) (hT:∀P∈ts,s₁.heap.get? P=some (PySem.W.tabObj #[])) (hTC:∀P∈ts,isCodeTable s₁.heap P) (hTK:∀P∈ts,K.lookup P=none) (hns:s₁.heap.Ns mainGlobals mg) (hb:s₁.heap.Ns builtinsNs mb) (hbb:∀x:Str,x≠"__name__"->mb x=bootBuiltins x) (hlim:s₁.heap.NoLimit) (hg:s₁.gens=#[])
  (ha:s₁.heap.get? a=some { cls:=.type "list",data:=.seq vs.toArray }) (hi:IntsAre vs ns) (hl:ns.length<=sizeLine) (hr:Room k callerA)
  (F:∀base:Heap,K.In base->base.Ns mainGlobals mg->FnOk P w K mg base CX k fa fd [x] sp) (hbind:∀(s:Shared) (u:Value),BindsTo s fd ⟨[u],[]⟩ [(x,u)])
  (hsp:∀H:Hp,Qvc ts H->SqL K H a (ns.map V.int)->sp [.ref a] H (fun v _=>v=.bl true) fun _ _ _=>False)
  (hCX:∀H e s',CX [] H s₁ (fun _ _ _=>False) e s'->False) :
  codeAny (model P w) callerA (.call (.ref fa) ⟨[.ref a],[]⟩) (fun r s'=>r=.ok (.ret (.bool true))/\OldK s₁.heap s'.heap/\s'.os=s₁.os/\AllBare s'.gens) s₁:=by
 have rv:=Qcr hi
 have lenV:=hi.length
 have aT:a∉ts:=fun z=>by
  have:=hT a z
  rw[ha]at this
  cases this
 have core:∀H:Hp,Qvc ts H->SqL K H a (ns.map V.int)->HOk P w H s₁.heap->(∀b,H b≠none->b=a\/b∈ts)->(H a≠none->K.lookup a=none) ->
   codeAny (model P w) callerA (.call (.ref fa) ⟨[.ref a],[]⟩) (fun r s'=>r=.ok (.ret (.bool true))/\OldK s₁.heap s'.heap/\s'.os=s₁.os/\AllBare s'.gens) s₁:=by
  intro H hO hS hok hA hK
  have base_of:∀{b:Addr} {o:Obj},s₁.heap.get? b=some o->H b=none->(hidT s₁.heap H).get? b=some o:=fun e n=>Qoj e n
  have noA:∀{b:Addr} {o:Obj} {es:Array DictEntry} {ep:Nat},s₁.heap.get? b=some o->o.data=.dict es ep->H b=none:=fun{b o es ep} e d=>by
   cases q:H b with
   |none=>rfl
   |some u=>
    rcases hA b (by rw[q];simp)with e' | e'
    .subst e'
     rw[ha]at e;cases e
     have d':Data.seq vs.toArray _=Data.dict es ep:=d
     cases d'
    .rw[hT b e']at e;cases e
     have d':Data.fields _=Data.dict es ep:=d
     cases d'
  have nsK:∀{b:Addr} {m:Str->Option Value},s₁.heap.Ns b m->(hidT s₁.heap H).Ns b m:=fun{b m} ⟨o,es,ep,e,d,r⟩=>⟨o,es,ep,base_of e (noA e d),d,r⟩
  have hKb:K.In (hidT s₁.heap H):=fun b o e=>base_of (KX b o e) (by
   cases q:H b with
   |none=>rfl
   |some u=>
    rcases hA b (by rw[q];simp)with e' | e'
    .subst e'
     rw[hK (by rw[q];simp)]at e;cases e
    .rw[hTK b e']at e;cases e)
  have hM:Mod K mg (hidT s₁.heap H):=⟨hKb,nsK hns,⟨mb,nsK hb,hbb⟩,let ⟨mc,h1,h2⟩:=hlim;⟨mc,nsK h1,h2⟩⟩
  have e0:Env0 P w K mg (hidT s₁.heap H) callerA [] s₁ H:=⟨rfl,hM,fun b o e=>Qsk e,yXc (Qjt _ _),trivial,fun b hb=>absurd (show b∈([]:List Addr)from hb) (by simp),hok,.of_eq hg⟩
  refine codeAny_mono ((F _ hKb (nsK hns)).run callerA [] s₁ H ⟨[.ref a],[]⟩ [.ref a] [.ref a] _ _ hr e0 (hbind s₁ (.ref a)) (.cons rfl .nil) (hsp H hO hS)) fun r s' h=>?_
  cases r with
  |error e=>exact(hCX H e s' h).elim
  |ok fl=>
   cases fl with
   |next=>exact False.elim h
   |brk=>exact False.elim h
   |cont=>exact False.elim h
   |ret u=>
    obtain⟨v,H',os,bare,un,hok',r',q⟩:=h
    have q':v=.bl true:=q
    subst q'
    obtain rfl:u=Value.bool true:=r'
    refine⟨rfl,⟨fun b o e=>?_,fun b o e=>un.there b o e (by simp)⟩,os,bare⟩
    by_cases hbt:b∈ts
    .obtain⟨more,z⟩:=un.tbls b _ (hO.1 b hbt)
     have eb:=hT b hbt
     rw[e]at eb;cases eb
     have z2:s'.heap.get? b=some { cls:=.none,data:=.fields (#[]++more) }:=hok' b _ z
     first
      |exact .inr (.inl ⟨_,rfl,_,more,rfl,z2⟩)
      |exact .inr (.inl ⟨hTC b hbt,rfl,_,more,rfl,z2⟩)
    cases q:H b with
    |none=>exact .inl (un.keep b o e q (by intro z;exact absurd (show b∈([]:List Addr)from z) (by simp)) (by simp))
    |some u=>
     rcases hO.2 b hbt with z | ⟨ob,xs,z⟩
     .rw[q]at z;cases z
     .have z2:=un.frzs b ob _ z
      obtain⟨e1,_⟩:=hok b _ z
      obtain⟨e2,_⟩:=hok' b _ z2
      rw[e]at e1;cases e1
      exact .inl e2
 have tblOk:∀{H:Hp} b,b∈ts->ObjOk P w H s₁.heap b (.tbl #[]):=fun b hb=>hT b hb
 cases hk:K.lookup a with
 |some o=>
  have e:=KX a o hk
  rw[ha]at e
  cases e
  refine core (fun b=>if b∈ts then some (.tbl #[])else none) ⟨fun b hb=>if_pos hb,fun b hb=>.inl (if_neg hb)⟩ (.inr ⟨_,vs.toArray,_,hk,rfl,rfl,rfl,by rw[kJ,lenV];exact hl,by simpa using rv⟩) (fun b u z=>?_) (fun b z=>?_) fun z=>absurd (if_neg aT) z
  .by_cases hb:b∈ts
   .have z':=(if_pos hb).symm.trans z
    cases z'
    exact tblOk b hb
   .have z':=(if_neg hb).symm.trans z
    cases z'
  .by_cases hb:b∈ts
   .exact .inr hb
   .exact absurd (if_neg hb) z
 |none=>
  refine core (fun b=>if b∈ts then some (.tbl #[])else if b=a then some (.frz { cls:=.type "list",data:=.seq vs.toArray } (.lst (ns.map V.int)))else none) ⟨fun b hb=>if_pos hb,fun b hb=>?_⟩ (.inl (.inr ⟨{ cls:=.type "list",data:=.seq vs.toArray },(if_neg aT).trans (if_pos rfl)⟩)) (fun b u z=>?_) (fun b z=>?_) fun _=>hk
  .by_cases hb':b=a
   .exact .inr ⟨_,_,(if_neg hb).trans (if_pos hb')⟩
   .exact .inl ((if_neg hb).trans (if_neg hb'))
  .by_cases ht:b∈ts
   .have z':=(if_pos ht).symm.trans z
    cases z'
    exact tblOk b ht
   .have z:=(if_neg ht).symm.trans z
    by_cases hb:b=a
    .have z':=(if_pos hb).symm.trans z
     cases z'
     subst hb
     exact⟨ha,by rw[jX];exact hl,vs,_,rv,ha⟩
    .have z':=(if_neg hb).symm.trans z
     cases z'
  .by_cases ht:b∈ts
   .exact .inr ht
   .by_cases hb:b=a
    .exact .inl hb
    .exact absurd ((if_neg ht).trans (if_neg hb)) z
open Att in
theorem Qrl{l:PySem.W.OpenLaw}{n k:Nat}{q:Program}{loose:List Str}{XP:(Str->Option Value)->Heap->Prop}{YP:World->Heap->Prop}{d:DefRec}{K:Params->Fg}{CX:World->CXT}{sp:World->Sp}{x:Str}{ts:List Addr}
  (hn:l.most=some n) (hn2:n<=sizeLine) (hdf:d.params.defaults=[]) (hr:Room k callerA)
  (hY:∀(w:World) (h:Heap),YP w h->(K w.params).In h/\∀P∈ts,h.get? P=some (PySem.W.tabObj #[])) (hTK:∀(w:World),∀P∈ts,(K w.params).lookup P=none) (hTC:∀(w:World),∀P∈ts,∃c,codeHdIn (K w.params) c P=true)
  (F:∀(w:World) (mg:Str->Option Value) (fa:Addr) (h:Heap),(K w.params).In h->h.Ns mainGlobals mg->mg d.name=some (.ref fa) ->
   ∃fd:FuncData,(∀(s:Shared) (u:Value),BindsTo s fd ⟨[u],[]⟩ [(x,u)]) /\
    ∀base:Heap,(K w.params).In base->base.Ns mainGlobals mg->FnOk l.prog w (K w.params) mg base (CX w) k fa fd [x] (sp w))
  (hsp:∀(w:World) (H:Hp) (a:Addr) (ns:List Int),ns.length<=n->(∀m∈ns,Builtin.Int.intBits m<=2 ^ 20)->Qvc ts H->SqL (K w.params) H a (ns.map V.int)->sp w [.ref a] H (fun v _=>v=.bl true) fun _ _ _=>False)
  (hCX:∀(w:World) (H:Hp) (s:Shared) (e:Value) (s':Shared),CX w [] H s (fun _ _ _=>False) e s'->False) :
  PySem.W.WalkO q loose XP YP l.row.toRowW d [] (fun f vs=>PySem.call f vs):=by
 intro w s₀ s₁ mg mb G Y fa o pm cd doc dV kV ho hd hcd hD hmg hg args vals as hpre hlay hrd hwl hlo
 obtain rfl:dV=.none:=Dflts.none hD hdf
 obtain rfl:kV=.none:=Dflts.noKw hD
 obtain⟨a,vs,ns,rfl,rfl,hobj,hints,hlen⟩:=Qko hn hpre hwl
 obtain⟨KX,KT⟩:=hY w _ Y
 obtain⟨fd,hb,hF⟩:=F w mg fa _ KX G.T.g hmg
 refine enter_call (codeAny_mono (Qoi KX KT (fun P hP=>by obtain⟨c,hc⟩:=hTC w P hP;obtain⟨o,vs,_,_,_,_,_,_,_,e1,e2,e3,e4,_⟩:=codeHd_of_K KX hc;exact⟨c,o,vs,e1,e2,e3,e4⟩) (hTK w) G.T.g G.T.b G.T.builtins G.T.nolimit hg hobj hints (jQd hlen hn2) hr hF hb (fun H hO hS=>hsp w H a ns hlen (Qfh hlay) hO hS) fun H e s'=>hCX w H s₁ e s') fun r s' hq=>?_)
 obtain⟨rfl,h2,h3,h4⟩:=hq
 exact⟨.inl ⟨.bool true,.bool true,[],rfl,fun _=>rfl,.bool true,Qkp l _,fun _=>⟨List.Pairwise.nil,fun _ hm=>(nomatch hm)⟩⟩,h2,h3,h4⟩
end L2
namespace Nb
open PySem L2
theorem na_all{K:Fg}{C:Addr}(h0:NoAttr K C "problem")(h1:NoAttr K C "patience")(h2:NoAttr K C "leasts")(h3:NoAttr K C "parts")(h4:NoAttr K C "stands"):∀x∈coN,NoAttr K C x:=fun x hx=>by
 unfold coN at hx
 simp only[yY,kXe,or_false]at hx
 rcases hx with rfl | rfl | rfl | rfl | rfl
 .exact h0
 .exact h1
 .exact h2
 .exact h3
 .exact h4
def htop(i:Nat):Stmt:=PySem.Challenge.pw_nonebetter_k28_whole_turns_from_choices.main.body.getD i (.Pass ⟨0,0,0,0⟩)
abbrev fO(a b:Str)(s:Stmt)(k:Addr)(v:Value)(r:Addr):Obj:=.mk (.type "function") none (.func (.mk a b (L2.Qv s) (.stmts (L2.Qq s)) (L2.Qh s) k [] .none .none .none v none (.ref r) .none 0)) #[]
abbrev cO(a:Str)(i:Tok)(b:Str)(j k:Tok)(l m n o p:Int)(u r:Addr)(v1 v2 v3 v4:Value)(x y:Int)(z:Tok):Obj:=.mk (.type "code") none (.fields #[.str a i,.str b j,.str "/claim/cut.py" k,.int l 0,.int m 0,.int n 0,.int o 0,.int p 0,.ref u,.bool Bool.true,.int 181 0,.ref r,v1,v2,v3,v4,.int x 0,.int y 0,.str "/claim/cut.py" z]) #[]
abbrev tO(v:Array Value):Obj:=.mk (.type "tuple") none (.seq v) #[]
abbrev kO(P:Params)(x:Str)(i:Tok)(v:Value):DictEntry:=.mk (PyData.keyHash P x) (.str x i) v
def hob0(i:Nat)(P:Params):Obj :=
 bif Nat.beq i 3 then .mk (.type "dict") none (.dict #[kO P "__name__" 165 (.str "law_nonebetter_k28_whole_turns_from_choices" 336),kO P "__doc__" 166 .none,kO P "__package__" 167 .none,kO P "__loader__" 168 (.builtin "__main__.__loader__#opaque"),kO P "__spec__" 169 .none,kO P "__annotations__" 170 (.ref 6),kO P "__builtins__" 171 (.ref 4),kO P "__file__" 173 (.str "/claim/cut.py" 172),kO P "__cached__" 174 .none,kO P "_wall" 193 (.ref 21),kO P "parts_of" 201 (.ref 26),kO P "turned" 212 (.ref 33),kO P "turn_keeps" 218 (.ref 38),kO P "counted" 229 (.ref 45),kO P "named" 235 (.ref 50),kO P "Colours" 318 (.ref 106),kO P "loose" 324 (.ref 115),kO P "turn_from" 335 (.ref 122),kO P "_law_whole" 344 (.ref 129),kO P "_law_cell_at" 352 (.ref 136),kO P "_law_mixed" 361 (.ref 143),kO P "_law_left" 373 (.ref 150),kO P "_law_row" 385 (.ref 157),kO P "_law_problem" 391 (.ref 162),kO P "_law_copy" 397 (.ref 167),kO P "_law_numbered" 407 (.ref 174),kO P "_law_led" 417 (.ref 181),kO P "_law_keeps" 423 (.ref 186),kO P "_law_alike" 437 (.ref 193),kO P "_law_orders" 449 (.ref 200),kO P "_law_is_turn" 455 (.ref 205),kO P "_law_right" 461 (.ref 210),kO P "law" 475 (.ref 217)] 33) #[]else
 bif Nat.beq i 4 then .mk (.type "module") (Option.some 0) .plain #[]else
 bif Nat.beq i 25 then cO "parts_of" 196 "parts_of" 197 198 5 1 0 0 3 22 23 .none .none .none (.ref 24) 199 5 200 else
 bif Nat.beq i 26 then fO "parts_of" "parts_of" (htop 2) 3 (.str "nonebetter.rows" 194) 25 else
 cO "turned" 202 "turned" 203 204 7 2 0 0 3 27 28 .none (.ref 29) (.ref 30) (.ref 31) 210 7 211
def hob1(i:Nat)(P:Params):Obj :=
 bif Nat.beq i 33 then fO "turned" "turned" (htop 3) 3 (.str "nonebetter.rows" 194) 32 else
 bif Nat.beq i 37 then cO "turn_keeps" 213 "turn_keeps" 214 215 12 2 0 0 3 34 35 .none .none .none (.ref 36) 216 12 217 else
 bif Nat.beq i 38 then fO "turn_keeps" "turn_keeps" (htop 4) 3 (.str "nonebetter.rows" 194) 37 else
 bif Nat.beq i 44 then cO "counted" 221 "counted" 222 223 19 1 0 0 3 39 40 .none (.ref 41) (.ref 42) (.ref 43) 227 19 228 else
 fO "counted" "counted" (htop 6) 3 (.str "nonebetter.likes" 219) 44
def hob2(i:Nat)(P:Params):Obj :=
 bif Nat.beq i 49 then cO "named" 230 "named" 231 232 24 2 0 0 3 46 47 .none .none .none (.ref 48) 233 24 234 else
 bif Nat.beq i 50 then fO "named" "named" (htop 7) 3 (.str "nonebetter.likes" 219) 49 else
 bif Nat.beq i 61 then cO "__init__" 248 "Colours.__init__" 249 250 31 3 0 0 3 58 59 .none .none .none (.ref 60) 251 31 252 else
 bif Nat.beq i 62 then fO "__init__" "Colours.__init__" (inClass (htop 8) 0) 3 (.str "nonebetter.likes" 219) 61 else
 cO "row_looks" 254 "Colours.row_looks" 255 256 41 2 0 0 3 63 64 .none .none .none (.ref 65) 257 41 258
def hob3(i:Nat)(P:Params):Obj :=
 bif Nat.beq i 67 then fO "row_looks" "Colours.row_looks" (inClass (htop 8) 1) 3 (.str "nonebetter.likes" 219) 66 else
 bif Nat.beq i 71 then cO "choice_looks" 260 "Colours.choice_looks" 261 262 47 3 0 0 3 68 69 .none .none .none (.ref 70) 263 47 264 else
 bif Nat.beq i 72 then fO "choice_looks" "Colours.choice_looks" (inClass (htop 8) 2) 3 (.str "nonebetter.likes" 219) 71 else
 bif Nat.beq i 76 then cO "finer" 266 "Colours.finer" 267 268 53 2 0 0 3 73 74 .none .none .none (.ref 75) 269 53 270 else
 fO "finer" "Colours.finer" (inClass (htop 8) 3) 3 (.str "nonebetter.likes" 219) 76
def hob4(i:Nat)(P:Params):Obj :=
 bif Nat.beq i 83 then cO "fixed" 272 "Colours.fixed" 273 274 66 4 0 0 3 78 79 .none (.ref 80) (.ref 81) (.ref 82) 281 66 282 else
 bif Nat.beq i 84 then fO "fixed" "Colours.fixed" (inClass (htop 8) 4) 3 (.str "nonebetter.likes" 219) 83 else
 bif Nat.beq i 90 then cO "is_tired" 284 "Colours.is_tired" 285 286 73 1 0 0 3 85 86 .none (.ref 87) (.ref 88) (.ref 89) 288 73 289 else
 bif Nat.beq i 91 then fO "is_tired" "Colours.is_tired" (inClass (htop 8) 5) 3 (.str "nonebetter.likes" 219) 90 else
 cO "turn_by" 300 "Colours.turn_by" 301 302 79 2 0 0 3 99 100 .none .none .none (.ref 101) 303 79 304
def hob5(i:Nat)(P:Params):Obj :=
 bif Nat.beq i 103 then fO "turn_by" "Colours.turn_by" (inClass (htop 8) 7) 3 (.str "nonebetter.likes" 219) 102 else
 bif Nat.beq i 105 then .mk (.type "dict") none (.dict #[kO P "__module__" 243 (.str "nonebetter.likes" 219),kO P "__firstlineno__" 247 (.int 29 246),kO P "__init__" 253 (.ref 62),kO P "row_looks" 259 (.ref 67),kO P "choice_looks" 265 (.ref 72),kO P "finer" 271 (.ref 77),kO P "fixed" 283 (.ref 84),kO P "is_tired" 290 (.ref 91),kO P "turn_of" 299 (.ref 98),kO P "turn_by" 305 (.ref 103),kO P "__static_attributes__" 311 (.ref 104),kO P "__dict__" 313 (.ref 107),kO P "__weakref__" 315 (.ref 108),kO P "__doc__" 316 .none] 4) #[]else
 bif Nat.beq i 106 then .mk (.type "type") none (.cls (ClassData.mk "Colours" [.type "object"] [.ref 106,.type "object"] 105 "Colours" Bool.true [] [] Bool.false none Bool.false)) #[none,none,Option.some (.str "Colours" 236),Option.some (.str "Colours" 244),Option.some (.builtin "object.__new__"),Option.some (.bool Bool.true)]else
 bif Nat.beq i 114 then cO "loose" 319 "loose" 320 321 92 1 0 0 3 111 112 .none .none .none (.ref 113) 322 92 323 else
 fO "loose" "loose" (htop 9) 3 (.str "nonebetter.likes" 219) 114
def hob6(i:Nat)(P:Params):Obj :=
 bif Nat.beq i 121 then cO "turn_from" 325 "turn_from" 326 327 96 3 0 0 3 116 117 .none (.ref 118) (.ref 119) (.ref 120) 333 96 334 else
 bif Nat.beq i 122 then fO "turn_from" "turn_from" (htop 10) 3 (.str "nonebetter.likes" 219) 121 else
 bif Nat.beq i 128 then cO "_law_whole" 338 "_law_whole" 339 340 103 1 0 0 3 123 124 .none (.ref 125) (.ref 126) (.ref 127) 342 103 343 else
 bif Nat.beq i 129 then fO "_law_whole" "_law_whole" (htop 12) 3 (.str "law_nonebetter_k28_whole_turns_from_choices" 336) 128 else
 cO "_law_cell_at" 345 "_law_cell_at" 346 347 105 2 0 0 3 130 131 .none (.ref 132) (.ref 133) (.ref 134) 350 105 351
def hob7(i:Nat)(P:Params):Obj :=
 bif Nat.beq i 136 then fO "_law_cell_at" "_law_cell_at" (htop 13) 3 (.str "law_nonebetter_k28_whole_turns_from_choices" 336) 135 else
 bif Nat.beq i 142 then cO "_law_mixed" 353 "_law_mixed" 354 355 109 2 0 0 3 137 138 .none (.ref 139) (.ref 140) (.ref 141) 359 109 360 else
 bif Nat.beq i 143 then fO "_law_mixed" "_law_mixed" (htop 14) 3 (.str "law_nonebetter_k28_whole_turns_from_choices" 336) 142 else
 bif Nat.beq i 149 then cO "_law_left" 362 "_law_left" 363 364 113 3 0 0 3 144 145 .none (.ref 146) (.ref 147) (.ref 148) 371 113 372 else
 fO "_law_left" "_law_left" (htop 15) 3 (.str "law_nonebetter_k28_whole_turns_from_choices" 336) 149
def hob8(i:Nat)(P:Params):Obj :=
 bif Nat.beq i 156 then cO "_law_row" 374 "_law_row" 375 376 123 3 0 0 3 151 152 .none (.ref 153) (.ref 154) (.ref 155) 383 123 384 else
 bif Nat.beq i 157 then fO "_law_row" "_law_row" (htop 16) 3 (.str "law_nonebetter_k28_whole_turns_from_choices" 336) 156 else
 bif Nat.beq i 161 then cO "_law_problem" 386 "_law_problem" 387 388 131 3 0 0 3 158 159 .none .none .none (.ref 160) 389 131 390 else
 bif Nat.beq i 162 then fO "_law_problem" "_law_problem" (htop 17) 3 (.str "law_nonebetter_k28_whole_turns_from_choices" 336) 161 else
 cO "_law_copy" 392 "_law_copy" 393 394 135 1 0 0 3 163 164 .none .none .none (.ref 165) 395 135 396
def hob9(i:Nat)(P:Params):Obj :=
 bif Nat.beq i 167 then fO "_law_copy" "_law_copy" (htop 18) 3 (.str "law_nonebetter_k28_whole_turns_from_choices" 336) 166 else
 bif Nat.beq i 173 then cO "_law_numbered" 398 "_law_numbered" 399 400 137 2 0 0 3 168 169 .none (.ref 170) (.ref 171) (.ref 172) 405 137 406 else
 bif Nat.beq i 174 then fO "_law_numbered" "_law_numbered" (htop 19) 3 (.str "law_nonebetter_k28_whole_turns_from_choices" 336) 173 else
 bif Nat.beq i 180 then cO "_law_led" 408 "_law_led" 409 410 143 2 0 0 3 175 176 .none (.ref 177) (.ref 178) (.ref 179) 415 143 416 else
 fO "_law_led" "_law_led" (htop 20) 3 (.str "law_nonebetter_k28_whole_turns_from_choices" 336) 180
def hob10(i:Nat)(P:Params):Obj :=
 bif Nat.beq i 185 then cO "_law_keeps" 418 "_law_keeps" 419 420 148 2 0 0 3 182 183 .none .none .none (.ref 184) 421 148 422 else
 bif Nat.beq i 186 then fO "_law_keeps" "_law_keeps" (htop 21) 3 (.str "law_nonebetter_k28_whole_turns_from_choices" 336) 185 else
 bif Nat.beq i 192 then cO "_law_alike" 424 "_law_alike" 425 426 152 2 0 0 3 187 188 .none (.ref 189) (.ref 190) (.ref 191) 435 152 436 else
 bif Nat.beq i 193 then fO "_law_alike" "_law_alike" (htop 22) 3 (.str "law_nonebetter_k28_whole_turns_from_choices" 336) 192 else
 cO "_law_orders" 438 "_law_orders" 439 440 166 1 0 0 3 194 195 .none (.ref 196) (.ref 197) (.ref 198) 447 166 448
def hob11(i:Nat)(P:Params):Obj :=
 bif Nat.beq i 200 then fO "_law_orders" "_law_orders" (htop 23) 3 (.str "law_nonebetter_k28_whole_turns_from_choices" 336) 199 else
 bif Nat.beq i 204 then cO "_law_is_turn" 450 "_law_is_turn" 451 452 175 4 0 0 3 201 202 .none .none .none (.ref 203) 453 175 454 else
 bif Nat.beq i 205 then fO "_law_is_turn" "_law_is_turn" (htop 24) 3 (.str "law_nonebetter_k28_whole_turns_from_choices" 336) 204 else
 bif Nat.beq i 209 then cO "_law_right" 456 "_law_right" 457 458 181 4 0 0 3 206 207 .none .none .none (.ref 208) 459 181 460 else
 fO "_law_right" "_law_right" (htop 25) 3 (.str "law_nonebetter_k28_whole_turns_from_choices" 336) 209
def hob12(i:Nat)(P:Params):Obj :=
 bif Nat.beq i 216 then cO "law" 462 "law" 463 464 196 1 0 0 3 211 212 .none (.ref 213) (.ref 214) (.ref 215) 473 196 474 else
 fO "law" "law" (htop 26) 3 (.str "law_nonebetter_k28_whole_turns_from_choices" 336) 216
def hob(i:Nat)(P:Params):Obj:=(bif Nat.ble i 115 then(bif Nat.ble i 66 then(bif Nat.ble i 32 then hob0 i P else(bif Nat.ble i 45 then hob1 i P else hob2 i P))else(bif Nat.ble i 77 then hob3 i P else(bif Nat.ble i 102 then hob4 i P else hob5 i P)))else(bif Nat.ble i 166 then(bif Nat.ble i 135 then hob6 i P else(bif Nat.ble i 150 then hob7 i P else hob8 i P))else(bif Nat.ble i 199 then(bif Nat.ble i 181 then hob9 i P else hob10 i P)else(bif Nat.ble i 210 then hob11 i P else hob12 i P))))
def heapK:Params->W.Frag:=fun P=>(nat_lit 3,hob (nat_lit 3) P)::(nat_lit 4,hob (nat_lit 4) P)::(nat_lit 25,hob (nat_lit 25) P)::(nat_lit 26,hob (nat_lit 26) P)::(nat_lit 32,hob (nat_lit 32) P)::(nat_lit 33,hob (nat_lit 33) P)::(nat_lit 37,hob (nat_lit 37) P)::(nat_lit 38,hob (nat_lit 38) P)::(nat_lit 44,hob (nat_lit 44) P)::(nat_lit 45,hob (nat_lit 45) P)::(nat_lit 49,hob (nat_lit 49) P)::(nat_lit 50,hob (nat_lit 50) P)::(nat_lit 61,hob (nat_lit 61) P)::(nat_lit 62,hob (nat_lit 62) P)::(nat_lit 66,hob (nat_lit 66) P)::(nat_lit 67,hob (nat_lit 67) P)::(nat_lit 71,hob (nat_lit 71) P)::(nat_lit 72,hob (nat_lit 72) P)::(nat_lit 76,hob (nat_lit 76) P)::(nat_lit 77,hob (nat_lit 77) P)::(nat_lit 83,hob (nat_lit 83) P)::(nat_lit 84,hob (nat_lit 84) P)::(nat_lit 90,hob (nat_lit 90) P)::(nat_lit 91,hob (nat_lit 91) P)::(nat_lit 102,hob (nat_lit 102) P)::(nat_lit 103,hob (nat_lit 103) P)::(nat_lit 105,hob (nat_lit 105) P)::(nat_lit 106,hob (nat_lit 106) P)::(nat_lit 114,hob (nat_lit 114) P)::(nat_lit 115,hob (nat_lit 115) P)::(nat_lit 121,hob (nat_lit 121) P)::(nat_lit 122,hob (nat_lit 122) P)::(nat_lit 128,hob (nat_lit 128) P)::(nat_lit 129,hob (nat_lit 129) P)::(nat_lit 135,hob (nat_lit 135) P)::(nat_lit 136,hob (nat_lit 136) P)::(nat_lit 142,hob (nat_lit 142) P)::(nat_lit 143,hob (nat_lit 143) P)::(nat_lit 149,hob (nat_lit 149) P)::(nat_lit 150,hob (nat_lit 150) P)::(nat_lit 156,hob (nat_lit 156) P)::(nat_lit 157,hob (nat_lit 157) P)::(nat_lit 161,hob (nat_lit 161) P)::(nat_lit 162,hob (nat_lit 162) P)::(nat_lit 166,hob (nat_lit 166) P)::(nat_lit 167,hob (nat_lit 167) P)::(nat_lit 173,hob (nat_lit 173) P)::(nat_lit 174,hob (nat_lit 174) P)::(nat_lit 180,hob (nat_lit 180) P)::(nat_lit 181,hob (nat_lit 181) P)::(nat_lit 185,hob (nat_lit 185) P)::(nat_lit 186,hob (nat_lit 186) P)::(nat_lit 192,hob (nat_lit 192) P)::(nat_lit 193,hob (nat_lit 193) P)::(nat_lit 199,hob (nat_lit 199) P)::(nat_lit 200,hob (nat_lit 200) P)::(nat_lit 204,hob (nat_lit 204) P)::(nat_lit 205,hob (nat_lit 205) P)::(nat_lit 209,hob (nat_lit 209) P)::(nat_lit 210,hob (nat_lit 210) P)::(nat_lit 216,hob (nat_lit 216) P)::(nat_lit 217,hob (nat_lit 217) P)::[]
theorem all_ok{P:Program}{w:World}{K:Fg}{mg:Str->Option Value}{base:Heap}(M:Mg mg){c1 c2 T1 T2 C fI fR fC fF fX fT fB:Addr}{fdI fdR fdC fdF fdX fdT fdB:FuncData}(hC1:PySem.W.codeHdIn K c1 T1=true)(hC2:PySem.W.codeHdIn K c2 T2=true)(hB:BltK K mg)(ne:T1≠T2)(T:CoTxt K mg C)(mgC:mg "Colours"=some (.ref C))(MI:Mk K C fI)(FI:Fun K "__init__" "Colours.__init__" Wy fI fdI)(bI:Binds K fdI ["self","problem","patience"] [])(FR:Fun K "row_looks" "Colours.row_looks" Qeg fR fdR)(bR:Binds K fdR ["self","colours"] [])(mR:Meth K C "row_looks" fR)(FC:Fun K "choice_looks" "Colours.choice_looks" Qeh fC fdC)(bC:Binds K fdC ["self","colours","rows"] [])(mC:Meth K C "choice_looks" fC)(FF:Fun K "finer" "Colours.finer" Qel fF fdF)(bF:Binds K fdF ["self","pair"] [])(mF:Meth K C "finer" fF)(FX:Fun K "fixed" "Colours.fixed" Qem fX fdX)(bX:Binds K fdX ["self","pair","choice","place"] [])(mX:Meth K C "fixed" fX)(FT:Fun K "is_tired" "Colours.is_tired" Qej fT fdT)(bT:Binds K fdT ["self"] [])(mT:Meth K C "is_tired" fT)(FB:FunL K "turn_by" "Colours.turn_by" Vk fB fdB c2 T2)(bB:Binds K fdB ["self","pair"] [])(mB:Meth K C "turn_by" fB)(F0:Fn K mg "_law_whole" Qhl)(F1:Fn K mg "_law_cell_at" Qps)(F2:Fn K mg "_law_mixed" Qpt)(F3:Fn K mg "_law_left" Qpu)(F4:Fn K mg "_law_row" Qhm)(F5:Fn K mg "_law_problem" Kp)(F6:Fn K mg "_law_copy" Qpv)(F7:Fn K mg "_law_numbered" Qpw)(F8:Fn K mg "_law_led" sLed)(F9:Fn K mg "_law_keeps" Kv)(F10:Fn K mg "_law_alike" Kx)(F11:Fn K mg "_law_orders" sOrd)(F12:Fn K mg "_law_is_turn" sIsT)(F13:Fn K mg "parts_of" sPts)(F14:Fn K mg "turned" Qcd)(F15:Fn K mg "turn_keeps" Qad)(F16:Fn K mg "counted" Qab)(F17:Fn K mg "named" Qhu)(F18:FnL K mg "loose" Qen c1 T1)(F19:Fn K mg "turn_from" Qrf)(F20:Fn K mg "_law_right" Qeo){f:Addr}{fd:FuncData}(F21:Fun K "law" "law" sLaw f fd):FnOk P w K mg base CX0 17 f fd ["_law_script"] (Qcc K T1 T2):=by
 have h_cl_whole:=Qtm (P:=P) (w:=w) (base:=base) F0 M
 have h_cl_cell_at:=okCell (P:=P) (w:=w) (base:=base) F1 M
 have h_cl_mixed:=okMix2 (P:=P) (w:=w) (base:=base) F2 M
 have h_cl_left:=okLeft (P:=P) (w:=w) (base:=base) F3 M h_cl_cell_at h_cl_mixed
 have h_cl_row:=Qtn (P:=P) (w:=w) (base:=base) F4 M
 have h_cl_problem:=Qlz (P:=P) (w:=w) (base:=base) F5 M h_cl_cell_at h_cl_row h_cl_left
 have h_cl_copy:=okCopy (P:=P) (w:=w) (base:=base) F6 M
 have h_cl_numbered:=okNumb (P:=P) (w:=w) (base:=base) F7 M
 have h_cl_led:=okLed (P:=P) (w:=w) (base:=base) F8 M
 have h_cl_keeps:=Qmx (P:=P) (w:=w) (base:=base) F9 M h_cl_led
 have h_cl_alike:=Qoh (P:=P) (w:=w) (base:=base) F10 M h_cl_led
 have h_cl_orders:=okOrd (P:=P) (w:=w) (base:=base) F11 M
 have h_cl_is_turn:=okIsT (P:=P) (w:=w) (base:=base) F12 M h_cl_whole h_cl_keeps
 have h_c_parts_of:=okPts (P:=P) (w:=w) (base:=base) F13 M
 have h_c_turned:=Qrk (P:=P) (w:=w) (base:=base) F14 M
 have h_c_turn_keeps:=Qrb (P:=P) (w:=w) (base:=base) F15 M h_c_turned
 have h_c_counted:=Qra (P:=P) (w:=w) (base:=base) F16 M
 have h_c_named:=Qub (P:=P) (w:=w) (base:=base) F17 M
 have h_c_loose:=Quy (P:=P) (w:=w) (base:=base) F18 hC1 hB M h_c_counted
 have GR:=Qui (P:=P) (w:=w) (base:=base) FR M T
 have GC:=Qul (Quj (P:=P) (w:=w) (base:=base) FC M T) (Quk (P:=P) (w:=w) (base:=base) FC M T)
 have GI:=Qqx (P:=P) (w:=w) (base:=base) FI M T h_c_parts_of
 have GF:=Qut (P:=P) (w:=w) (base:=base) FF M T mR GR bR mC GC bC h_c_named
 have GX:=Quu (P:=P) (w:=w) (base:=base) FX M T mF GF bF
 have GT:=Qun (P:=P) (w:=w) (base:=base) FT M T
 have GB:∀d,FnOk P w K mg base CX0 (3+d) fB fdB ["self","pair"] (Kw P w K C T1 T2 d):=fun d=>by
  induction d with
  |zero=>exact Qob (P:=P) (w:=w) (base:=base) FB
  |succ d ih=>exact Qre (P:=P) (w:=w) (base:=base) d FB hC2 hB M T mX GX bX mT GT bT mB bB h_c_loose h_c_turn_keeps ne ih
 have h_c_turn_from:=okFrom (P:=P) (w:=w) (base:=base) F19 M T mgC MI GI bI mF GF bF mX GX bX mB (GB 11) bB
 have h_cl_right:=Quz (P:=P) (w:=w) (base:=base) F20 M h_cl_copy h_cl_orders h_cl_keeps h_cl_is_turn h_c_turn_from
 have h_c_law:=okLaw (P:=P) (w:=w) (base:=base) F21 M h_cl_cell_at h_cl_problem h_cl_numbered h_cl_alike h_cl_right
 exact h_c_law
theorem walk{l:PySem.W.OpenLaw}{q:Program}{loose:List Str}{XP:(Str->Option Value)->Heap->Prop}{YP:World->Heap->Prop}{d:DefRec}{K:Params->Fg}{T1 T2:Addr}(hn:l.most=some 63)(hdf:d.params.defaults=[])
  (hY:∀(w:World) (h:Heap),YP w h->(K w.params).In h/\∀P∈([T1,T2]:List Addr),h.get? P=some (PySem.W.tabObj #[])) (hTK:∀(w:World),∀P∈([T1,T2]:List Addr),(K w.params).lookup P=none) (hTC:∀(w:World),∀P∈([T1,T2]:List Addr),∃c,PySem.W.codeHdIn (K w.params) c P=true)
  (F:∀(w:World) (mg:Str->Option Value) (fa:Addr) (h:Heap),(K w.params).In h->h.Ns mainGlobals mg->mg d.name=some (.ref fa) ->
   ∃fd:FuncData,(∀(s:Shared) (u:Value),BindsTo s fd ⟨[u],[]⟩ [("_law_script",u)])/\∀base:Heap,(K w.params).In base->base.Ns mainGlobals mg->FnOk l.prog w (K w.params) mg base CX0 17 fa fd ["_law_script"] (Qcc (K w.params) T1 T2)) :
  PySem.W.WalkO q loose XP YP l.row.toRowW d [] (fun f vs=>PySem.call f vs) :=
 L2.Qrl (n:=63) (k:=17) (x:="_law_script") (ts:=[T1,T2]) (CX:=fun _=>CX0) (sp:=fun w=>Qcc (K w.params) T1 T2) hn Dc hdf ⟨rfl,Dc,Dc⟩ hY hTK hTC F (fun _ _ a ns hl _ hO hS=>⟨a,ns,rfl,hS,hl,⟨⟨#[],hO.1 T1 (by simp),.inl rfl⟩,⟨#[],hO.1 T2 (by simp),.inl rfl⟩⟩,fun _=>rfl⟩) fun _ _ _ _ _ z=>z
end Nb
def Nb.pwv:PySem.Program:={ PySem.Challenge.pw_nonebetter_k28_whole_turns_from_choices with main:={ PySem.Challenge.pw_nonebetter_k28_whole_turns_from_choices.main with body:=[Nb.htop 0,Nb.htop 1,Nb.htop 2,Nb.htop 3,Nb.htop 4,Nb.htop 5,Nb.htop 6,Nb.htop 7,Nb.htop 8,Nb.htop 9,Nb.htop 10,Nb.htop 11,Nb.htop 12,Nb.htop 13,Nb.htop 14,Nb.htop 15,Nb.htop 16,Nb.htop 17,Nb.htop 18,Nb.htop 19,Nb.htop 20,Nb.htop 21,Nb.htop 22,Nb.htop 23,Nb.htop 24,Nb.htop 25,Nb.htop 26] } }
def PySem.W.Fast.tw1653918685017820470:Nat->PySem.Params->PySem.Obj:=Nb.hob
theorem PySem.W.Fast.te1653918685017820470:Nb.hob=PySem.W.Fast.tw1653918685017820470:=rfl
def PySem.W.Fast.tw14575747238727417484:PySem.Program:=PySem.Challenge.pw_nonebetter_k28_whole_turns_from_choices
theorem PySem.W.Fast.te14575747238727417484:PySem.Challenge.pw_nonebetter_k28_whole_turns_from_choices=PySem.W.Fast.tw14575747238727417484:=rfl
def PySem.W.Fast.tw9401860820342270615:PySem.Program:=Nb.pwv
theorem PySem.W.Fast.te9401860820342270615:Nb.pwv=PySem.W.Fast.tw9401860820342270615:=rfl
def PySem.W.Fast.tw11570947652754012800:Nat->PySem.Stmt:=Nb.htop
theorem PySem.W.Fast.te11570947652754012800:Nb.htop=PySem.W.Fast.tw11570947652754012800:=rfl
namespace PySem.W.Fast
def tw7690451200388371513:=0
def tw15962936648292077468:=0
def tw14717254393359429737:=0
def tw15103542182939495761:=0
def tw3953115195603565584:=0
def tw5677236516845038000:=0
def tw4205803371189823969:=0
def tw4296150091930586529:=0
def tw11082725238806277748:=0
def tw9976225029960010484:=0
def tw8604765805222415958:=0
def tw17957898918413715399:=0
def tw12389130105276905678:=0
def tw4042565768267265170:=0
def tw6619627196881888263:=0
def tw5861627560836306049:=0
def tw5833799108074882290:=0
def tw16062918379318068548:=0
def tw14456673576314019809:=0
def tw14845377995968642810:=0
def tw6261298342695688455:=0
def tw6200035671365028602:=0
def tw8198761536728642765:=0
def tw10398646858937171793:=0
def tw4843107620090497179:=0
def tw16874484104812373891:=0
def tw14069059805808007687:=0
def tw489257399923590053:=0
def tw3846023273773152906:=0
def tw18256927210471776137:=0
def tw1831635324800632018:=0
def tw3285806741825814030:=0
def tw1011029348357115880:=0
def tw18107194670503126910:=0
def tw4235099194442802113:=0
def tw16767363553451655374:=0
def tw15683145803503133459:=0
def tw2395721066101736423:=0
def tw13860080993556385849:=0
def tw15215452029237279602:=0
def tw9459980077693057283:=0
def tw3522422825419974813:=0
def tw6230263225108617283:=0
def tw4618108393548898308:=0
def tw10136999074357701162:=0
def tw18045564897088687710:=0
def tw7289472714589887532:=0
def tw12351895379208335458:=0
def tw16988409339628557776:=0
def tw8130930374976461448:=0
def tw16409545577418615681:=0
def tw774655329847533437:=0
def tw9912855281200869469:=0
def tw8235170437911484530:=0
def tw4369850319726562346:=0
def tw887282302814474696:=0
def tw17634622780848549492:=0
def tw13257159755941382735:=0
def tw15327142700934019261:=0
def tw5016677373082044951:=0
def tw10615148046402861945:=0
def tw16091214345013685391:=0
def tw16382349359318511927:=0
def tw3212211455051514075:=0
def tw2851001839697332352:=0
def tw12306273306947965709:=0
def tw13841486981848924181:=0
def tw16112577168563396520:=0
def tw7499160907797261907:=0
def tw2413025312207843297:=0
def tw14269353322479080219:=0
def tw17294724417932009416:=0
def tw3652380648303343507:=0
end PySem.W.Fast
open PySem PySem.W PyProof.Rows
set_option maxRecDepth 100000 in
set_option maxHeartbeats 0 in
theorem PySem.Challenge.cw_nonebetter_k28_whole_turns_from_choices_holds : PySem.Challenge.rw_nonebetter_k28_whole_turns_from_choices.Holds := by
 w_on;o_law;show PySem.W.OpenRow.Holds { PySem.Challenge.rw_nonebetter_k28_whole_turns_from_choices.row with prog:=Nb.pwv };o_head (PySem.W.kmHook Nb.heapK (nat_lit 3::nat_lit 4::nat_lit 25::nat_lit 26::nat_lit 32::nat_lit 33::nat_lit 37::nat_lit 38::nat_lit 44::nat_lit 45::nat_lit 49::nat_lit 50::nat_lit 61::nat_lit 62::nat_lit 66::nat_lit 67::nat_lit 71::nat_lit 72::nat_lit 76::nat_lit 77::nat_lit 83::nat_lit 84::nat_lit 90::nat_lit 91::nat_lit 102::nat_lit 103::nat_lit 105::nat_lit 106::nat_lit 114::nat_lit 115::nat_lit 121::nat_lit 122::nat_lit 128::nat_lit 129::nat_lit 135::nat_lit 136::nat_lit 142::nat_lit 143::nat_lit 149::nat_lit 150::nat_lit 156::nat_lit 157::nat_lit 161::nat_lit 162::nat_lit 166::nat_lit 167::nat_lit 173::nat_lit 174::nat_lit 180::nat_lit 181::nat_lit 185::nat_lit 186::nat_lit 192::nat_lit 193::nat_lit 199::nat_lit 200::nat_lit 204::nat_lit 205::nat_lit 209::nat_lit 210::nat_lit 216::nat_lit 217::[]) (fun _=>by kernel_rfl) [112,100]);(case hw=>w_witness2)
 k_fill
 refine Nb.walk (l:=PySem.Challenge.rw_nonebetter_k28_whole_turns_from_choices) (T1:=112) (T2:=100) rfl rfl (fun w h Y=>⟨PySem.W.km_in_of Y,PySem.W.km_tabs_of Y⟩) (fun w=>yZc.mpr ⟨by kernel_rfl,yZc.mpr ⟨by kernel_rfl,fun _ h=>nomatch h⟩⟩) (fun w=>yZc.mpr ⟨⟨114,by kernel_rfl⟩,yZc.mpr ⟨⟨102,by kernel_rfl⟩,fun _ h=>nomatch h⟩⟩) ?F
 case F=>
  intro w mg fa h KX G hmg
  have⟨F0,F1,F2,F3,F4,F5,F6,F7,F8,F9,F10,F11,F12,F13,F14,F15,F16,F17,F19,F20,F21⟩:L2.Fn (L2.KOf KX) mg "_law_whole" Nb.Qhl/\L2.Fn (L2.KOf KX) mg "_law_cell_at" Nb.Qps/\L2.Fn (L2.KOf KX) mg "_law_mixed" Nb.Qpt/\L2.Fn (L2.KOf KX) mg "_law_left" Nb.Qpu/\L2.Fn (L2.KOf KX) mg "_law_row" Nb.Qhm/\L2.Fn (L2.KOf KX) mg "_law_problem" Nb.Kp/\L2.Fn (L2.KOf KX) mg "_law_copy" Nb.Qpv/\L2.Fn (L2.KOf KX) mg "_law_numbered" Nb.Qpw/\L2.Fn (L2.KOf KX) mg "_law_led" Nb.sLed/\L2.Fn (L2.KOf KX) mg "_law_keeps" Nb.Kv/\L2.Fn (L2.KOf KX) mg "_law_alike" Nb.Kx/\L2.Fn (L2.KOf KX) mg "_law_orders" Nb.sOrd/\L2.Fn (L2.KOf KX) mg "_law_is_turn" Nb.sIsT/\L2.Fn (L2.KOf KX) mg "parts_of" Nb.sPts/\L2.Fn (L2.KOf KX) mg "turned" Nb.Qcd/\L2.Fn (L2.KOf KX) mg "turn_keeps" Nb.Qad/\L2.Fn (L2.KOf KX) mg "counted" Nb.Qab/\L2.Fn (L2.KOf KX) mg "named" Nb.Qhu/\L2.Fn (L2.KOf KX) mg "turn_from" Nb.Qrf/\L2.Fn (L2.KOf KX) mg "_law_right" Nb.Qeo/\L2.Fn (L2.KOf KX) mg "law" Nb.sLaw:=by
   dsimp only[L2.KOf]
   refine⟨?_,?_,?_,?_,?_,?_,?_,?_,?_,?_,?_,?_,?_,?_,?_,?_,?_,?_,?_,?_,?_⟩<;>(refine' L2.Zm KX G ?a ?l ?c ?k;case a | l | c | k=>k_is)
  have F18:L2.FnL (L2.KOf KX) mg "loose" Nb.Qen 114 112:=by
   dsimp only[L2.KOf]
   refine' ⟨_,_,L2.Qno ?l ?c ?k ?d,PySem.W.mg_of KX G ?a⟩
   (case a | l | c | k=>k_is);(case d=>kernel_rfl)
  have M:Nb.Mg mg:=by
   refine' ⟨PySem.W.mg_none_of KX G ?m_len,PySem.W.mg_none_of KX G ?m_min,PySem.W.mg_none_of KX G ?m_max,PySem.W.mg_none_of KX G ?m_sum,PySem.W.mg_none_of KX G ?m_all,PySem.W.mg_none_of KX G ?m_any,PySem.W.mg_none_of KX G ?m_abs,PySem.W.mg_none_of KX G ?m_isinstance,PySem.W.mg_none_of KX G ?m_sorted,PySem.W.mg_none_of KX G ?m_range_,PySem.W.mg_none_of KX G ?m_zip_,PySem.W.mg_none_of KX G ?m_tuple_,PySem.W.mg_none_of KX G ?m_list_,PySem.W.mg_none_of KX G ?m_int_,PySem.W.mg_none_of KX G ?m_bool_,PySem.W.mg_none_of KX G ?m_dict_,PySem.W.mg_none_of KX G ?m_enumerate_,PySem.W.mg_none_of KX G ?m_reversed_,PySem.W.mg_none_of KX G ?m_ValueError_,PySem.W.mg_none_of KX G ?m_set_,PySem.W.mg_none_of KX G ?m_str_⟩
   (case m_len | m_min | m_max | m_sum | m_all | m_any | m_abs | m_isinstance | m_sorted | m_range_ | m_zip_ | m_tuple_ | m_list_ | m_int_ | m_bool_ | m_dict_ | m_enumerate_ | m_reversed_ | m_ValueError_ | m_set_ | m_str_=>k_is)
  have CL:∃(CD fI fR fC fF fX fT fB:Addr) (fdI fdR fdC fdF fdX fdT fdB:FuncData),Nb.CoTxt (L2.KOf KX) mg CD/\mg "Colours"=some (.ref CD)/\L2.Mk (L2.KOf KX) CD fI/\L2.Fun (L2.KOf KX) "__init__" "Colours.__init__" Nb.Wy fI fdI/\L2.Fun (L2.KOf KX) "row_looks" "Colours.row_looks" Nb.Qeg fR fdR/\L2.Meth (L2.KOf KX) CD "row_looks" fR/\L2.Fun (L2.KOf KX) "choice_looks" "Colours.choice_looks" Nb.Qeh fC fdC/\L2.Meth (L2.KOf KX) CD "choice_looks" fC/\L2.Fun (L2.KOf KX) "finer" "Colours.finer" Nb.Qel fF fdF/\L2.Meth (L2.KOf KX) CD "finer" fF/\L2.Fun (L2.KOf KX) "fixed" "Colours.fixed" Nb.Qem fX fdX/\L2.Meth (L2.KOf KX) CD "fixed" fX/\L2.Fun (L2.KOf KX) "is_tired" "Colours.is_tired" Nb.Qej fT fdT/\L2.Meth (L2.KOf KX) CD "is_tired" fT/\L2.FunL (L2.KOf KX) "turn_by" "Colours.turn_by" Nb.Vk fB fdB 102 100/\L2.Meth (L2.KOf KX) CD "turn_by" fB:=by
   dsimp only[L2.KOf]
   refine' ⟨_,_,_,_,_,_,_,_,_,_,_,_,_,_,_,⟨⟨?pg,?hd,?po,?sa⟩,Nb.na_all ?n0 ?n1 ?n2 ?n3 ?n4⟩,PySem.W.mg_of KX G ?aC,⟨?mk,?a1,?i1,?kc⟩,L2.Wa (st:=Nb.Wy) ?l1 ?c1 ?k1,L2.Wa (st:=Nb.Qeg) ?l2 ?c2 ?k2,⟨?a2,?i2,?m2⟩,L2.Wa (st:=Nb.Qeh) ?l3 ?c3 ?k3,⟨?a3,?i3,?m3⟩,L2.Wa (st:=Nb.Qel) ?l4 ?c4 ?k4,⟨?a4,?i4,?m4⟩,L2.Wa (st:=Nb.Qem) ?l5 ?c5 ?k5,⟨?a5,?i5,?m5⟩,L2.Wa (st:=Nb.Qej) ?l6 ?c6 ?k6,⟨?a6,?i6,?m6⟩,L2.Qno (st:=Nb.Vk) ?l7 ?c7 ?k7 ?d7,⟨?a7,?i7,?m7⟩⟩
   (case aC | a1 | i1 | l1 | c1 | k1 | a2 | i2 | l2 | c2 | k2 | m2 | a3 | i3 | l3 | c3 | k3 | m3 | a4 | i4 | l4 | c4 | k4 | m4 | a5 | i5 | l5 | c5 | k5 | m5 | a6 | i6 | l6 | c6 | k6 | m6 | a7 | i7 | l7 | c7 | k7 | m7=>k_is);(case d7=>kernel_rfl)
   (case pg | hd | po | sa | mk | kc=>k_is)
   (case n0=>unfold L2.NoAttr;k_is);(case n1=>unfold L2.NoAttr;k_is);(case n2=>unfold L2.NoAttr;k_is);(case n3=>unfold L2.NoAttr;k_is);(case n4=>unfold L2.NoAttr;k_is)
  obtain⟨CD,fI,fR,fC,fF,fX,fT,fB,fdI,fdR,fdC,fdF,fdX,fdT,fdB,T,mgC,MI,FI,FR,mR,FC,mC,FF,mF,FX,mX,FT,mT,FB,mB⟩:=CL
  have bI:=FI.binds (ps:=["self","problem","patience"]) fun _ _ _ _ _ _=>L2.Qis (fun _ _ _=>rfl)
  have bR:=FR.binds (ps:=["self","colours"]) fun _ _ _ _ _ _=>L2.Vn (fun _ _=>rfl)
  have bC:=FC.binds (ps:=["self","colours","rows"]) fun _ _ _ _ _ _=>L2.Qis (fun _ _ _=>rfl)
  have bF:=FF.binds (ps:=["self","pair"]) fun _ _ _ _ _ _=>L2.Vn (fun _ _=>rfl)
  have bX:=FX.binds (ps:=["self","pair","choice","place"]) fun _ _ _ _ _ _=>L2.Qtk (fun _ _ _ _=>rfl)
  have bT:=FT.binds (ps:=["self"]) fun _ _ _ _ _ _=>L2.bind1 (fun _=>rfl)
  have bB:=FB.fn.binds (ps:=["self","pair"]) fun _ _ _ _ _ _=>L2.Vn (fun _ _=>rfl)
  have hC1:PySem.W.codeHdIn (L2.KOf KX) 114 112=true:=by
   dsimp only[L2.KOf]
   kernel_rfl
  have hC2:PySem.W.codeHdIn (L2.KOf KX) 102 100=true:=by
   dsimp only[L2.KOf]
   kernel_rfl
  have hB:L2.BltK (L2.KOf KX) mg:=by
   dsimp only[L2.KOf]
   refine' ⟨4,⟨.type "module",some 0,.plain,#[]⟩,PySem.W.mg_of KX G ?b1,Dc,Dc,?b2,rfl,rfl,rfl⟩
   (case b1 | b2=>k_is)
  obtain⟨f,fd,FF',hm⟩:=F21
  have e0:=hmg.symm.trans hm
  cases e0
  refine' ⟨fd,?b,fun base kb nb=>Nb.all_ok M hC1 hC2 hB Dc T mgC MI FI bI FR bR mR FC bC mC FF bF mF FX bX mX FT bT mT FB bB mB F0 F1 F2 F3 F4 F5 F6 F7 F8 F9 F10 F11 F12 F13 F14 F15 F16 F17 F18 F19 F20 FF'⟩
  obtain⟨oc,od,kV,doc,pm,an,cdv,ct,osl,rfl,lk,hcd⟩:=FF'.ex
  exact fun s u=>.of_eq rfl

