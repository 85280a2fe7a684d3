import PyProof.Rows.All
import Wide.All
import OpenK.AllK
import Wide.FinOn
import Lean
import PyProof.EqAt
import PyProof.EqKinds
import PyProof.TupleCall
import KE.KDictOf
import KE.KRevIter
import KE.KEqDict
import KE.KMinKey
import KE.KTryDeep
import KE.KIsAll
import KE.KSortTup
import OpenK.KTop
import KE.KPairComp
import KE.KDictSum
import PyProof.Rows.SortStr
import PyProof.NeKinds
import PyProof.Rows.SortShellK
import KE.KDictList
import PyProof.FString5
import KE.KIntText
import PyProof.DictValues
import PyProof.DictWalks
import PyProof.StrCalls
import PyProof.StrOps2
import PyProof.StrLawsNeg
import PyProof.StrLawsTight
import PySem.Challenge.RW_nonebetter_k95_whole_pictures_seen
noncomputable section
abbrev Fg := PySem.W.Frag
section
open PySem PySem.Spec PySem.W PyProof.Rows
abbrev jQ := @wpAny_bind
abbrev jX := @List.length_map
abbrev jY := @List.mem_cons_self
abbrev jZ := @Heap.get?_push_of_some
abbrev jJ := @List.length_append
abbrev jK := @Nat.le_refl
abbrev jV := @wpAny_pure
abbrev jW := @List.mem_singleton
abbrev kQ := @List.mem_cons_of_mem
abbrev kX := @List.getElem?_eq_some_iff
abbrev kY := @List.size_toArray
abbrev kZ := @List.mem_cons
abbrev kJ := @List.mem_append
abbrev kK := @of_decide_eq_true
abbrev kW := @List.mem_of_getElem?
abbrev yQ := @Bool.false_ne_true
abbrev yX := @List.mem_append_right
abbrev yY := @Heap.get?_push_size
abbrev yZ := @List.length_cons
abbrev yJ := @decide_eq_true
abbrev yK := @Heap.lt_size
abbrev yV := @List.take_length
abbrev yW := @List.getElem?_map
abbrev zQ := @List.map_append
abbrev zX := @List.map_cons
abbrev zY := @List.length_filterMap_le
abbrev zZ := @List.mem_append_left
abbrev zJ := @List.append_assoc
abbrev zK := @Nat.lt_of_le_of_lt
abbrev zV := @List.mem_map
abbrev zW := @Nat.ne_of_lt
abbrev xQ := @List.mem_filterMap
abbrev xX := @List.append_nil
abbrev xY := @List.mem_filter
abbrev xZ := @Nat.lt_of_lt_of_le
abbrev xJ := @List.length_take
abbrev xK := @Nat.add_le_add_left
abbrev xV := @decide_eq_false
abbrev xW := @Nat.zero_le
abbrev wQ := @List.take_of_length_le
abbrev wX := @List.filter_cons_of_neg
abbrev wY := @List.length_range
abbrev wZ := @Int.emod_lt_of_pos
abbrev wJ := @List.mem_iff_getElem?
abbrev wK := @Nat.min_eq_left
abbrev wV := @Bool.and_eq_true
abbrev wW := @List.lookup_cons
abbrev jQa := @List.mem_nil_iff
abbrev jQb := @Nat.succ_le_succ
abbrev jQc := @Nat.le_trans
abbrev jQd := @List.filter_cons_of_pos
abbrev jQe := @Int.emod_nonneg
abbrev jQf := @Array.length_toList
abbrev jXa := @List.all_eq_true
abbrev jXb := @List.any_eq_true
abbrev jXc := @List.getElem?_append_left
abbrev jXd := @Heap.get?_update_other
abbrev jXe := @List.filterMap_cons
abbrev jXf := @List.length_filter_le
abbrev jYa := @Int.toNat_natCast
abbrev jYb := @List.eq_nil_of_length_eq_zero
abbrev jYc := @Heap.get?_update_self
abbrev jYd := @Nat.lt_irrefl
abbrev jYe := @List.pairwise_cons
abbrev jYf := @List.pairwise_append
abbrev jZa := @List.sum_cons
abbrev jZb := @Heap.size_push
abbrev jZc := @List.drop_zero
abbrev jZd := @List.map_map
abbrev jZe := @List.flatMap_cons
abbrev jZf := @Bool.eq_iff_iff
abbrev jJa := @Bool.false_eq_true
abbrev jJb := @Option.isSome_iff_exists
abbrev jJc := @plainId_quiet
abbrev jJd := @List.length_drop
abbrev jJe := @List.mem_flatMap
abbrev jJf := @List.getElem?_append_right
abbrev jKa := @List.filter_append
abbrev jKb := @Nat.lt_succ_of_lt
abbrev jKc := @List.mem_range
abbrev jKd := @List.pairwise_singleton
abbrev jKe := @List.getElem?_set_self
abbrev jKf := @Option.map_eq_some_iff
abbrev kQa := @List.nodup_cons
abbrev kQb := @List.find?_cons
abbrev kQc := @List.map_take
abbrev kQd := @Array.getElem?_toList
abbrev kQe := @Array.getElem?_eq_some_iff
abbrev kQf := @Nat.ne_of_gt
abbrev kXa := @List.filter_cons
abbrev kXb := @List.cons_ne_nil
abbrev kXc := @List.isEmpty_iff
abbrev kXd := @List.getElem?_eq_none_iff
abbrev kXe := @Array.toList_append
abbrev kXf := @List.map_congr_left
abbrev kYa := @Option.map_some
abbrev kYb := @List.length_nil
abbrev kYc := @List.contains_cons
abbrev kYd := @List.drop_of_length_le
abbrev kYe := @Nat.sub_zero
abbrev kYf := @List.length_replicate
abbrev kZa := @Nat.min_eq_right
abbrev kZb := @List.getElem_mem
abbrev kZc := @List.any_cons
abbrev kZd := @Int.le_refl
abbrev kZe := @Bool.or_eq_true
abbrev kZf := @Nat.not_lt_zero
abbrev kJa := @List.mem_map_of_mem
abbrev kJb := @Int.zero_add
abbrev kJc := @List.drop_eq_getElem_cons
abbrev kJd := @Array.getElem?_eq_getElem
abbrev kJe := @Array.size_append
abbrev kJf := @List.filterMap_eq_filter
abbrev kKa := @List.flatMap_eq_nil_iff
abbrev kKb := @Nat.toDigits_of_lt_base
abbrev kKc := @List.map_nil
abbrev kKd := @Int.ne_of_gt
abbrev kKe := @List.foldl_cons
abbrev kKf := @List.nil_append
abbrev yQa := @List.range_succ
abbrev yQb := @List.take_left'
abbrev yQc := @List.getElem?_eq_none
abbrev yQd := @List.take_append_drop
abbrev yQe := @Array.getElem?_setIfInBounds_self_of_lt
abbrev yQf := @Heap.get?_none_of_le
abbrev yXa := @List.getElem?_set_ne
abbrev yXb := @List.take_zero
abbrev yXc := @List.getElem_of_mem
abbrev yXd := @List.flatMap_append
abbrev yXe := @List.replicate_succ
end
abbrev gE := @List.getElem?_eq_getElem
set_option Elab.async false
set_option linter.all false
set_option maxRecDepth 100000
set_option maxHeartbeats 4000000
set_option bootstrap.genMatcherCode false
set_option genSizeOfSpec false
set_option compiler.extract_closed false
abbrev VP:=PySem.Value->PySem.Shared->Prop
abbrev Z7:=List (PySem.Str×PySem.Str×Int)
abbrev Z8:=List (PySem.Addr×PySem.Obj)
abbrev Z9:=PySem.Str->Option PySem.Value
open Sum (inr)
open Nat (beq ble)
open Or (inl)
abbrev Y1:=@PySem.F.plainAttrs_list
abbrev Y2:=@PySem.F.slot_list_append
abbrev Y3:=@PySem.F.type_list_append
abbrev Y4:=@PySem.F.plainAttrs_str
abbrev Y5:=@Option.some.inj
open PyProof.Rows (envOfC)
open PySem.W (mg_none_of)
abbrev Y20:=@if_neg
abbrev Y21:=@absurd
abbrev Y22:=@if_pos
abbrev Y23:=@PySem.wpAny_field
abbrev Y24:=@PySem.wpAny_setField_rec
abbrev Y25:=@PySem.wpAny_call_entry
abbrev Y26:=@PySem.wpAny_newObj_type
abbrev Y27:=@PySem.wpAny_loadPart_at
abbrev Y28:=@PySem.codeAny_builtin
abbrev Y29:=@PySem.wpAny_mono
abbrev Y30:=@PySem.wpAny_holding
abbrev Y31:=@PySem.wpAny_truthy_bool
abbrev Y32:=@PySem.wpAny_of_eq
abbrev Y33:=@PySem.PassesOwn.never
abbrev Y34:=@PySem.AutoSeq1.wpAny_loadPart'
abbrev Y35:=@PySem.Around.under_plainId
abbrev Y36:=@PySem.F.slot_enumerate_next
abbrev Y37:=@Sum.inr.inj
abbrev Y38:=@PyProof.Rows.callWith_type1
abbrev Y39:=@PySem.Calls.callWith_builtin
abbrev Y40:=@PySem.wpAny_typeOf
abbrev Y41:=@PySem.wpAny_Call_Name_kw
abbrev Y42:=@PySem.Obj.data_mapFields
abbrev Y43:=@PySem.codeAny_call_builtin
abbrev Y44:=@PyProof.Rows.slot_tuple_getitem
abbrev Y45:=@PySem.F.args_enumerate_next_1
abbrev Y46:=@PySem.wpAny_typeNameOfWhole_keyiter
abbrev Y47:=@PySem.F.entry_enumerate_next
abbrev Y48:=@PySem.F.slot_dict_keyiterator_next
abbrev Y49:=@PySem.codeAny_mono
abbrev Y50:=@PySem.call_meetsIn
abbrev Y51:=@PySem.wpAny_pyIter_list
abbrev Y52:=@PySem.F.slot_tuple_iterator_next
abbrev Y53:=@PySem.wpAny_setField
abbrev Y54:=@PySem.wpAny_typeNameOf_keyiter
abbrev Y55:=@PySem.wpAny_attempt
abbrev Y56:=@PySem.tupleKind_room_in1
abbrev Y57:=@PySem.Calls.spliced_cons
abbrev Y58:=@PySem.wpAny_rule
abbrev Y59:=@PySem.wpAny_notOrdered_dict
abbrev Y60:=@PySem.builtinLookup_eq_fast
abbrev Y61:=@PySem.Obj.isFreed_of_fields
abbrev Y62:=@PySem.wpAny_standAt
abbrev Y63:=@PySem.call_meets
abbrev Y64:=@PySem.wpAny_specialOf
abbrev Y65:=@PySem.wpAny_passesOwn
abbrev Y66:=@PySem.wpAny_execs_nil
abbrev Y67:=@PySem.Heap.SameBut.update
abbrev Y68:=@PySem.F.plain_extend_loop
abbrev Y69:=@of_decide_eq_false
theorem Om{p:Prop}(h:p:=by lia):p:=h
theorem Dc{p:Prop}(h:p:=by decide):p:=h
theorem Z2{x:PySem.Str}:[x].Nodup:=.cons (fun _ h=>nomatch h) .nil
theorem Sn{p:Prop}(a b:PySem.Str)(e:(¬a=b)=p:=by exact rfl)(h:¬a=b:=by decide +kernel):p:=e.mp h
theorem Z0{n:Int}(h:0<n:=by decide +kernel):0<n:=h
theorem Z6{a b c l:Nat}(n:Nat)(h:a+b+c<l)(d:n<=b+c:=by decide):a+n<l:=by lia
theorem Dk{p:Prop}(h:p:=by decide +kernel):p:=h
theorem J1 (h:True:=by rfl):True:=h
theorem J2 (h:True:=by decide):True:=h
theorem J3 (h:True:=by first | exact .inl rfl | exact .inr rfl | assumption):True:=h
theorem J4 (h:True:=by intro _;rfl):True:=h
namespace L2
open PySem PySem.Spec PyProof.Rows
abbrev Key:=Sum Int Str
def Qhf:Key->Value->Bool
 |.inl k,v=>Value.isInt k v
 |.inr x,v=>Value.isStrOf x v
def keyH(w:World):Key->Int
 |.inl k=>hashInt k
 |.inr x=>hashStr w x
theorem Yc:∀{k:Key} {v:Value},Qhf k v=true->(∃i t,k=Sum.inl i/\v=Value.int i t)\/(∃x t,k=inr x/\v=Value.str x t)
 |.inl i,v,h=>by
  obtain⟨t,e⟩:=Value.isInt_shape (k:=i) (v:=v) h
  exact .inl ⟨i,t,rfl,e⟩
 |.inr x,v,h=>by
  obtain⟨t,e⟩:=Value.isStrOf_shape (x:=x) (v:=v) h
  exact .inr ⟨x,t,rfl,e⟩
theorem Qmh(i:Int)(t:Tok):Qhf (.inl i) (.int i t)=true:=by simp[Qhf,Value.isInt]
theorem Qmi(x:Str)(t:Tok):Qhf (.inr x) (.str x t)=true:=by simp[Qhf,Value.isStrOf]
theorem key_ll(a b:Int):decide ((Sum.inl a:Key)=Sum.inl b)=(a == b):=by
 by_cases e:a=b
 .subst e;simp
 .have h:¬(Sum.inl a:Key)=Sum.inl b:=fun q=>e (Sum.inl.inj q)
  rw[xV h]
  exact(beq_eq_false_iff_ne.mpr e).symm
theorem key_rr(a b:Str):decide ((inr a:Key)=inr b)=decide (a=b):=by
 by_cases e:a=b
 .subst e;simp
 .have h:¬(inr a:Key)=inr b:=fun q=>e (Y37 q)
  rw[xV h,xV e]
theorem key_lr(a:Int)(b:Str):decide ((Sum.inl a:Key)=inr b)=false:=xV (fun q=>nomatch q)
theorem key_rl(a:Str)(b:Int):decide ((inr a:Key)=Sum.inl b)=false:=xV (fun q=>nomatch q)
def Xg(prog:Program)(w:World):PySem.KeyKind prog w Key where
 is:=Qhf
 hash:=keyH w
 inj:=fun v a b ha hb=>by
  rcases Yc ha with⟨i,t,rfl,rfl⟩ | ⟨x,t,rfl,rfl⟩
  .rcases Yc hb with⟨j,u,rfl,e⟩ | ⟨y,u,rfl,e⟩
   .injection e with e1 _;rw[e1]
   .exact nomatch e
  .rcases Yc hb with⟨j,u,rfl,e⟩ | ⟨y,u,rfl,e⟩
   .exact nomatch e
   .injection e with e1 _;rw[e1]
 byValue:=fun k v h=>by
  rcases Yc h with⟨i,t,rfl,rfl⟩ | ⟨x,t,rfl,rfl⟩<;>rfl
 pyHash:=fun hv h=>by
  rcases Yc hv with⟨i,t,rfl,rfl⟩ | ⟨x,t,rfl,rfl⟩
  .exact wpAny_pyHash_int h
  .exact wpAny_pyHash_str h
 eqBool:=fun hu hv h=>by
  rcases Yc hu with⟨i,t,rfl,rfl⟩ | ⟨x,t,rfl,rfl⟩
  .rcases Yc hv with⟨j,u,rfl,rfl⟩ | ⟨y,u,rfl,rfl⟩
   .rw[key_ll]at h;exact wpAny_eqBool_int h
   .rw[key_lr]at h;exact SeqAt.EqAt.int_str i t y u _ _ _ _ h
  .rcases Yc hv with⟨j,u,rfl,rfl⟩ | ⟨y,u,rfl,rfl⟩
   .rw[key_rl]at h;exact SeqAt.EqAt.str_int x t j u _ _ _ _ h
   .rw[key_rr]at h;exact wpAny_eqBool_str h
 «strs»:=fun k x t v h=>by
  rcases Yc h with⟨i,u,rfl,e⟩ | ⟨y,u,rfl,e⟩
  .exact nomatch e
  .injection e with e1 _
   subst e1
   cases v<;>rfl
theorem Qkr(prog:Program)(w:World)(k:Key)(v:Value):(Xg prog w).is k v=Qhf k v:=rfl
theorem Qhg(prog:Program)(w:World)(i:Int)(t:Tok):(Xg prog w).is (.inl i) (.int i t)=true:=Qmh i t
theorem Qhh(prog:Program)(w:World)(x:Str)(t:Tok):(Xg prog w).is (.inr x) (.str x t)=true:=Qmi x t
inductive V where
 |non | bl (b:Bool) | int (i:Int) | str (x:Str) | byt (b:Array UInt8) | flt (b:UInt64) | ref (a:Addr) | ty (n:String)
 deriving DecidableEq
def RelV:V->Value->Prop
 |.non,u=>u=Value.none
 |.bl b,u=>u=Value.bool b
 |.int i,u=>∃t,u=Value.int i t
 |.str x,u=>∃t,u=Value.str x t
 |.byt b,u=>∃t,u=Value.bytes b t
 |.flt b,u=>∃t,u=Value.float b t
 |.ref a,u=>u=Value.ref a
 |.ty n,u=>u=Value.type n
abbrev Vals:List V->List Value->Prop:=Paired RelV
theorem Vals.length{xs:List V}{us:List Value}(r:Vals xs us):xs.length=us.length:=Paired.length r
theorem Vals.get:∀{xs:List V} {us:List Value} {i:Nat} {x:V},Vals xs us->xs[i]?=some x->∃u,us[i]?=some u/\RelV x u
 |_,_,_,_,.nil,e=>by simp at e
 |_,_,0,_,.cons r _,e=>by simp at e;subst e;exact⟨_,rfl,r⟩
 |_,_,i+1,x,.cons _ t,e=>by
  obtain⟨u,b,a⟩:=Vals.get (i:=i) (x:=x) t (by simpa using e)
  exact⟨u,by simpa using b,a⟩
theorem Vals.append{xs ys:List V}{us ws:List Value}(h:Vals xs us)(g:Vals ys ws):Vals (xs++ys) (us++ws):=by
 induction h with
 |nil=>exact g
 |cons r t ih=>exact .cons r ih
theorem Vals.take:∀{xs:List V} {us:List Value} (n:Nat),Vals xs us->Vals (xs.take n) (us.take n)
 |_,_,0,_=>.nil
 |_,_,_+1,.nil=>.nil
 |_,_,n+1,.cons r t=>.cons r (Vals.take n t)
theorem Vals.drop:∀{xs:List V} {us:List Value} (n:Nat),Vals xs us->Vals (xs.drop n) (us.drop n)
 |_,_,0,r=>r
 |_,_,_+1,.nil=>.nil
 |_,_,n+1,.cons _ t=>Vals.drop n t
def RelO:Option V->Option Value->Prop
 |some v,some u=>RelV v u
 |none,none=>True
 |_,_=>False
def KV{κ:Type}:List (κ×V)->List (κ×Value)->Prop:=Paired fun(p:κ×V) (q:κ×Value)=>p.1=q.1/\RelV p.2 q.2
def kV:Key->V
 |.inl i=>.int i
 |.inr x=>.str x
inductive HO where
 |lst (xs:List V)
 |tup (xs:List V)
 |dK (kvs:List (Key×V)) | dT (kvs:List (List Key×V))
 |set (S:Int->Bool) (n:Nat)
 |ins (C dx:Addr) (fs:List (Str×V))
 |own (x:Addr)
 |xd (fs:List (Str×V))
 |met (f x:Addr)
 |rng (lo hi:Int)
 |frz (o:Obj) (u:HO)
 |tbl (ps:Array Value)
 |ext (φ:Heap->Prop)
abbrev Hp:=Addr->Option HO
def upd(H:Hp)(a:Addr)(o:HO):Hp:=fun b=>if b=a then some o else H b
theorem Qc{H:Hp}{a:Addr}{o:HO}:upd H a o a=some o:=by unfold upd;rw[Y22 rfl]
theorem Qj{H:Hp}{a b:Addr}{o:HO}(h:b≠a):upd H a o b=H b:=by unfold upd;rw[Y20 h]
theorem Qdh{H:Hp}{a:Addr}{o u:HO}:upd (upd H a o) a u=upd H a u:=by
 funext b;unfold upd;split<;>rfl
theorem Yl{H:Hp}{a b:Addr}{o u:HO}(h:H a=some o)(h':H b=some u)(d:o≠u):a≠b:=by
 intro e;subst e;rw[h]at h';exact d (Y5 h')
theorem Qk{H:Hp}{a b:Addr}{o:HO}(h:H a=some o)(h':H b=none):a≠b:=by
 intro e;subst e;rw[h]at h';cases h'
section
variable(P:Program)(w:World)
def ObjOk(H:Hp)(h:Heap)(a:Addr):HO->Prop
 |.lst xs=>xs.length<=sizeLine/\∃(its:List Value) (n:Nat),Vals xs its/\h.get? a=some { cls:=.type "list",data:=.seq its.toArray n }
 |.tup xs=>xs.length<=sizeLine/\∃its:List Value,Vals xs its/\IsTup h a its.toArray
 |.dK kvs=>kvs.length<=sizeLine/\(a == sysModules)=false/\∃vs,KV kvs vs/\h.DictOf (Xg P w) a vs
 |.dT kvs=>kvs.length<=sizeLine/\(a == sysModules)=false/\∃xs:List (List Key×Addr×Value),
   Paired (fun(p:List Key×V) (q:List Key×Addr×Value)=>p.1=q.1/\H q.2.1=some (.tup (p.1.map kV))/\RelV p.2 q.2.2) kvs xs /\
   ∃o es ep,h.get? a=some o/\o.ExactDict/\o.data=.dict es ep/\es.toList=xs.map (entryOfKey (tupleKind (Xg P w)))/\(xs.map (·.1)).Nodup
 |.set S n=>h.SetOf (intKind P w) a S n
 |.ins C dx fs=>H dx=some (.own a)/\fs.length<=1000/\dx≠a/\h.get? a=some (PySem.W.instObj C dx) /\
   ∃mA,h.Ns1 dx mA/\(∀f,RelO (fs.lookup f) (mA f))/\PySem.Within mA (fs.map (·.1))
 |.own _=>∃o,h.get? a=some o
 |.xd fs=>∃mA,h.Ns1 a mA/\∀f,RelO (fs.lookup f) (mA f)
 |.rng lo hi=>∃t u v,h.get? a=some { cls:=.type "range",data:=.fields #[.int lo t,.int hi u,.int 1 v] }
 |.frz o u=>h.get? a=some o/\ObjOk H h a u
 |.tbl ps=>h.get? a=some { cls:=.none,data:=.fields ps }
 |.met f x=>h.get? a=some (PySem.W.methodObj (.ref f) (.ref x))
 |.ext φ=>φ h/\(∃o,h.get? a=some o)/\∀h1 h2:Heap,φ h1->(∀o,h1.get? a=some o->h2.get? a=some o)->φ h2
def HOk(H:Hp)(h:Heap):Prop:=∀a o,H a=some o->ObjOk P w H h a o
end
section
variable{P:Program}{w:World}{H H':Hp}{h h':Heap}{a:Addr}{o:HO}
theorem ObjOk.lt(x:ObjOk P w H h a o):a<h.objs.size:=by
 cases o with
 |lst xs=>obtain⟨_,_,_,_,e⟩:=x;exact yK e
 |tup xs=>obtain⟨_,_,_,p⟩:=x;exact p.lt
 |dK kvs=>obtain⟨_,_,_,_,o,_,_,e,_⟩:=x;exact yK e
 |dT kvs=>obtain⟨_,_,_,_,o,_,_,e,_⟩:=x;exact yK e
 |set S n=>obtain⟨o,_,_,_,e,_⟩:=x;exact yK e
 |ins C dx fs=>obtain⟨_,_,_,e,_⟩:=x;exact yK e
 |own y=>obtain⟨_,e⟩:=x;exact yK e
 |xd fs=>obtain⟨_,⟨_,_,_,e,_⟩,_⟩:=x;exact yK e
 |rng lo hi=>obtain⟨_,_,_,e⟩:=x;exact yK e
 |frz ob u=>obtain⟨e,_⟩:=x;exact yK e
 |tbl ps=>exact yK (show h.get? a=some _ from x)
 |met f y=>exact yK (show h.get? a=some _ from x)
 |ext φ=>obtain⟨_,⟨_,e⟩,_⟩:=x;exact yK e
theorem Paired.mapP{α β:Type}{F G:α->β->Prop}{l₁:List α}{l₂:List β}(h:Paired F l₁ l₂)(f:∀a b,F a b->G a b):Paired G l₁ l₂:=by
 induction h with
 |nil=>exact .nil
 |cons r t ih=>exact .cons (f _ _ r) ih
theorem ObjOk.stay(x:ObjOk P w H h a o)(k:∀b u,(b=a\/H b=some (.own a))->h.get? b=some u->h'.get? b=some u)
  (G:∀b,H b=some (.own a)->H' b=some (.own a)) (E:∀b xs,H b=some (.tup xs)->H' b=some (.tup xs)):ObjOk P w H' h' a o:=by
 induction o with
 |lst xs=>obtain⟨z,l,n,r,e⟩:=x;exact⟨z,l,n,r,k _ _ (.inl rfl) e⟩
 |tup xs=>obtain⟨z,l,r,g,e,c⟩:=x;exact⟨z,l,r,g,k _ _ (.inl rfl) e,c⟩
 |dK kvs=>obtain⟨z,y,D,r,g,j,i,e,c⟩:=x;exact⟨z,y,D,r,g,j,i,k _ _ (.inl rfl) e,c⟩
 |dT kvs=>
  obtain⟨z,y,xs,r,g,j,i,e,c⟩:=x
  exact⟨z,y,xs,Paired.mapP r fun p q z=>⟨z.1,E _ _ z.2.1,z.2.2⟩,g,j,i,k _ _ (.inl rfl) e,c⟩
 |set S n=>obtain⟨g,j,i,t,e,c⟩:=x;exact⟨g,j,i,t,k _ _ (.inl rfl) e,c⟩
 |ins C dx fs=>
  obtain⟨d,z,B,e,s,⟨m,j,i,F,c⟩,r⟩:=x
  exact⟨G _ d,z,B,k _ _ (.inl rfl) e,s,⟨m,j,i,k _ _ (.inr d) F,c⟩,r⟩
 |own y=>obtain⟨g,e⟩:=x;exact⟨g,k _ _ (.inl rfl) e⟩
 |xd fs=>obtain⟨s,⟨m,j,i,e,c⟩,r⟩:=x;exact⟨s,⟨m,j,i,k _ _ (.inl rfl) e,c⟩,r⟩
 |rng lo hi=>obtain⟨t,u,v,e⟩:=x;exact⟨t,u,v,k _ _ (.inl rfl) e⟩
 |frz g u ih=>obtain⟨e,q⟩:=x;exact⟨k _ _ (.inl rfl) e,ih q⟩
 |tbl ps=>
  have e:h.get? a=some { cls:=.none,data:=.fields ps }:=x
  show h'.get? a=some { cls:=.none,data:=.fields ps }
  exact k a _ (.inl rfl) e
 |met f y=>
  have e:h.get? a=some (PySem.W.methodObj (.ref f) (.ref y)):=x
  show h'.get? a=some (PySem.W.methodObj (.ref f) (.ref y))
  exact k a _ (.inl rfl) e
 |ext φ=>obtain⟨p,⟨o,e⟩,A⟩:=x;exact⟨A _ _ p fun o q=>k _ _ (.inl rfl) q,⟨o,k _ _ (.inl rfl) e⟩,A⟩
theorem HOk.lt(x:HOk P w H h)(e:H a=some o):a<h.objs.size:=(x a o e).lt
theorem HOk.fresh(x:HOk P w H h)(e:h.objs.size<=a):H a=none:=by
 cases q:H a with
 |none=>rfl
 |some u=>exact Y21 (xZ (x.lt q) e) (jYd _)
theorem HOk.kept(x:HOk P w H h)(k:∀b u,h.get? b=some u->h'.get? b=some u):HOk P w H h':=fun a o e=>
 (x a o e).stay (fun b u _ q=>k b u q) (fun _ q=>q) fun _ _ q=>q
theorem HOk.laid(x:HOk P w H h)(k:∀b u,h.get? b=some u->h'.get? b=some u)(i:h.objs.size<=a)(d:ObjOk P w (upd H a o) h' a o):HOk P w (upd H a o) h':=fun b u e=>by
 have g:=x.fresh i
 by_cases f:b=a
 .subst f;rw[Qc]at e;cases e;exact d
 .rw[Qj f]at e
  exact(x b u e).stay (fun c v _ q=>k c v q) (fun c q=>by rw[Qj (Qk q g)];exact q) fun c j q=>by rw[Qj (Qk q g)];exact q
end
def Rd(H:Hp)(a:Addr)(u:HO):Prop:=H a=some u\/∃o,H a=some (.frz o u)
theorem Rd.ok{P:Program}{w:World}{H:Hp}{h:Heap}{a:Addr}{u:HO}(r:Rd H a u)(x:HOk P w H h):ObjOk P w H h a u:=by
 rcases r with r | ⟨o,r⟩
 .exact x a u r
 .obtain⟨_,q⟩:=x a _ r
  exact q
def Mut:Option HO->Prop
 |some (.lst _)=>True
 |some (.dK _)=>True
 |some (.dT _)=>True
 |some (.set _ _)=>True
 |some (.ins _ _ _)=>True
 |some (.ext _)=>True
 |_=>False
section
variable{P:Program}{w:World}{H:Hp}{h h':Heap}{x e:Addr}{o':HO}
theorem HOk.write(ok:HOk P w H h)(j:Mut (H x))(he:e=x\/H e=some (.own x))(k:∀b u,b≠e->h.get? b=some u->h'.get? b=some u)(l:∃u,h'.get? e=some u)
  (m:ObjOk P w (upd H x o') h' x o'):HOk P w (upd H x o') h':=fun b u q=>by
 have d:∀c y,H c=some (.own y)->c≠x:=fun c y r z=>by subst z;rw[r]at j;exact j
 have f:∀c i,H c=some (.tup i)->c≠x:=fun c i r z=>by subst z;rw[r]at j;exact j
 by_cases g:b=x
 .subst g;rw[Qc]at q;cases q;exact m
 .rw[Qj g]at q
  by_cases a:b=e
  .have n:H b=some (.own x):=by
    rcases he with z | z
    .exact Y21 (a.trans z) g
    .rw[a];exact z
   rw[q]at n;cases n
   obtain⟨v,p⟩:=l
   exact⟨v,by rw[a];exact p⟩
  .refine(ok b u q).stay (fun c v hc r=>k c v ?_ r) (fun c r=>by rw[Qj (d c b r)];exact r) fun c i r=>by rw[Qj (f c i r)];exact r
   rcases hc with rfl | hc
   .exact a
   .rintro rfl
    rcases he with z | z
    .exact d c b hc z
    .rw[hc]at z;cases z;exact g rfl
end
end L2
section
variable{p b l a it dx C f CX d aN fE fM fU fL DX fX:PySem.Addr}{n c z b' e':Int}{xs ys vs zs:List L2.V}{us its its':List PySem.Value}{H H' H1 H0:L2.Hp}{o fo:PySem.Obj}{u doc pm cdv ct oc vl vu:PySem.Value}{P prog:PySem.Program}{w x v qual v':PySem.Str}{t' i j kk ep:Nat}{ch fp:List PySem.Addr}{e tg iter elt:PySem.Expr}{pins' pins:Z8}{N ns loose nm ws:List PySem.Str}{M:PySem.Model}{A:PySem.Around}{E Q₁:VP}{s' s:PySem.Shared}{pos pos' px apos cpos tp:PySem.Pos}{Q:Option PySem.Value->PySem.Shared->Prop}{y:L2.V}{K:Fg}{st:PySem.Stmt}{es ifs:List PySem.Expr}{lo hi:Option Int}{tk tW:PySem.Tok}{mA mg fN:Z9}{expr m f1:Bool}{R:PySem.Result->PySem.Shared->Prop}{kw:List (PySem.Str×PySem.Value)}{base h':PySem.Heap}{outer:List PySem.Env}{fd fdE fdM fdU fdL fdI fdX:PySem.FuncData}{scope:PySem.Scope}{an od:Option PySem.Addr}{osl sl:Array (Option PySem.Value)}{XP:Z9->PySem.Heap->Prop}{YP:PySem.World->PySem.Heap->Prop}{cp:List (Option Nat)}{kvs:List (List L2.Key×L2.V)}{ks ls:List L2.Key}{pl pl2:Z7}{kss:List (List L2.Key)}{newId:String}
namespace L2
open PySem PySem.Spec PyProof.Rows
structure Un(fs ex:List Addr)(H H':Hp)(h h':Heap):Prop where
 keep:∀b o,h.get? b=some o->H b=none->b∉fs->b∉ex->h'.get? b=some o
 slot:∀b o,h.get? b=some o->H b=none->b∈fs->b∉ex->∃sl,h'.get? b=some { o with slots:=sl }
 free:∀b o,h.get? b=some o->H b=none->b∉ex->H' b=none
 there:∀b o,h.get? b=some o->b∉ex->∃o',h'.get? b=some o'
 tups:∀b xs,H b=some (.tup xs)->H' b=some (.tup xs)
 frzs:∀b o u,H b=some (.frz o u)->H' b=some (.frz o u)
 tbls:∀b ps,H b=some (.tbl ps)->∃more,H' b=some (.tbl (ps++more))
section
variable{fs ex:List Addr}{h h1:Heap}{x e:Addr}{o:HO}
theorem Un.any(u:Un fs ex H H1 h h1){ob:Obj}(q:h.get? b=some ob)(n:H b=none)(c:b∉ex):∃sl,h1.get? b=some { ob with slots:=sl }:=by
 by_cases a:b∈fs
 .exact u.slot b ob q n a c
 .exact⟨ob.slots,u.keep b ob q n a c⟩
theorem Un.kept(k:∀b u,h.get? b=some u->h'.get? b=some u):Un fs ex H H h h' :=
 ⟨fun b a q _ _ _=>k b a q,fun b a q _ _ _=>⟨a.slots,k b a q⟩,fun _ _ _ n _=>n,fun b a q _=>⟨a,k b a q⟩,fun _ _ q=>q,fun _ _ _ q=>q,fun _ ps q=>⟨#[],by rw[q];simp⟩⟩
theorem Un.refl:Un fs ex H H h h:=Un.kept fun _ _ q=>q
theorem Un.laid(k:∀b u,h.get? b=some u->h'.get? b=some u)(d:h.objs.size<=a)(c:H a=none):Un fs ex H (upd H a o) h h' where
 keep:=fun b u q _ _ _=>k b u q
 slot:=fun b u q _ _ _=>⟨u.slots,k b u q⟩
 free:=fun b u q n _=>by rw[Qj (zW (xZ (yK q) d))];exact n
 there:=fun b u q _=>⟨u,k b u q⟩
 tups:=fun b e q=>by rw[Qj (Qk q c)];exact q
 frzs:=fun b u e q=>by rw[Qj (Qk q c)];exact q
 tbls:=fun b ps q=>⟨#[],by rw[Qj (Qk q c),q];simp⟩
theorem Un.write(c:Mut (H x))(he:e=x\/H e=some (.own x))(k:∀b u,b≠e->h.get? b=some u->h'.get? b=some u)(f:∃u,h'.get? e=some u):Un fs ex H (upd H x o) h h':=by
 have i:∀b,H b=none->b≠x:=fun b n z=>by subst z;rw[n]at c;exact c
 have g:∀b,H b=none->b≠e:=fun b n z=>by
  subst z
  rcases he with r | r
  .exact i b n r
  .rw[n]at r;cases r
 have d:∀b u,H b=some u->¬Mut (some u)->b≠x:=fun b u q j z=>by subst z;rw[q]at c;exact j c
 refine⟨fun b u q n _ _=>k b u (g b n) q,fun b u q n _ _=>⟨u.slots,k b u (g b n) q⟩,fun b u q n _=>by rw[Qj (i b n)];exact n,fun b u q _=>?_,
  fun b l q=>by rw[Qj (d b _ q fun z=>z)];exact q,fun b u l q=>by rw[Qj (d b _ q fun z=>z)];exact q,fun b ps q=>⟨#[],by rw[Qj (d b _ q fun z=>z),q];simp⟩⟩
 by_cases a:b=e
 .subst a;exact f
 .exact⟨u,k b u a q⟩
end
def trk(h:Heap)(H:Hp):List Addr:=(List.range h.objs.size).filter fun a=>(H a).isSome
def hidT(h:Heap)(H:Hp):Heap:=PySem.W.hideAll h (trk h H)
theorem Qmj(h:Heap)(H:Hp):(hidT h H).objs.size=h.objs.size:=PySem.W.hideAll_size _ _
theorem Qqx{h:Heap}(e:h.get? b=some o)(n:H b=none):(hidT h H).get? b=some o :=
 PySem.W.hideAll_get _ e fun a=>by
  have q:(H b).isSome=true:=(xY.mp a).2
  rw[n]at q;simp at q
theorem Qvr{h:Heap}(e:(hidT h H).get? b=some o):h.get? b=some o/\H b=none:=by
 have a:h.get? b=some o:=PySem.W.of_hideAll (trk h H) e
 refine⟨a,?_⟩
 cases q:H b with
 |none=>rfl
 |some x=>
  have c:b∈trk h H:=xY.mpr ⟨jKc.mpr (yK a),by simp[q]⟩
  have z:(hidT h H).get? b=none:=PySem.W.hideAll_none (trk h H) c
  rw[z]at e;cases e
structure Mod(K:Fg)(mg:Z9)(base:Heap):Prop where
 kin:K.In base
 glob:base.Ns mainGlobals mg
 blt:∃mb,base.Ns builtinsNs mb/\∀x:Str,x≠"__name__"->mb x=bootBuiltins x
 nolimit:base.NoLimit
set_option genInjectivity false in
set_option genInjectivity false in
structure Cx where
 prog:Program
 w:World
 K:Fg
 mg:Z9
 base:Heap
 A:Around
 N:List Str
 s₀:Shared
 H₀:Hp
 env:Env
 outer:List Env
 stack:List Env
 ex:List Addr
 fn:Str->Bool
 calm:Bool
 pn:Z8
 xe:VP
def frs(l:List Env):List Addr:=l.filterMap (·.frame)
abbrev Cx.fs(X:Cx):List Addr:=frs X.outer
def Vis(sc:Scope)(x:Str):Prop:=sc.names.lookup x=some .local\/sc.names.lookup x=some .cell\/sc.names.lookup x=some .free
def Loc(sc:Scope)(x:Str):Prop:=sc.names.lookup x=some .local\/sc.names.lookup x=some .cell
def Look(env:Env)(h:Heap)(m:Z9)(x:Str)(u:Value):Prop :=
 (env.kindOf x=some .local/\m x=some u)\/((env.kindOf x=some .cell\/env.kindOf x=some .free)/\∃c,env.cells.lookup x=some c/\h.IsCell c (some u))
structure Cx.Ok(X:Cx):Prop where
 mod:Mod X.K X.mg X.base
 kind:X.env.scope.kind=.function
 glob:X.env.globals=mainGlobals
 blt:X.env.builtins=builtinsNs
 above:X.s₀.heap.objs.size<=X.env.locals
 inj:∀x y c,X.env.cells.lookup x=some c->X.env.cells.lookup y=some c->x=y
 has:∀x,(X.env.kindOf x=some .cell\/X.env.kindOf x=some .free)->∃c,X.env.cells.lookup x=some c
 cab:∀x c,X.fn x=true->X.env.cells.lookup x=some c->X.s₀.heap.objs.size<=c
 hd:X.calm=true->X.A.handled=none
 frames:X.A.frames=some X.stack
 stk:X.stack=X.outer\/(X.stack=X.env::X.outer/\X.env.frame=some X.env.locals)
 exf:∀b∈X.ex,b≠X.env.locals/\∀x c,X.env.cells.lookup x=some c->c≠b
 bs:∀b o,X.base.get? b=some o->X.s₀.heap.get? b=some o/\X.H₀ b=none
 bsz:X.base.objs.size<=X.s₀.heap.objs.size
 noex:∀b o,X.base.get? b=some o->b∉X.ex
 exfs:∀b∈X.ex,b∉X.fs
 funs:X.s₀.heap.FunFrames X.base X.outer
 frf:∀b∈X.fs,X.H₀ b=none
structure Inv(X:Cx)(pins:Z8)(σ:List (Option V))(H:Hp)(s:Shared):Prop where
 ok:X.Ok
 os:s.os=X.s₀.os
 bare:AllBare s.gens
 base:Un X.fs X.ex X.H₀ H X.s₀.heap s.heap
 loc:∃m,s.heap.Ns X.env.locals m/\∀(i:Nat) (x:Str) (v:V),X.N[i]?=some x->σ[i]?=some (some v)->Vis X.env.scope x->∃u,RelV v u/\Look X.env s.heap m x u
 cell:∀x c,X.env.cells.lookup x=some c->∃v,s.heap.IsCell c v
 free:H X.env.locals=none
 freeC:∀x c,X.env.cells.lookup x=some c->H c=none
 pin:∀p∈X.pn++pins,s.heap.get? p.1=some p.2/\H p.1=none/\p.1≠X.env.locals/\p.1∉X.fs/\∀v,p.2.data≠.cell v
 hok:HOk X.prog X.w H s.heap
 len:σ.length=X.N.length
section
variable{X:Cx}{σ:List (Option V)}
theorem Cx.Ok.nofr(ok:X.Ok)(e:X.base.get? b=some o):b∉X.fs:=fun a=>by
 have:=(ok.funs.mem a).1
 rw[e]at this;cases this
theorem Inv.bs(I:Inv X pins σ H s):∀b o,X.base.get? b=some o->s.heap.get? b=some o/\H b=none:=fun b o e=>
 ⟨I.base.keep b o (I.ok.bs b o e).1 (I.ok.bs b o e).2 (I.ok.nofr e) (I.ok.noex b o e),I.base.free b o (I.ok.bs b o e).1 (I.ok.bs b o e).2 (I.ok.noex b o e)⟩
theorem Inv.bk(I:Inv X pins σ H s):∀b o,X.base.get? b=some o->s.heap.get? b=some o:=fun b o e=>(I.bs b o e).1
theorem Inv.mod(I:Inv X pins σ H s):Mod X.K X.mg X.base:=I.ok.mod
theorem Inv.kIn(I:Inv X pins σ H s):X.K.In s.heap:=I.ok.mod.kin.keeps I.bk
theorem Inv.lt(I:Inv X pins σ H s):X.env.locals<s.heap.objs.size:=by obtain⟨_,a,_⟩:=I.loc;exact a.lt
theorem Inv.sz(I:Inv X pins σ H s):X.s₀.heap.objs.size<=s.heap.objs.size:=jQc I.ok.above (Nat.le_of_lt I.lt)
theorem Inv.nofs(I:Inv X pins σ H s)(h:s.heap.objs.size<=a):a∉X.fs:=fun b=>by
 obtain⟨_,o,c,_⟩:=I.ok.funs.mem b
 exact Y21 (xZ (yK c) (jQc I.sz h)) (jYd _)
theorem Inv.cne(I:Inv X pins σ H s):∀x c,X.env.cells.lookup x=some c->c≠X.env.locals:=fun x c e z=>by
 obtain⟨v,o,d,f⟩:=I.cell x c e
 obtain⟨m,⟨h,g,i,a,b,_⟩,_⟩:=I.loc
 rw[z,a]at d;cases d;rw[b]at f;cases f
theorem Inv.funs(I:Inv X pins σ H s):s.heap.FunFrames X.base X.outer:=by
 have all:∀(l:List Env),(∀b∈frs l,b∈X.fs)->X.s₀.heap.FunFrames X.base l->s.heap.FunFrames X.base l:=by
  intro l
  induction l with
  |nil=>intro _ _;trivial
  |cons env r ih=>
   intro f j
   obtain⟨g,⟨L,o,c,m,i,k⟩,h⟩:=j
   have d:L∈X.fs:=f L (by unfold frs;rw[jXe,c];exact jY)
   obtain⟨n,e⟩:=I.base.slot L o i (I.ok.frf L d) d fun z=>I.ok.exfs L z d
   exact⟨g,⟨L,_,c,m,e,k⟩,ih (fun b a=>f b (by unfold frs;rw[jXe,c];exact kQ _ a)) h⟩
 exact all X.outer (fun _ a=>a) I.ok.funs
theorem Inv.stack(I:Inv X pins σ H s):s.heap.FunFrames X.base X.stack:=by
 rcases I.ok.stk with e | ⟨e,a⟩
 .rw[e];exact I.funs
 .rw[e]
  obtain⟨m,b,_⟩:=I.loc
  refine .cons (by rw[I.ok.kind];decide) a b ?_ I.funs
  exact yQf (jQc I.ok.bsz I.ok.above)
theorem Inv.stkSub(I:Inv X pins σ H s):∀b∈frs X.stack,b∈X.env.locals::X.fs:=fun b a=>by
 rcases I.ok.stk with e | ⟨e,c⟩
 .rw[e]at a;exact kQ _ a
 .rw[e]at a
  unfold frs at a
  rw[jXe,c]at a
  exact a
theorem Inv.stkFree(I:Inv X pins σ H s):∀b∈frs X.stack,H b=none:=fun b hb=>by
 rcases kZ.mp (I.stkSub b hb)with e | hb
 .rw[e];exact I.free
 .obtain⟨_,o,a,_⟩:=I.ok.funs.mem hb
  exact I.base.free b o a (I.ok.frf b hb) fun z=>I.ok.exfs b z hb
theorem Inv.step{g':Array GenState}{d':Drawn}(I:Inv X pins σ H s)
  (j:∀b∈ch,(b∈X.ex\/X.s₀.heap.objs.size<=b)/\b≠X.env.locals/\(∀x c,X.env.cells.lookup x=some c->c≠b)/\∀p∈X.pn++pins,p.1≠b)
  (keep:∀b o,b≠X.env.locals->b∉X.fs->b∉ch->s.heap.get? b=some o->H b=none->h'.get? b=some o)
  (C:∀b o,b≠X.env.locals->b∈X.fs->b∉ch->s.heap.get? b=some o->H b=none->∃sl,h'.get? b=some { o with slots:=sl }) (free:∀b o,b∉ch->s.heap.get? b=some o->H b=none->H' b=none)
  (there:∀b o,b∉ch->s.heap.get? b=some o->∃o',h'.get? b=some o')
  (L:∀b xs,H b=some (.tup xs)->H' b=some (.tup xs)) (K:∀b o u,H b=some (.frz o u)->H' b=some (.frz o u)) (J:∀b ps,H b=some (.tbl ps)->∃more,H' b=some (.tbl (ps++more)))
  (ns:∀m,s.heap.Ns X.env.locals m->h'.Ns X.env.locals m) (O:HOk X.prog X.w H' h') (Y:AllBare g') :
  Inv X pins σ H' { s with heap:=h',gens:=g',drawn:=d',toks:=t' }:=by
 have G:∀b o,X.s₀.heap.get? b=some o->b≠X.env.locals:=fun b o e=>zW (xZ (yK e) I.ok.above)
 have B:∀b o,X.s₀.heap.get? b=some o->b∉X.ex->b∉ch:=fun b o e a D=>by
  rcases(j b D).1 with z | z
  .exact a z
  .exact Y21 (xZ (yK e) z) (jYd _)
 have y:∀x c,X.env.cells.lookup x=some c->∀v,s.heap.IsCell c v->h'.IsCell c v:=fun x c e v ⟨o,E,N⟩=>by
  have f:c∉ch:=fun z=>(j c z).2.2.1 x c e rfl
  by_cases Q:c∈X.fs
  .obtain⟨sl,q⟩:=C c o (I.cne x c e) Q f E (I.freeC x c e)
   exact⟨_,q,N⟩
  .exact⟨o,keep c o (I.cne x c e) Q f E (I.freeC x c e),N⟩
 refine⟨I.ok,I.os,Y,⟨fun b o e n D a=>?_,fun b o e n D a=>?_,fun b o e n a=>?_,fun b o e a=>?_,fun b xs e=>L b xs (I.base.tups b xs e),fun b o xs e=>K b o xs (I.base.frzs b o xs e),fun b ps e=>?_⟩,?_,fun x c e=>?_,?_,fun x c e=>?_,fun p R=>?_,O,I.len⟩
 .exact keep b o (G b o e) D (B b o e a) (I.base.keep b o e n D a) (I.base.free b o e n a)
 .obtain⟨sl,A⟩:=I.base.slot b o e n D a
  obtain⟨M,F⟩:=C b _ (G b o e) D (B b o e a) A (I.base.free b o e n a)
  exact⟨M,F⟩
 .obtain⟨o',A⟩:=I.base.there b o e a
  exact free b o' (B b o e a) A (I.base.free b o e n a)
 .obtain⟨o',A⟩:=I.base.there b o e a
  exact there b o' (B b o e a) A
 .obtain⟨S,A⟩:=I.base.tbls b ps e
  obtain⟨W,F⟩:=J b _ A
  exact⟨S++W,by rw[F,Array.append_assoc]⟩
 .obtain⟨m,V,T⟩:=I.loc
  refine⟨m,ns m V,fun i x v A F U=>?_⟩
  obtain⟨u,r,l⟩:=T i x v A F U
  refine⟨u,r,?_⟩
  rcases l with l | ⟨k,c,e,z⟩
  .exact .inl l
  .exact .inr ⟨k,c,e,y x c e _ z⟩
 .obtain⟨v,z⟩:=I.cell x c e
  exact⟨v,y x c e v z⟩
 .obtain⟨m,⟨o,_,_,E,_⟩,_⟩:=I.loc
  exact free _ o (fun z=>(j _ z).2.1 rfl) E I.free
 .obtain⟨v,o,E,N⟩:=I.cell x c e
  exact free c o (fun z=>(j c z).2.2.1 x c e rfl) E (I.freeC x c e)
 .obtain⟨e,n,P,nf,d⟩:=I.pin p R
  have f:p.1∉ch:=fun z=>(j p.1 z).2.2.2 p R rfl
  exact⟨keep p.1 p.2 P nf f e n,free p.1 p.2 f e n,P,nf,d⟩
theorem Inv.un(I:Inv X pins σ H s)(u:Un X.fs [] H H' s.heap h')(c:HOk X.prog X.w H' h'):Inv X pins σ H' { s with heap:=h',toks:=t' }:=by
 obtain⟨m,⟨o,B,y,k,r⟩,_⟩:=id I.loc
 obtain⟨A,p⟩:=u.any k I.free (by simp)
 exact I.step (g':=s.gens) (d':=s.drawn) (ch:=[]) (fun _ z=>nomatch z) (fun b o _ f _ e n=>u.keep b o e n f (by simp)) (fun b o _ f _ e n=>u.slot b o e n f (by simp)) (fun b o _ e n=>u.free b o e n (by simp)) (fun b o _ e=>u.there b o e (by simp)) u.tups u.frzs u.tbls (fun v q=>by
  obtain⟨x,j,i,a,l⟩:=q
  rw[k]at a;cases a
  exact⟨_,j,i,p,l⟩) c I.bare
theorem Inv.call{g':Array GenState}{d':Drawn}(I:Inv X pins σ H s)(u:Un (frs X.stack) ch H H' s.heap h')(j:HOk X.prog X.w H' h')(C:AllBare g')
  (i:∀b∈ch,(b∈X.ex\/X.s₀.heap.objs.size<=b)/\b≠X.env.locals/\(∀x c,X.env.cells.lookup x=some c->c≠b)/\∀p∈X.pn++pins,p.1≠b) :
  Inv X pins σ H' { s with heap:=h',gens:=g',drawn:=d',toks:=t' }:=by
 obtain⟨m,⟨o,D,G,v,r⟩,_⟩:=id I.loc
 obtain⟨J,l⟩:=u.any v I.free fun z=>(i _ z).2.1 rfl
 exact I.step (ch:=ch) i (fun b o l B a e n=>u.keep b o e n (fun z=>(kZ.mp (I.stkSub b z)).elim l B) a) (fun b o _ _ a e n=>u.any e n a) (fun b o a e n=>u.free b o e n a) (fun b o a e=>u.there b o e a) u.tups u.frzs u.tbls (fun E y=>by
  obtain⟨F,q,k,f,A⟩:=y
  rw[v]at f;cases f
  exact⟨_,q,k,l,A⟩) j C
theorem Inv.turned(I:Inv X pins σ H s)(k:∀b o,b≠it->s.heap.get? b=some o->h'.get? b=some o)(E:H it=none)(i:it≠X.env.locals)
  (y:it∈X.ex\/X.s₀.heap.objs.size<=it) (l:∀x c,X.env.cells.lookup x=some c->c≠it) (A:∀p∈X.pn++pins,p.1≠it):Inv X pins σ H { s with heap:=h',toks:=t' }:=by
 have f:∀b u,H b=some u->b≠it:=fun b u e z=>by rw[z,E]at e;cases e
 refine I.step (g':=s.gens) (d':=s.drawn) (ch:=[it]) (fun b w=>?_) (fun b o _ _ a e _=>k b o (fun z=>a (by simp[z])) e) (fun b o _ _ a e _=>⟨o.slots,k b o (fun z=>a (by simp[z])) e⟩) (fun _ _ _ _ n=>n)
  (fun b o a e=>⟨o,k b o (fun z=>a (by simp[z])) e⟩) (fun _ _ e=>e) (fun _ _ _ e=>e) (fun b ps e=>⟨#[],by rw[e];simp⟩) (fun m j=>?_) (fun b u e=>?_) I.bare
 .have e:b=it:=by simpa using w
  subst e
  exact⟨y,i,l,A⟩
 .obtain⟨o,B,C,D,r⟩:=j
  exact⟨o,B,C,k _ o (Ne.symm i) D,r⟩
 .refine(I.hok b u e).stay (fun c v a q=>k c v ?_ q) (fun _ q=>q) fun _ _ q=>q
  rcases a with z | z
  .rw[z];exact f b u e
  .exact f c _ z
theorem Inv.tok(I:Inv X pins σ H s)(t:Nat):Inv X pins σ H { s with toks:=t }:=I.un (h':=s.heap) (t':=t) Un.refl I.hok
theorem Inv.kept(I:Inv X pins σ H s)(k:∀b u,s.heap.get? b=some u->h'.get? b=some u):Inv X pins σ H { s with heap:=h',toks:=t' }:=I.un (Un.kept k) (I.hok.kept k)
theorem Inv.laid{o:HO}(I:Inv X pins σ H s)(k:∀b u,s.heap.get? b=some u->h'.get? b=some u)(d:s.heap.objs.size<=a)(c:ObjOk X.prog X.w (upd H a o) h' a o) :
  Inv X pins σ (upd H a o) { s with heap:=h',toks:=t' }:=I.un (Un.laid k d (I.hok.fresh d)) (I.hok.laid k d c)
theorem Inv.write{x e:Addr}{o:HO}(I:Inv X pins σ H s)(d:Mut (H x))(he:e=x\/H e=some (.own x))(k:∀b u,b≠e->s.heap.get? b=some u->h'.get? b=some u)(a:∃u,h'.get? e=some u)
  (c:ObjOk X.prog X.w (upd H x o) h' x o):Inv X pins σ (upd H x o) { s with heap:=h',toks:=t' }:=I.un (Un.write d he k a) (I.hok.write d he k a c)
theorem Inv.pins_of(I:Inv X pins σ H s)(h:∀p∈pins',s.heap.get? p.1=some p.2/\H p.1=none/\p.1≠X.env.locals/\p.1∉X.fs/\∀v,p.2.data≠.cell v):Inv X pins' σ H s :=
 ⟨I.ok,I.os,I.bare,I.base,I.loc,I.cell,I.free,I.freeC,fun p a=>(kJ.mp a).elim (fun z=>I.pin p (zZ _ z)) (h p),I.hok,I.len⟩
theorem Qdi(d:N.Nodup)(a:N[i]?=some x)(b:N[j]?=some x):i=j:=by
 obtain⟨g,e⟩:=kX.mp a
 obtain⟨f,c⟩:=kX.mp b
 exact(List.getElem_inj d).mp (e.trans c.symm)
theorem Qae{v:V}{Q:Unit->Shared->Prop}(I:Inv X pins σ H s)(hN:X.N.Nodup)(P:X.N[i]?=some x)(t:Loc X.env.scope x)(r:RelV v u)
  (h:∀s',Inv X pins (σ.set i (some v)) H s'->(∃a,Heap.SameBut a s.heap s'.heap/\(a=X.env.locals\/X.env.cells.lookup x=some a))->Q () s') (hf:autoParam (X.fn x=true\/X.env.scope.names.lookup x=some .local) J3._auto_1):wpAny M A (storeName X.env x u) Q E s:=by
 obtain⟨m,hn,hl⟩:=id I.loc
 have T:(X.env.scope.kind == .class||(X.env.scope.kind == .module&&X.env.locals != X.env.globals))=false:=by rw[I.ok.kind];rfl
 have D:i<σ.length:=by rw[I.len];exact(kX.mp P).1
 have cne:=I.cne
 have l:∀{a:Addr} {K:Heap},(∃o,s.heap.get? a=some o/\H a=none)->Heap.SameBut a s.heap K->HOk X.prog X.w H K:=fun{a K} ha f b ob e=>by
  obtain⟨_,_,B⟩:=ha
  refine(I.hok b ob e).stay (fun c Y hc q=>(f.2 c ?_).trans q) (fun _ q=>q) fun _ _ q=>q
  rintro rfl
  rcases hc with rfl | hc
  .rw[B]at e;cases e
  .rw[B]at hc;cases hc
 rcases t with hk | hk
 .refine wpAny_storeName_local hk hn (fun K Z f=>?_) T
  obtain⟨oL,_,_,aa,_⟩:=id hn
  refine h _ ⟨I.ok,I.os,I.bare,⟨fun b o e n G t=>?_,fun b o e n G t=>?_,I.base.free,fun b o e t=>?_,I.base.tups,I.base.frzs,I.base.tbls⟩,⟨_,Z,fun j y v' g C e3=>?_⟩,fun y c e=>?_,I.free,I.freeC,fun p hp=>?_,l ⟨oL,aa,I.free⟩ f,by simpa using I.len⟩ ⟨_,f,.inl rfl⟩
  .exact(f.2 b (zW (xZ (yK e) I.ok.above))).trans (I.base.keep b o e n G t)
  .obtain⟨sl,g⟩:=I.base.slot b o e n G t
   exact⟨sl,(f.2 b (zW (xZ (yK e) I.ok.above))).trans g⟩
  .obtain⟨o',g⟩:=I.base.there b o e t
   exact⟨o',(f.2 b (zW (xZ (yK e) I.ok.above))).trans g⟩
  .by_cases F:j=i
   .subst F
    rw[P]at g;cases g
    rw[jKe D]at C
    cases C
    exact⟨u,r,.inl ⟨hk,by simp⟩⟩
   .rw[yXa (Ne.symm F)]at C
    obtain⟨u',r',q⟩:=hl j y v' g C e3
    refine⟨u',r',?_⟩
    rcases q with⟨k,e⟩ | ⟨k,c,e,z⟩
    .refine .inl ⟨k,?_⟩
     have:y≠x:=fun e=>F (Qdi hN g (e▸P))
     simp[this,e]
    .exact .inr ⟨k,c,e,z.sameBut f (cne y c e)⟩
  .obtain⟨Y,z⟩:=I.cell y c e
   exact⟨Y,z.sameBut f (cne y c e)⟩
  .obtain⟨e,n,W,nf,d⟩:=I.pin p hp
   exact⟨(f.2 p.1 W).trans e,n,W,nf,d⟩
 .have J:X.fn x=true:=by
   rcases hf with z | z
   .exact z
   .rw[z]at hk;cases hk
  obtain⟨c,hc⟩:=I.ok.has x (.inl hk)
  obtain⟨Y,z⟩:=I.cell x c hc
  refine wpAny_storeName_cell I.ok.kind hk hc z (fun K L f=>?_)
  obtain⟨oc,O,S⟩:=id z
  refine h { s with heap:=K } ⟨I.ok,I.os,I.bare,⟨fun b o e n G t=>?_,fun b o e n G t=>?_,I.base.free,fun b o e t=>?_,I.base.tups,I.base.frzs,I.base.tbls⟩,⟨m,hn.sameBut f (Ne.symm (cne x c hc)),fun j y v' g C e3=>?_⟩,fun y U e=>?_,I.free,I.freeC,fun p hp=>?_,l ⟨oc,O,I.freeC x c hc⟩ f,by simpa using I.len⟩ ⟨c,f,.inr hc⟩
  .exact(f.2 b (zW (xZ (yK e) (I.ok.cab x c J hc)))).trans (I.base.keep b o e n G t)
  .obtain⟨sl,g⟩:=I.base.slot b o e n G t
   exact⟨sl,(f.2 b (zW (xZ (yK e) (I.ok.cab x c J hc)))).trans g⟩
  .obtain⟨o',g⟩:=I.base.there b o e t
   exact⟨o',(f.2 b (zW (xZ (yK e) (I.ok.cab x c J hc)))).trans g⟩
  .by_cases F:j=i
   .subst F
    rw[P]at g;cases g
    rw[jKe D]at C
    cases C
    exact⟨u,r,.inr ⟨.inl hk,c,hc,L⟩⟩
   .rw[yXa (Ne.symm F)]at C
    obtain⟨u',r',q⟩:=hl j y v' g C e3
    refine⟨u',r',?_⟩
    rcases q with q | ⟨k,U,e,z'⟩
    .exact .inl q
    .refine .inr ⟨k,U,e,z'.sameBut f ?_⟩
     rintro rfl
     exact F (Qdi hN g (I.ok.inj _ _ _ e hc▸P))
  .by_cases R:U=c
   .subst R;exact⟨_,L⟩
   .obtain⟨w2,z2⟩:=I.cell y U e
    exact⟨w2,z2.sameBut f R⟩
  .obtain⟨e,n,W,nf,d⟩:=I.pin p hp
   refine⟨(f.2 p.1 ?_).trans e,n,W,nf,d⟩
   intro q
   rw[q,O]at e
   have q':oc=p.2:=Y5 e
   exact d Y (by rw[<-q'];exact S)
theorem Vf{v:V}{Q:Unit->Shared->Prop}(I:Inv X pins σ H s)(d:X.N.Nodup)(a:X.N[i]?=some x)(b:Loc X.env.scope x)(r:RelV v u)
  (h:∀s',Inv X pins (σ.set i (some v)) H s'->Q () s') (e:autoParam (X.fn x=true\/X.env.scope.names.lookup x=some .local) J3._auto_1):wpAny M A (storeName X.env x u) Q E s :=
 Qae I d a b r (fun s' c _=>h s' c) e
theorem Inv.call'(I:Inv X pins σ H s)(j:s'.os=s.os)(u:Un (frs X.stack) ch H H' s.heap s'.heap)(a:HOk X.prog X.w H' s'.heap)(k:AllBare s'.gens)
  (f:∀b∈ch,(b∈X.ex\/X.s₀.heap.objs.size<=b)/\b≠X.env.locals/\(∀x c,X.env.cells.lookup x=some c->c≠b)/\∀p∈X.pn++pins,p.1≠b):Inv X pins σ H' s':=by
 obtain⟨l,g',d',t',i⟩:=s'
 have e:i=s.os:=j
 subst e
 exact I.call (g':=g') (t':=t') (d':=d') u a k f
end
abbrev XK:=Value->Option Addr->Hp->Prop
abbrev St:=List (Option V)
abbrev VK:=V->Hp->Prop
abbrev TE:=St->Hp->VK->Prop
abbrev TT:=St->Hp->(Bool->Hp->Prop)->Prop
abbrev TA:=St->Hp->(List V->Hp->Prop)->Prop
set_option genInjectivity false in
set_option genInjectivity false in
structure Ends where
 nx:St->Hp->Prop
 rt:VK
 bk:St->Hp->Prop:=fun _ _=>False
 ct:St->Hp->Prop:=fun _ _=>False
abbrev TS:=Ends->St->Hp->Prop
def EP(X:Cx)(pins:Z8)(σ:St)(Q:VK)(u:Value)(s':Shared):Prop:=∃v H',Inv X pins σ H' s'/\RelV v u/\Q v H'
def TP(X:Cx)(pins:Z8)(σ:St)(Q:Bool->Hp->Prop)(b:Bool)(s':Shared):Prop:=∃H',Inv X pins σ H' s'/\Q b H'
def AP(X:Cx)(pins:Z8)(σ:St)(Q:List V->Hp->Prop)(us:List Value)(s':Shared):Prop:=∃vs H',Inv X pins σ H' s'/\Vals vs us/\Q vs H'
def SP(X:Cx)(pins:Z8)(D:Ends)(f:Flow)(s':Shared):Prop :=
 match f with
 |.next=>∃σ' H',Inv X pins σ' H' s'/\D.nx σ' H'
 |.brk=>∃σ' H',Inv X pins σ' H' s'/\D.bk σ' H'
 |.cont=>∃σ' H',Inv X pins σ' H' s'/\D.ct σ' H'
 |.ret u=>∃v σ' H',Inv X pins σ' H' s'/\RelV v u/\D.rt v H'
def PE(X:Cx)(e:Expr)(t:TE):Prop :=
 ∀(pins:Z8) (s:Shared) (σ:St) (H:Hp) (Q:VK),Inv X pins σ H s->t σ H Q->wpAny (model X.prog X.w) X.A (eval e X.env) (EP X pins σ Q) X.xe s
def PT(X:Cx)(e:Expr)(t:TT):Prop :=
 ∀(pins:Z8) (s:Shared) (σ:St) (H:Hp) (Q:Bool->Hp->Prop),Inv X pins σ H s->t σ H Q->wpAny (model X.prog X.w) X.A (isTrue e X.env (eval e X.env)) (TP X pins σ Q) X.xe s
def PW(X:Cx)(e:Expr)(t:TT):Prop :=
 ∀(whole:Sem Value) (pins:Z8) (s:Shared) (σ:St) (H:Hp) (Q:Bool->Hp->Prop),Inv X pins σ H s->t σ H Q->wpAny (model X.prog X.w) X.A (isTrue e X.env whole) (TP X pins σ Q) X.xe s
theorem PW.pt{X:Cx}{t:TT}(h:PW X e t):PT X e t:=h _
def PA(X:Cx)(es:List Expr)(t:TA):Prop :=
 ∀(pos:Pos) (pins:Z8) (s:Shared) (σ:St) (H:Hp) (Q:List V->Hp->Prop),Inv X pins σ H s->t σ H Q->wpAny (model X.prog X.w) X.A (spliced (backTo pos (starEach es X.env))) (AP X pins σ Q) X.xe s
def PS(X:Cx)(st:Stmt)(t:TS):Prop :=
 ∀(pins:Z8) (s:Shared) (σ:St) (H:Hp) (D:Ends),Inv X pins σ H s->t D σ H->wpAny (model X.prog X.w) X.A (exec st X.env) (SP X pins D) X.xe s
def PSs(X:Cx)(st:List Stmt)(t:TS):Prop :=
 ∀(pins:Z8) (s:Shared) (σ:St) (H:Hp) (D:Ends),Inv X pins σ H s->t D σ H->wpAny (model X.prog X.w) X.A (execs st X.env) (SP X pins D) X.xe s
theorem thn{α:Type}{t:Sem α}{Q Q':α->Shared->Prop}(h:wpAny M A t Q E s)(b:∀a s,Q a s->Q' a s):wpAny M A t Q' E s:=Y29 h b fun _ _ x=>x
section
variable{X:Cx}
def tVar(i:Nat):TE:=fun σ H Q=>∃v,σ[i]?=some (some v)/\Q v H
def tC(v:V):TE:=fun _ H Q=>Q v H
theorem Quk(o:X.N[i]?=some x)(k:Vis X.env.scope x)(f:autoParam ((x == ("__debug__":Str))=false) J2._auto_1)(d:autoParam ((x == ("__classdict__":Str))=false) J2._auto_1):PE X (.Name x pos) (tVar i):=by
 intro b s p H Q I h
 obtain⟨v,e,h⟩:=h
 obtain⟨m,n,q⟩:=I.loc
 obtain⟨u,r,l⟩:=q i x v o e k
 have fin:EP X b p Q u s:=⟨v,H,I,r,h⟩
 rcases l with⟨hk,j⟩ | ⟨hk,c,g,a⟩
 .exact wpAny_Name (wpAny_loadName_local I.ok.kind hk n j fin) f
 .rcases hk with hk | hk
  .exact wpAny_Name (wpAny_loadName_cell I.ok.kind hk g a fin) f
  .exact wpAny_Name (wpAny_loadName_free I.ok.kind hk g a fin d) f
theorem Qe{i j pos}:PE X (.Constant (.int i) j pos) (tC (.int i)):=fun _ _ _ H _ I h=>wpAny_Constant_int ⟨.int i,H,I.tok _,⟨_,rfl⟩,h⟩
theorem Qhi{b j pos}:PE X (.Constant (.bool b) j pos) (tC (.bl b)):=fun _ _ _ H _ I h=>Constant_bool ⟨.bl b,H,I,rfl,h⟩
theorem Wl{j pos}:PE X (.Constant .none j pos) (tC .non):=fun _ _ _ H _ I h=>Constant_none ⟨.non,H,I,rfl,h⟩
theorem Qq{x j pos}:PE X (.Constant (.str x) j pos) (tC (.str x)):=fun _ _ _ H _ I h=>Calls.Constant_str ⟨.str x,H,I.tok _,⟨_,rfl⟩,h⟩
def Gl(X:Cx)(x:Str):Prop:=X.env.kindOf x=some .globalImplicit
theorem Vz{σ:St}{Q:VP}(I:Inv X pins σ H s)(a:Gl X x)(c:X.mg x=some u)(h:Q u s)
  (b:autoParam ((x == ("__debug__":Str))=false) J2._auto_1):wpAny (model X.prog X.w) X.A (eval (.Name x pos) X.env) Q E s :=
 Calls.Name_function_global I.ok.kind a (Calls.loadGlobal_global (by rw[I.ok.glob];exact I.mod.glob.keeps I.bk) c h) b
theorem Vg{σ:St}{Q:VP}(I:Inv X pins σ H s)(e:Gl X x)(g:X.mg x=none)(c:bootBuiltins x=some u)(h:Q u s)
  (d:autoParam (x≠"__name__") J2._auto_1) (f:autoParam ((x == ("__debug__":Str))=false) J2._auto_1):wpAny (model X.prog X.w) X.A (eval (.Name x pos) X.env) Q E s:=by
 obtain⟨i,b,a⟩:=I.mod.blt
 exact Calls.Name_function_global I.ok.kind e (Calls.loadGlobal_builtin (by rw[I.ok.glob];exact I.mod.glob.keeps I.bk) g (by rw[I.ok.blt];exact b.keeps I.bk) ((a x d).trans c) h) f
theorem Kt{v:V}(a:Gl X x)(c:X.mg x=some u)(r:RelV v u)(b:autoParam ((x == ("__debug__":Str))=false) J2._auto_1):PE X (.Name x pos) (tC v) :=
 fun _ _ _ H _ I h=>Vz I a c ⟨v,H,I,r,h⟩ b
theorem Qvs{v:V}(d:Gl X x)(e:X.mg x=none)(a:bootBuiltins x=some u)(r:RelV v u)(b:autoParam (x≠"__name__") J2._auto_1)(c:autoParam ((x == ("__debug__":Str))=false) J2._auto_1):PE X (.Name x pos) (tC v) :=
 fun _ _ _ H _ I h=>Vg I d e a ⟨v,H,I,r,h⟩ b c
variable{a b:Expr}{ta tb:TE}
def PC(X:Cx)(op:CmpOp)(a b:Expr)(t:TE):Prop :=
 ∀(pins:Z8) (s:Shared) (σ:St) (H:Hp) (Q:VK),Inv X pins σ H s->t σ H Q ->
  wpAny (model X.prog X.w) X.A (eval a X.env) (fun v s₁=>wpAny (model X.prog X.w) X.A (eval b X.env) (fun u s₂=>wpAny (model X.prog X.w) X.A (compareOp op v u) (EP X pins σ Q) X.xe s₂) X.xe s₁) X.xe s
def tB(t:TE):TT:=fun σ H Q=>t σ H fun x H1=>∃c,x=.bl c/\Q c H1
theorem pe_cmp{op:CmpOp}{t:TE}(h:PC X op a b t)(f:behindInMarks op b=false:=by first | exact nobehind _ Dc Dc | rfl):PE X (.Compare a [op] [b] pos) t:=fun c s d H Q I e=>wpAny_Compare1 (h c s d H Q I e) f
theorem Jk{t:TE}(h:PE X e t)(he:autoParam (∀whole,isTrue e X.env whole=(do let v ← whole;standAt e.pos;holding [v] (truthy v))) J4._auto_1):PT X e (tB t):=by
 intro a s j H Q I i
 refine isTrue_plain (thn (h a s j H _ I i) fun v l b=>?_) (he _)
 obtain⟨x,k,f,g,c⟩:=b
 obtain⟨d,rfl,q⟩:=c
 cases g
 exact Y31 ⟨k,f,q⟩
variable{tA tB':TT}{rest:List Expr}
def tAnd(t u:TT):TT:=fun σ H Q=>t σ H fun c H1=>if c=true then u σ H1 Q else Q false H1
def tOr(t u:TT):TT:=fun σ H Q=>t σ H fun c H1=>if c=true then Q true H1 else u σ H1 Q
def tNot(t:TT):TT:=fun σ H Q=>t σ H fun c H1=>Q (!c) H1
theorem Zb(d:PT X a tA):PW X (.BoolOp .And [a] pos) tA:=by
 intro g b s f H Q I h
 refine isTrue_and (thn (d b s f H Q I h) fun c i e=>?_)
 cases c with
 |true=>exact isTrue_and_nil e
 |false=>exact e
theorem Vh(d:PT X a tA):PW X (.BoolOp .Or [a] pos) tA:=by
 intro g b s f H Q I h
 refine isTrue_or (thn (d b s f H Q I h) fun c i e=>?_)
 cases c with
 |false=>exact isTrue_or_nil e
 |true=>exact e
theorem Zq(l:PT X a tA)(k:PW X (.BoolOp .And (b::rest) pos) tB'):PW X (.BoolOp .And (a::b::rest) pos) (tAnd tA tB'):=by
 intro m d s i H Q I h
 refine isTrue_and (thn (l d s i H _ I h) fun c n e=>?_)
 obtain⟨j,g,f⟩:=e
 cases c with
 |true=>exact k m d n i j Q g f
 |false=>exact⟨j,g,f⟩
theorem Wa(l:PT X a tA)(k:PW X (.BoolOp .Or (b::rest) pos) tB'):PW X (.BoolOp .Or (a::b::rest) pos) (tOr tA tB'):=by
 intro m d s i H Q I h
 refine isTrue_or (thn (l d s i H _ I h) fun c n e=>?_)
 obtain⟨j,g,f⟩:=e
 cases c with
 |true=>exact⟨j,g,f⟩
 |false=>exact k m d n i j Q g f
theorem Jx(f:PT X a tA):PT X (.UnaryOp .Not a pos) (tNot tA):=by
 intro b s d H Q I h
 exact isTrue_not (f b s d H (fun c e=>Q (!c) e) I h)
def tAndV(ta tb:TE):TE:=fun σ H Q=>ta σ H fun x H1=>∃c,x=.bl c/\if c=true then tb σ H1 Q else Q (.bl false) H1
def tNotV(ta:TE):TE:=fun σ H Q=>ta σ H fun x H1=>∃c,x=.bl c/\Q (.bl (!c)) H1
theorem Wm{op}{t:TE}(h:PE X a t):PE X (.BoolOp op [a] pos) t:=fun b s c H Q I d=>BoolOp_one (h b s c H Q I d)
theorem Wn(l:PE X a ta)(k:PE X (.BoolOp .And (b::rest) pos) tb):PE X (.BoolOp .And (a::b::rest) pos) (tAndV ta tb):=by
 intro d s i H Q I h
 refine BoolOp_and (thn (l d s i H _ I h) fun v n f=>?_)
 obtain⟨x,j,g,m,e⟩:=f
 obtain⟨c,rfl,e⟩:=e
 cases m
 refine Y31 ?_
 cases c with
 |true=>exact k d n i j Q g e
 |false=>exact⟨.bl false,j,g,rfl,e⟩
theorem Qul(g:PE X a ta):PE X (.UnaryOp .Not a pos) (tNotV ta):=by
 intro b s j H Q I h
 refine UnaryOp_ (thn (g b s j H _ I h) fun v l e=>?_)
 obtain⟨x,k,f,i,d⟩:=e
 obtain⟨c,rfl,d⟩:=d
 cases i
 exact not_of (Y31 ⟨.bl (!c),k,f,rfl,d⟩)
def tIf(t:TT)(ta tb:TE):TE:=fun σ H Q=>t σ H fun c H1=>if c=true then ta σ H1 Q else tb σ H1 Q
theorem Qdj{c:Expr}(o:PT X c tA)(n:PE X a ta)(m:PE X b tb):PE X (.IfExp c a b pos) (tIf tA ta tb):=by
 intro e s g H Q I h
 refine wpAny_IfExp (thn (o e s g H _ I h) fun d k f=>?_)
 obtain⟨l,j,i⟩:=f
 cases d with
 |true=>exact n e k g l Q j i
 |false=>exact m e k g l Q j i
end
def SqL(K:Fg)(H:Hp)(a:Addr)(xs:List V):Prop :=
 Rd H a (.lst xs) \/
  ∃(o:Obj) (its:Array Value) (n:Nat),K.lookup a=some o/\o.cls=.type "list"/\o.dict=none/\o.data=.seq its n/\its.size<=sizeLine/\Vals xs its.toList
def SqT(K:Fg)(H:Hp)(a:Addr)(xs:List V):Prop :=
 Rd H a (.tup xs) \/
  ∃(o:Obj) (its:Array Value) (n:Nat),K.lookup a=some o/\o.cls=.type "tuple"/\o.data=.seq its n/\its.size<=sizeLine/\Vals xs its.toList
def absV:Value->Option V
 |.none=>some .non
 |.bool b=>some (.bl b)
 |.int i _=>some (.int i)
 |.str x _=>some (.str x)
 |.bytes b _=>some (.byt b)
 |.float b _=>some (.flt b)
 |.ref a=>some (.ref a)
 |.type n=>some (.ty n)
 |_=>none
theorem RelV.abs{x:V}(r:RelV x u):absV u=some x:=by
 cases x with
 |non=>cases r;rfl
 |bl _=>cases r;rfl
 |int _=>obtain⟨t,rfl⟩:=r;rfl
 |str _=>obtain⟨t,rfl⟩:=r;rfl
 |byt _=>obtain⟨t,rfl⟩:=r;rfl
 |flt _=>obtain⟨t,rfl⟩:=r;rfl
 |ref _=>cases r;rfl
 |ty _=>cases r;rfl
theorem RelV.inj{x:V}(r:RelV x u)(q:RelV y u):x=y:=Y5 (r.abs.symm.trans q.abs)
theorem Vals.inj(h:Vals xs us)(g:Vals ys us):xs=ys:=by
 induction h generalizing ys with
 |nil=>cases g;rfl
 |cons r t ih=>
  cases g with
  |cons r' t'=>rw[r.inj r',ih t']
section
variable{X:Cx}{σ:St}
theorem SqL.of(h:H a=some (.lst xs)):SqL K H a xs:=.inl (.inl h)
theorem Inv.list(I:Inv X pins σ H s)(h:SqL X.K H a xs):∃its:List Value,Vals xs its/\PlainL s.heap a its.toArray/\xs.length<=sizeLine:=by
 rcases h with h | ⟨o,its,n,b,f,d,c,g,r⟩
 .obtain⟨z,its,n,r,e⟩:=h.ok I.hok
  exact⟨its,r,⟨_,n,e,rfl,rfl,rfl⟩,z⟩
 .refine⟨its.toList,r,⟨o,n,I.kIn a o b,f,d,by simpa using c⟩,?_⟩
  have e:=r.length
  simp only[jQf]at e
  lia
theorem Inv.tuple(I:Inv X pins σ H s)(h:SqT X.K H a xs):∃its:List Value,Vals xs its/\IsTup s.heap a its.toArray/\xs.length<=sizeLine:=by
 rcases h with h | ⟨o,its,n,b,d,c,f,r⟩
 .obtain⟨z,its,r,p⟩:=h.ok I.hok
  exact⟨its,r,p,z⟩
 .refine⟨its.toList,r,⟨o,I.kIn a o b,d,n,by simpa using c⟩,?_⟩
  have e:=r.length
  simp only[jQf]at e
  lia
theorem Inv.list_inj(I:Inv X pins σ H s)(h:SqL X.K H a xs)(h':SqL X.K H a ys):xs=ys:=by
 obtain⟨c,r,⟨o,n,e,_,_,d⟩,_⟩:=I.list h
 obtain⟨b,i,⟨l,k,g,_,_,f⟩,_⟩:=I.list h'
 rw[e]at g;cases g
 rw[d]at f
 injection f with j _
 have:c=b:=by simpa using congrArg Array.toList j
 subst this
 exact r.inj i
theorem Inv.tuple_inj(I:Inv X pins σ H s)(h:SqT X.K H a xs)(h':SqT X.K H a ys):xs=ys:=by
 obtain⟨c,r,⟨o,e,_,n,d⟩,_⟩:=I.tuple h
 obtain⟨b,i,⟨l,g,_,k,f⟩,_⟩:=I.tuple h'
 rw[e]at g;cases g
 rw[d]at f
 injection f with j _
 have:c=b:=by simpa using congrArg Array.toList j
 subst this
 exact r.inj i
end
abbrev Cx.wish(X:Cx)(E:VP):Cx:={ X with xe:=E }
abbrev Cx.nox(X:Cx):Cx:=X.wish fun _ _=>False
theorem Cx.Ok.wish{X:Cx}(ok:X.Ok)(E:VP):(X.wish E).Ok :=
 ⟨ok.mod,ok.kind,ok.glob,ok.blt,ok.above,ok.inj,ok.has,ok.cab,ok.hd,ok.frames,ok.stk,ok.exf,ok.bs,ok.bsz,ok.noex,ok.exfs,ok.funs,ok.frf⟩
theorem Cx.Ok.unwish{X:Cx}(ok:(X.wish E).Ok):X.Ok :=
 ⟨ok.mod,ok.kind,ok.glob,ok.blt,ok.above,ok.inj,ok.has,ok.cab,ok.hd,ok.frames,ok.stk,ok.exf,ok.bs,ok.bsz,ok.noex,ok.exfs,ok.funs,ok.frf⟩
section
variable{X:Cx}{σ:St}
theorem Inv.wish(I:Inv X pins σ H s)(E:VP):Inv (X.wish E) pins σ H s:=⟨I.ok.wish E,I.os,I.bare,I.base,I.loc,I.cell,I.free,I.freeC,I.pin,I.hok,I.len⟩
theorem Inv.unwish(I:Inv (X.wish E) pins σ H s):Inv X pins σ H s:=⟨I.ok.unwish,I.os,I.bare,I.base,I.loc,I.cell,I.free,I.freeC,I.pin,I.hok,I.len⟩
theorem SP.unwish{D:Ends}{f:Flow}(h:SP (X.wish E) pins D f s'):SP X pins D f s':=by
 cases f with
 |next=>obtain⟨a,b,I,q⟩:=h;exact⟨a,b,I.unwish,q⟩
 |brk=>obtain⟨a,b,I,q⟩:=h;exact⟨a,b,I.unwish,q⟩
 |cont=>obtain⟨a,b,I,q⟩:=h;exact⟨a,b,I.unwish,q⟩
 |ret u=>obtain⟨v,a,b,I,r,q⟩:=h;exact⟨v,a,b,I.unwish,r,q⟩
theorem PSs.nox{st:List Stmt}{t:TS}(h:PSs X.nox st t):PSs X st t:=fun a s b H D I c=>
 Y29 (h a s b H D (I.wish _) c) (fun _ _ q=>q.unwish) fun _ _ z=>False.elim z
end
section
variable{X:Cx}{rest:List Stmt}{t u:TS}{te:TE}
def tNext:TS:=fun D σ H=>D.nx σ H
def tSeq(t u:TS):TS:=fun D σ H=>t { D with nx:=u D } σ H
theorem Xa:PSs X [] tNext:=fun _ _ a H _ I h=>Y66 ⟨a,H,I,h⟩
theorem Qg(d:PS X st t)(c:PSs X rest u):PSs X (st::rest) (tSeq t u):=by
 intro a s i H D I h
 refine wpAny_execs_cons (thn (d a s i H { D with nx:=u D } I h) fun f j q=>?_)
 cases f with
 |next=>
  obtain⟨b,g,e,q⟩:=q
  exact c a j b g D e q
 |ret v=>exact q
 |brk=>exact q
 |cont=>exact q
theorem Qi(c:PS X st t):PSs X [st] t:=by
 intro a s b H D I h
 refine wpAny_execs_cons (thn (c a s b H D I h) fun f d q=>?_)
 cases f with
 |next=>exact Y66 q
 |ret v=>exact q
 |brk=>exact q
 |cont=>exact q
theorem Inv.quiet{σ:St}(I:Inv X pins σ H s):interactive X.env=false:=by simp[interactive,I.ok.kind]
def tDrop(te:TE):TS:=fun D σ H=>te σ H fun _ H1=>D.nx σ H1
theorem Yg(he:PE X e te)(c:autoParam (swapsWith e none pos.line X.env=pure false) J1._auto_1):PS X (.Expr e pos) (tDrop te):=by
 intro a s b H D I h
 exact wpAny_Expr_any (thn (he a s b H _ I h) fun v s1 ⟨x,H1,I1,r1,q1⟩=>⟨b,H1,I1,q1⟩) I.quiet c
def tRet(te:TE):TS:=fun D σ H=>te σ H D.rt
theorem Xb(he:PE X e te):PS X (.Return (some e) pos) (tRet te):=by
 intro a s b H D I h
 exact wpAny_Return_some (thn (he a s b H _ I h) fun v s1 ⟨x,H1,I1,r1,q1⟩=>⟨x,b,H1,I1,r1,q1⟩)
def tIfS(c:TT)(t u:TS):TS:=fun D σ H=>c σ H fun b H1=>if b=true then t D σ H1 else u D σ H1
theorem Xy{c:Expr}{a b:List Stmt}{tc:TT}(o:PT X c tc)(n:PSs X a t)(m:PSs X b u):PS X (.If c a b pos) (tIfS tc t u):=by
 intro e s g H D I h
 refine wpAny_If (thn (o e s g H _ I h) fun d k f=>?_)
 obtain⟨l,j,i⟩:=f
 cases d with
 |true=>exact n e k g l D j i
 |false=>exact m e k g l D j i
end
abbrev TG:=V->St->Hp->(St->Hp->Prop)->Prop
abbrev TGs:=List V->St->Hp->(St->Hp->Prop)->Prop
def PG(X:Cx)(target:Expr)(t:TG):Prop :=
 ∀(pins:Z8) (s:Shared) (σ:St) (H:Hp) (v:V) (u:Value) (Q:St->Hp->Prop),Inv X pins σ H s->RelV v u->t v σ H Q ->
  wpAny (model X.prog X.w) X.A (assign target X.env u) (fun _ s'=>∃σ' H',Inv X pins σ' H' s'/\Q σ' H') X.xe s
def PGs(X:Cx)(ts:List Expr)(t:TGs):Prop :=
 ∀(pins:Z8) (s:Shared) (σ:St) (H:Hp) (vs:List V) (us:List Value) (Q:St->Hp->Prop),Inv X pins σ H s->Vals vs us->t vs σ H Q ->
  wpAny (model X.prog X.w) X.A (assignInOrder ((assignEach ts X.env).map (·.2)) us) (fun _ s'=>∃σ' H',Inv X pins σ' H' s'/\Q σ' H') X.xe s
abbrev TIp:=V->V->Hp->VK->Prop
def PIp(X:Cx)(op:Operator)(t:TIp):Prop :=
 ∀(pins:Z8) (s:Shared) (σ:St) (H:Hp) (x y:V) (v u:Value) (Q:VK),Inv X pins σ H s->RelV x v->RelV y u->t x y H Q ->
  wpAny (model X.prog X.w) X.A (inplaceOp op v u) (EP X pins σ Q) X.xe s
section
variable{X:Cx}
def Vi(i:Nat):TG:=fun v σ H Q=>Q (σ.set i (some v)) H
theorem Qp(e:X.N.Nodup)(b:X.N[i]?=some x)(c:Loc X.env.scope x)(f:autoParam (X.fn x=true\/X.env.scope.names.lookup x=some .local) J3._auto_1):PG X (.Name x pos) (Vi i):=by
 intro a s j H v u Q I r h
 exact wpAny_assign_Name (Vf I e b c r (fun g d=>⟨_,H,d,h⟩) f)
theorem Z3(i:Nat)(d:X.N.Nodup)(a:X.N[i]?=some x:=by exact rfl)(c:autoParam (Loc X.env.scope x) J3._auto_1)(b:autoParam (X.fn x=true\/X.env.scope.names.lookup x=some .local) J3._auto_1):PG X (.Name x pos) (Vi i):=Qp d a c b
def gNil:TGs:=fun vs σ H Q=>vs=[]/\Q σ H
def Qks(t:TG)(u:TGs):TGs:=fun vs σ H Q=>∃v r,vs=v::r/\t v σ H fun σ' H'=>u r σ' H' Q
theorem Qdk:PGs X [] gNil:=by
 intro a s b H c d Q I r h
 obtain⟨e,h⟩:=h
 subst e
 cases r
 exact assignInOrder_nil ⟨b,H,I,h⟩
theorem Zn{t:TG}{u:TGs}(i:PG X e t)(d:PGs X es u)
  (g:autoParam ((assignEach (e::es) X.env).map (·.2)=assign e X.env::(assignEach es X.env).map (·.2)) J1._auto_1):PGs X (e::es) (Qks t u):=by
 intro a s l H o p Q I r h
 obtain⟨v,q,k,h⟩:=h
 subst k
 cases r with
 |cons r rr=>
  rw[g]
  refine assignInOrder_cons (thn (i a s l H _ _ _ I r h) fun _ n c=>?_)
  obtain⟨b,m,j,f⟩:=c
  exact d a n b m _ _ Q j rr f
def gTup(K:Fg)(n:Nat)(t:TGs):TG:=fun v σ H Q=>∃a xs,v=.ref a/\SqT K H a xs/\xs.length=n/\t xs σ H Q
theorem Qjb{k:Nat}{t:TGs}{n:Nat}(A:X.calm=true)(h:PGs X es t)
  (z:autoParam ((assignEach es X.env).length=n) J1._auto_1) (d:autoParam ((assignEach es X.env).findIdx? (·.1)=none) J1._auto_1):PG X (.Tuple es k pos) (gTup X.K n t):=by
 intro c s i H v u Q I r f
 obtain⟨a,w,q,B,x,f⟩:=f
 subst q
 cases r
 obtain⟨l,g,y,C⟩:=I.tuple B
 refine assign_Tuple_tuple (I.ok.hd A) y (by simp[z,<-x,g.length]) d fun p m=>?_
 have j:Inv X c i H { s with heap:=p }:=I.kept (t':=s.toks) fun b o e=>m b o (zW (yK e)) e
 exact h c _ i H w _ Q j (by simpa using g) f
def tAsg(te:TE)(g:TG):TS:=fun D σ H=>te σ H fun x H1=>g x σ H1 D.nx
theorem ps_asg{te:TE}{g:TG}(he:PE X e te)(n:PG X tg g)(f:autoParam (swapsWithSole [tg] e pos.line X.env=pure false) J1._auto_1)(l:autoParam (swappedStores [tg] e X.env=pure none) J1._auto_1)
  (i:autoParam ((assignEach [tg] X.env).map (·.2)=[assign tg X.env]) J1._auto_1):PS X (.Assign [tg] e pos) (tAsg te g):=by
 intro a s c H D I h
 refine wpAny_Assign_stores (thn (he a s c H _ I h) fun v o b=>?_) f l
 obtain⟨x,m,j,k,d⟩:=b
 rw[i]
 exact thn (n a o c m x v _ j k d) fun _ p q=>q
theorem Qo{te:TE}(l:X.N.Nodup)(g:X.N[i]?=some x)(k:Loc X.env.scope x)(he:PE X e te)(d:autoParam (swapsWith e (some (.Name x pos')) pos.line X.env=pure false) J1._auto_1)(n:autoParam (X.fn x=true\/X.env.scope.names.lookup x=some .local) J3._auto_1) :
  PS X (.Assign [.Name x pos'] e pos) (tAsg te (Vi i)):=by
 intro a s o H D I h
 refine wpAny_Assign_Name (thn (he a s o H _ I h) fun v r b=>?_) d
 obtain⟨y,p,f,m,c⟩:=b
 exact Vf f l g k m (fun q j=>⟨_,p,j,c⟩) n
theorem Z4(i:Nat){te:TE}(d:X.N.Nodup)(he:PE X e te)(b:X.N[i]?=some x:=by exact rfl)(c:autoParam (Loc X.env.scope x) J3._auto_1)(a:autoParam (swapsWith e (some (.Name x pos')) pos.line X.env=pure false) J1._auto_1)(f:autoParam (X.fn x=true\/X.env.scope.names.lookup x=some .local) J3._auto_1) :
  PS X (.Assign [.Name x pos'] e pos) (tAsg te (Vi i)):=Qo d b c he a f
def tAug(i:Nat)(te:TE)(ti:TIp):TS:=fun D σ H=>∃x,σ[i]?=some (some x)/\te σ H fun y H1=>ti x y H1 fun z H2=>D.nx (σ.set i (some z)) H2
theorem Qmk{te:TE}{op:Operator}{ti:TIp}(t:X.N.Nodup)(q:X.N[i]?=some x)(j:Loc X.env.scope x)(he:PE X e te)(C:PIp X op ti)(P:autoParam (X.fn x=true\/X.env.scope.names.lookup x=some .local) J3._auto_1) :
  PS X (.AugAssign (.Name x pos') op e pos) (tAug i te ti):=by
 intro a s p H D I h
 obtain⟨v,B,h⟩:=h
 obtain⟨m,Q,K⟩:=I.loc
 have n:Vis X.env.scope x:=by rcases j with k | k;exact .inl k;exact .inr (.inl k)
 obtain⟨u,r,l⟩:=K i x v q B n
 refine wpAny_AugAssign_Name ?_
 have o:wpAny (model X.prog X.w) X.A (eval e X.env) (fun w f=>wpAny (model X.prog X.w) X.A (inplaceOp op u w) (fun r g=>wpAny (model X.prog X.w) X.A (storeName X.env x r) (fun _=>SP X a D .next) X.xe g) X.xe f) X.xe s:=by
  refine thn (he a s p H _ I h) fun w T d=>?_
  obtain⟨y,V,U,O,E⟩:=d
  refine thn (C a T p V v y u w _ U r O E) fun z Y d=>?_
  obtain⟨Z,M,F,R,J⟩:=d
  exact Vf F t q j R (fun W G=>⟨_,M,G,J⟩) P
 rcases l with⟨hk,L⟩ | ⟨hk,c,S,b⟩
 .exact wpAny_loadName_local I.ok.kind hk Q L o
 .rcases hk with hk | hk
  .exact wpAny_loadName_cell I.ok.kind hk S b o
  .rcases j with k | k
   .have:X.env.scope.names.lookup x=some .free:=hk
    rw[k]at this;cases this
   .have:X.env.scope.names.lookup x=some .free:=hk
    rw[k]at this;cases this
def ipI(f:Int->Int->Int):TIp:=fun x y H Q=>∃i j,x=.int i/\y=.int j/\Q (.int (f i j)) H
theorem ip_add:PIp X .Add (ipI fun i j=>i+j):=by
 intro a s g H x y v u Q I c e h
 obtain⟨i,j,d,b,q⟩:=h
 subst d;subst b
 obtain⟨t,rfl⟩:=c
 obtain⟨f,rfl⟩:=e
 exact iadd_int ⟨.int _,H,I.tok _,⟨_,rfl⟩,q⟩
theorem ip_sub:PIp X .Sub (ipI fun i j=>i-j):=by
 intro a s g H x y v u Q I c e h
 obtain⟨i,j,d,b,q⟩:=h
 subst d;subst b
 obtain⟨t,rfl⟩:=c
 obtain⟨f,rfl⟩:=e
 exact isub_int ⟨.int _,H,I.tok _,⟨_,rfl⟩,q⟩
end
set_option genInjectivity false in
set_option genInjectivity false in
structure It where
 go:Nat->Hp->Prop
 yld:Nat->Hp->V->Hp->Prop
 stop:Nat->Hp->Prop
def FpOk(X:Cx)(pins:Z8)(H:Hp)(b:Addr):Prop :=
 H b=none/\b≠X.env.locals/\b∉X.fs/\(b∈X.ex\/X.s₀.heap.objs.size<=b)/\(∀x c,X.env.cells.lookup x=some c->c≠b)/\∀p∈X.pn++pins,p.1≠b
theorem Inv.fpOk{X:Cx}{σ:St}(I:Inv X pins σ H s)(a:s.heap.objs.size<=b)(f:H' b=none):FpOk X pins H' b:=by
 refine⟨f,kQf (xZ I.lt a),I.nofs a,.inr (jQc I.sz a),fun x c e z=>?_,fun p d z=>?_⟩
 .obtain⟨v,q⟩:=I.cell x c e
  exact Y21 (xZ q.lt (by rw[z];exact a)) (jYd _)
 .exact Y21 (xZ (yK (I.pin p d).1) (by rw[z];exact a)) (jYd _)
structure Turn(P:Program)(w:World)(K:Fg)(tg:Expr)(J:It)(fp:List Addr)(it:Addr)(tn:Nat->Heap->Prop):Prop where
 mem:it∈fp
 obj:∀i h,tn i h->∀b∈fp,∃o,h.get? b=some o/\∀v,o.data≠.cell v
 keep:∀i h h',tn i h->(∀b∈fp,∀o,h.get? b=some o->h'.get? b=some o)->tn i h'
 item:∀(X:Cx),X.prog=P->X.w=w->X.K=K->X.calm=true->∀(i:Nat) (pins:Z8) (s:Shared) (σ:St) (H:Hp) (E:VP),Inv X pins σ H s->(∀b∈fp,FpOk X pins H b)->tn i s.heap->J.go i H ->
  wpAny (model P w) X.A (pyNext (.ref it)) (fun r s1=>∃u,r=some u /\
   wpAny (model P w) X.A (letOwnedTupleGo tg (.ref it) u) (fun _ s2=>∃x H',Inv X pins σ H' s2/\RelV x u/\J.yld i H x H'/\tn (i+1) s2.heap/\∀b∈fp,H' b=none) E s1) E s
 done:∀(X:Cx),X.prog=P->X.w=w->X.K=K->X.calm=true->∀(i:Nat) (pins:Z8) (s:Shared) (σ:St) (H:Hp) (E:VP),Inv X pins σ H s->(∀b∈fp,FpOk X pins H b)->tn i s.heap->J.stop i H ->
  wpAny (model P w) X.A (pyNext (.ref it)) (fun r s1=>r=none/\Inv X pins σ H s1) E s
 self:∀(A:Around) (i:Nat) (s:Shared) (Q:VP) (E:VP),tn i s.heap->Q (.ref it) s->wpAny (model P w) A (pyIter (.ref it)) Q E s
abbrev TI:=St->Hp->(It->Hp->Prop)->Prop
def PIE(X:Cx)(pins:Z8)(σ:St)(tg:Expr)(R:It->Hp->Prop)(itv:Value)(s2:Shared):Prop :=
 ∃(it:Addr) (fp:List Addr) (tn:Nat->Heap->Prop) (J:It) (H':Hp),itv=.ref it/\Inv X pins σ H' s2/\Turn X.prog X.w X.K tg J fp it tn/\tn 0 s2.heap/\(∀b∈fp,FpOk X pins H' b)/\R J H'
def PI(X:Cx)(tg iter:Expr)(wi:TI):Prop :=
 ∀(pins:Z8) (s:Shared) (σ:St) (H:Hp) (R:It->Hp->Prop),Inv X pins σ H s->wi σ H R ->
  wpAny (model X.prog X.w) X.A (eval iter X.env) (fun v s1=>wpAny (model X.prog X.w) X.A (pyIter v) (PIE X pins σ tg R) X.xe s1) X.xe s
theorem Qkt{n:String} {vs:Array Value} {Q:Unit->Shared->Prop} (b:s.heap.get? it=some o) (e:o.cls=.type n) (c:o.data=.fields vs)
    (d:["enumerate","zip","dict_itemiterator","dict_reverseitemiterator","odict_iterator","itertools.zip_longest","itertools.pairwise"].contains n=false) (a:Q () s):wpAny M A (letOwnedTupleGo tg (.ref it) u) Q E s:=by
  unfold letOwnedTupleGo
  cases tg<;>first
    |exact jV a
    | (cases u <;> first
        |exact jV a
        | (refine jQ (wpAny_load b ?_)
           rw[e,c]
           show wpAny M A (if (["enumerate","zip","dict_itemiterator","dict_reverseitemiterator","odict_iterator","itertools.zip_longest","itertools.pairwise"].contains n&&vs[0]? == some (rawInt _))=true then _ else _) Q E s
           rw[Y20 (by intro h;rw[d,Bool.false_and]at h;cases h)]
           exact jV a))
def Itl(K:Fg)(a:Addr):It :=
 ⟨fun i H=>∃xs x,SqL K H a xs/\xs[i]?=some x,fun i H x H'=>H'=H/\∀xs,SqL K H a xs->xs[i]?=some x,fun i H=>∃xs,SqL K H a xs/\xs.length<=i⟩
def Itr(lo:Int)(n:Nat):It:=⟨fun i _=>i<n,fun i H x H'=>H'=H/\x=.int (lo+i),fun i _=>n<=i⟩
theorem Qml{w:World}(a l:Addr):Turn P w K tg (Itl K a) [l] l (fun i h=>h.IsListIter l a i) where
 mem:=by simp
 obj:=fun i h f b j=>by
  have e:b=l:=by simpa using j
  subst e
  obtain⟨o,e,c,d⟩:=f
  exact⟨o,e,fun v z=>by rw[d]at z;cases z⟩
 keep:=fun i h n f k=>f.at fun o e=>k l (by simp) o e
 item:=by
  intro X G B J R i g s Q H E I r f O
  subst G B J
  obtain⟨Z,x,q,N⟩:=O
  obtain⟨D,L,p,W⟩:=I.list q
  obtain⟨u,V,S⟩:=L.get N
  obtain⟨M,C,U,A,y,F⟩:=r l (by simp)
  refine wpAny_pyNext_list_item f p.isList (x:=u) (by simpa using V) fun n m Y=>?_
  have I1:Inv X g Q H { s with heap:=n }:=I.turned (t':=s.toks) (fun b o j e=>(Y.2 b j).trans e) M C A y F
  obtain⟨o,e,c,d⟩:=id m
  exact⟨u,rfl,Qkt (s:={ s with heap:=n }) e c d Dc ⟨x,H,I1,S,⟨rfl,fun ys T=>by rw[I.list_inj T q];exact N⟩,m,fun b j=>(r b j).1⟩⟩
 done:=by
  intro X G B J R i g s Q H E I r f O
  subst G B J
  obtain⟨Z,q,N⟩:=O
  obtain⟨D,L,p,W⟩:=I.list q
  obtain⟨M,C,U,A,y,F⟩:=r l (by simp)
  have hl:=L.length
  exact wpAny_pyNext_list_end (I.ok.hd R) f p.isList (by simp;lia) fun n eb=>⟨rfl,I.turned (t':=s.toks) (fun b o j e=>eb b o j e) M C A y F⟩
 self:=fun _ _ _ _ _ f h=>wpAny_pyIter_listiter f h
theorem Qku{w:World}(c:Addr)(lo:Int)(n:Nat):Turn P w K tg (Itr lo n) [c] c (fun i h=>IsRangeIter h c (lo+(i:Nat)*1) ((n:Int)-(i:Nat)) 1) where
 mem:=by simp
 obj:=fun i h a b f=>by
  have e:b=c:=by simpa using f
  subst e
  exact⟨_,a,fun v z=>by
   have N:Data.fields _=Data.cell v:=z
   cases N⟩
 keep:=fun i h j a k=>k c (by simp) _ a
 item:=by
  intro X x q y A i d s D H E I l a C
  subst x q y
  obtain⟨B,r,J,p,m,u⟩:=l c (by simp)
  have W:=Walks.range (prog:=X.prog) (w:=X.w) (I.ok.hd A) c lo 1 n
  refine W.item i s _ _ C a fun v j F L g G=>?_
  obtain⟨t,rfl⟩:=L
  have M:Inv X d D H { s with heap:=j,toks:=F }:=I.turned (fun b o f e=>G b o (by simpa using f) e) B r p m u
  refine⟨_,rfl,Qkt (s:={ s with heap:=j,toks:=F }) (n:="range_iterator") g rfl rfl Dc ⟨.int (lo+i),H,M,⟨t,?_⟩,⟨rfl,rfl⟩,g,fun b f=>(l b f).1⟩⟩
  rw[Int.mul_one]
 done:=by
  intro X x q y A i d s D H E I l a C
  subst x q y
  obtain⟨B,r,J,p,m,u⟩:=l c (by simp)
  exact wpAny_pyNext_range_end (I.ok.hd A) a (by have:n<=i:=C;lia) fun j O=>⟨rfl,I.turned (t':=s.toks) (fun b o f e=>O b o f e) B r p m u⟩
 self:=fun _ _ _ _ _ a h=>wpAny_pyIter_rangeiter a h
section
variable{X:Cx}
def iList(K:Fg)(tl:TE):TI:=fun σ H R=>tl σ H fun x H1=>∃a,x=.ref a/\(∃xs,SqL K H1 a xs)/\R (Itl K a) H1
theorem Qx{l:Expr}{tl:TE}(u:PE X l tl):PI X tg l (iList X.K tl):=by
 intro c s n H R I h
 refine thn (u c s n H _ I h) fun v f g=>?_
 obtain⟨x,r,d,m,i⟩:=g
 obtain⟨a,e,⟨A,w⟩,q⟩:=i
 subst e
 cases m
 obtain⟨k,z,p,y⟩:=d.list w
 refine Y51 p.isList ?_
 refine⟨f.heap.objs.size,[f.heap.objs.size],_,_,r,rfl,d.kept (t':=f.toks) fun b o e=>jZ _ e,Qml a _,⟨_,yY _ rfl,rfl,rfl⟩,fun b j=>?_,q⟩
 have e:b=f.heap.objs.size:=by simpa using j
 subst e
 exact d.fpOk (jK _) (d.hok.fresh (jK _))
theorem Qqy{σ:St}{R:It->Hp->Prop}{lo hi:Int}{t u v:Tok}{tk:Nat}(I:Inv X pins σ H s)(f:-(2 ^ 62)<=lo)(c:lo<2 ^ 62)(g:-(2 ^ 62)<=hi)(j:hi<2 ^ 62)
  (q:R (Itr lo (hi-lo).toNat) H):wpAny (model X.prog X.w) X.A (pyIter (.ref s.heap.objs.size)) (PIE X pins σ tg R) E { s with heap:=s.heap.push { cls:=.type "range",data:=.fields #[.int lo t,.int hi u,.int 1 v] },toks:=tk }:=by
 refine wpAny_pyIter_range (IsRange.new ..) (small_one f c g j) ?_
 have a:Inv X pins σ H { s with heap:=s.heap.push { cls:=.type "range",data:=.fields #[.int lo t,.int hi u,.int 1 v] },toks:=tk }:=I.kept fun b o e=>jZ _ e
 refine⟨(s.heap.push { cls:=.type "range",data:=.fields #[.int lo t,.int hi u,.int 1 v] }).objs.size,[(s.heap.push { cls:=.type "range",data:=.fields #[.int lo t,.int hi u,.int 1 v] }).objs.size],_,_,H,rfl,
  a.kept (t':=tk) fun b o e=>jZ _ e,Qku _ lo (hi-lo).toNat,?_,fun b d=>?_,q⟩
 .have i:lo+((0:Nat):Int)*1=lo:=by simp
  have h:(((hi-lo).toNat:Nat):Int)-((0:Nat):Int)=Builtin.Range.rangeSize lo hi 1:=by rw[rangeSize_one];split<;>lia
  show IsRangeIter _ _ (lo+((0:Nat):Int)*1) ((((hi-lo).toNat:Nat):Int)-((0:Nat):Int)) 1
  rw[i,h]
  exact yY _ rfl
 .have e:b=(s.heap.push { cls:=.type "range",data:=.fields #[.int lo t,.int hi u,.int 1 v] }).objs.size:=by simpa using d
  subst e
  exact a.fpOk (jK _) (a.hok.fresh (jK _))
def iRng1(ta:TA):TI:=fun σ H R=>ta σ H fun vs H1=>∃j:Int,vs=[.int j]/\-(2 ^ 62)<=j/\j<2 ^ 62/\R (Itr 0 j.toNat) H1
theorem Xo{a:Expr}{ta:TA}{p:Pos}(o:Gl X "range")(f:X.mg "range"=none)(k:PA X [a] ta)(g:autoParam (starEach [a] X.env=[(false,eval a X.env)]) J1._auto_1):PI X tg (.Call (.Name "range" p) [a] [] pos) (iRng1 ta):=by
 intro b s m H R I h
 refine Call_ (Vg I o f boot_range (Y38 (thn (k pos b s m H _ I h) fun v x d=>?_) g rfl))
 obtain⟨u,w,i,l,c⟩:=d
 obtain⟨j,e,c,n,q⟩:=c
 subst e
 cases l with
 |cons r rr=>
  cases rr
  obtain⟨t,rfl⟩:=r
  exact call_range_1 (Qqy i Om Om c n (by simpa using q))
def tFor(wi:TI)(g:TG)(tb:TS):TS:=fun D σ H=>wi σ H fun J H1=>∃W:Nat->Nat->St->Hp->Prop,(∃m,W 0 m σ H1)/\∀i m σ H,W i m σ H ->
 (J.stop i H/\D.nx σ H)\/(J.go i H/\∃N:St->Hp->Prop,(∀σ' H',N σ' H'->∃m',m'<m/\W (i+1) m' σ' H')/\∀x H',J.yld i H x H'->g x σ H' fun σ2 H2=>tb { D with nx:=N,ct:=N,bk:=D.nx } σ2 H2)
def Qcl(fp:List Addr)(h:Heap):Z8:=fp.filterMap fun b=>(h.get? b).map fun o=>(b,o)
theorem Ja{h:Heap}(a:b∈fp)(e:h.get? b=some o):(b,o)∈Qcl fp h:=xQ.mpr ⟨b,a,by rw[e];rfl⟩
theorem Qmm{h:Heap}{p:Addr×Obj}(a:p∈Qcl fp h):p.1∈fp/\h.get? p.1=some p.2:=by
 obtain⟨b,c,e⟩:=xQ.mp a
 cases q:h.get? b with
 |none=>rw[q]at e;cases e
 |some o=>
  rw[q]at e
  have d:(b,o)=p:=Y5 e
  subst d
  exact⟨c,q⟩
theorem Inv.pinned{σ:St}(I:Inv X pins σ H s)(i:∀b∈fp,FpOk X pins H b)(j:∀b∈fp,∃o,s.heap.get? b=some o/\∀v,o.data≠.cell v):Inv X (pins++Qcl fp s.heap) σ H s :=
 I.pins_of fun p g=>(kJ.mp g).elim (fun z=>I.pin p (yX _ z)) fun z=>by
  obtain⟨a,e⟩:=Qmm z
  obtain⟨h,k,f,_⟩:=i p.1 a
  obtain⟨o,c,d⟩:=j p.1 a
  rw[e]at c;cases c
  exact⟨e,h,k,f,d⟩
theorem Inv.unpinned{pl:Z8}{σ:St}(I:Inv X (pins++pl) σ H s):Inv X pins σ H s:=I.pins_of fun p a=>I.pin p (yX _ (zZ _ a))
theorem Ye{body:List Stmt}{wi:TI}{g:TG}{tb:TS}(K:PassesOwn (model X.prog X.w) X.A X.env X.xe)(hc:X.calm=true)(hi:PI X tg iter wi)(hg:PG X tg g)(t:PSs X body tb)
  (hs:autoParam (∀x,foldedSetIterable iter X.env x=pure x) J4._auto_1):PS X (.For tg iter body [] pos) (tFor wi g tb):=by
 intro c s Z H D I h
 refine wpAny_For (thn (hi c s Z H _ I h) fun v s1 h1=>thn h1 fun aa s2 h2=>?_) hs
 obtain⟨it,L,tn,J,H2,e,I2,T,U,f2,W,⟨m0,w0⟩,F⟩:=h2
 subst e
 -- what stays true of the iterator's objects through the loop
 have p:∀{H':Hp},(∀b∈L,H' b=none)->∀b∈L,FpOk X c H' b:=fun hn b t=>⟨hn b t,(f2 b t).2⟩
 refine codeAny_forLoop_any (fun n s'=>∃i σ' H',Inv X c σ' H' s'/\tn i s'.heap/\(∀b∈L,H' b=none)/\W i n σ' H') ?_ m0 ⟨0,Z,H2,I2,U,fun b t=>(f2 b t).1,w0⟩
 rintro n Y ⟨i,y,O,I3,M,G,w3⟩
 rcases F i n y O w3 with⟨E,qn⟩ | ⟨go,N,hN,step⟩
 .refine Y65 K (thn (T.done X rfl rfl rfl hc i c Y y O X.xe I3 (p G) M E) fun r s4 j=>?_)
  obtain⟨Q,I4⟩:=j
  subst Q
  exact Y66 ⟨y,O,I4,qn⟩
 .refine Y65 K (thn (T.item X rfl rfl rfl hc i c Y y O X.xe I3 (p G) M go) fun r s4 j=>?_)
  obtain⟨u,Q,h4⟩:=j
  subst Q
  refine Y65 K (thn h4 fun _ s5 j=>?_)
  obtain⟨x,H5,I5,r5,y5,B,S⟩:=j
  have V:=I5.pinned (p S) (T.obj _ _ B)
  refine Y65 K (thn (hg _ s5 y H5 x u _ V r5 (step x H5 y5)) fun _ s6 j=>?_)
  obtain⟨R,H6,I6,q6⟩:=j
  refine Y65 K (thn (t _ s6 R H6 _ I6 q6) fun f P z=>?_)
  have k:∀{a:St} {l:Hp},Inv X (c++Qcl L s5.heap) a l P->N a l->∃m,m<n/\∃i σ' H',Inv X c σ' H' P/\tn i P.heap/\(∀b∈L,H' b=none)/\W i m σ' H':=fun{a l} q C=>by
   obtain⟨m',hm,w7⟩:=hN a l C
   refine⟨m',hm,i+1,a,l,q.unpinned,T.keep _ _ _ B fun b t o e=>(q.pin (b,o) (yX _ (yX _ (Ja t e)))).1,fun b t=>?_,w7⟩
   obtain⟨o,e,d⟩:=T.obj _ _ B b t
   exact(q.pin (b,o) (yX _ (yX _ (Ja t e)))).2.1
  cases f with
  |next=>obtain⟨a,l,q,C⟩:=z;exact k q C
  |cont=>obtain⟨a,l,q,C⟩:=z;exact k q C
  |brk=>obtain⟨a,l,q,z⟩:=z;exact⟨a,l,q.unpinned,z⟩
  |ret v=>obtain⟨x7,a,l,q,r7,z⟩:=z;exact⟨x7,a,l,q.unpinned,r7,z⟩
end
theorem Zc{g:TG}{tb:TS}{D:Ends}{σ:St}(b:Nat->St->Hp->Prop)(j:b 0 σ H)(k:∀i σ H,i<=xs.length->b i σ H->SqL K H a xs)
  (f:∀i x σ H,xs[i]?=some x->b i σ H->g x σ H fun σ2 H2=>tb { D with nx:=b (i+1),ct:=b (i+1),bk:=D.nx } σ2 H2) (l:∀σ H,b xs.length σ H->D.nx σ H) :
  ∃W:Nat->Nat->St->Hp->Prop,(∃m,W 0 m σ H)/\∀i m σ H,W i m σ H ->
   ((Itl K a).stop i H/\D.nx σ H)\/((Itl K a).go i H/\∃N:St->Hp->Prop,(∀σ' H',N σ' H'->∃m',m'<m/\W (i+1) m' σ' H')/\∀x H',(Itl K a).yld i H x H'->g x σ H' fun σ2 H2=>tb { D with nx:=N,ct:=N,bk:=D.nx } σ2 H2):=by
 refine⟨fun i m σ H=>m=xs.length-i/\i<=xs.length/\b i σ H,⟨xs.length,by simp,xW _,j⟩,?_⟩
 rintro i m σ H ⟨rfl,h,p⟩
 have q:=k i σ H h p
 by_cases c:i<xs.length
 .refine .inr ⟨⟨xs,xs[i],q,by simp[c]⟩,b (i+1),fun σ' H' d=>⟨xs.length-(i+1),Om,rfl,c,d⟩,fun x H' y=>?_⟩
  obtain⟨e,y⟩:=y
  subst e
  exact f i x σ _ (y xs q) p
 .have e:i=xs.length:=Om
  subst e
  exact .inl ⟨⟨xs,q,jK _⟩,l σ H p⟩
theorem Yh{lo:Int}{n:Nat}{g:TG}{tb:TS}{D:Ends}{σ:St}(a:Nat->St->Hp->Prop)(d:a 0 σ H)
  (c:∀i σ H,i<n->a i σ H->g (.int (lo+i)) σ H fun σ2 H2=>tb { D with nx:=a (i+1),ct:=a (i+1),bk:=D.nx } σ2 H2) (h:∀σ H,a n σ H->D.nx σ H) :
  ∃W:Nat->Nat->St->Hp->Prop,(∃m,W 0 m σ H)/\∀i m σ H,W i m σ H ->
   ((Itr lo n).stop i H/\D.nx σ H)\/((Itr lo n).go i H/\∃N:St->Hp->Prop,(∀σ' H',N σ' H'->∃m',m'<m/\W (i+1) m' σ' H')/\∀x H',(Itr lo n).yld i H x H'->g x σ H' fun σ2 H2=>tb { D with nx:=N,ct:=N,bk:=D.nx } σ2 H2):=by
 refine⟨fun i m σ H=>m=n-i/\i<=n/\a i σ H,⟨n,by simp,xW _,d⟩,?_⟩
 rintro i m σ H ⟨rfl,j,p⟩
 by_cases b:i<n
 .refine .inr ⟨b,a (i+1),fun σ' H' f=>⟨n-(i+1),Om,rfl,b,f⟩,fun x H' y=>?_⟩
  obtain⟨e,y⟩:=y
  subst e y
  exact c i σ _ b p
 .have e:i=n:=Om
  subst e
  exact .inl ⟨jK _,h σ H p⟩
abbrev R2:=V->V->Hp->VK->Prop
def OpR(X:Cx)(f:Value->Value->Sem Value)(r:R2):Prop :=
 ∀(pins:Z8) (s:Shared) (σ:St) (H:Hp) (x y:V) (v u:Value) (Q:VK),Inv X pins σ H s->RelV x v->RelV y u->r x y H Q ->
  wpAny (model X.prog X.w) X.A (f v u) (EP X pins σ Q) X.xe s
def Zy(X:Cx)(f:Value)(r:List V->Hp->VK->Prop):Prop :=
 ∀(pins:Z8) (s:Shared) (σ:St) (H:Hp) (xs:List V) (us:List Value) (Q:VK),Inv X pins σ H s->Vals xs us->r xs H Q ->
  wpAny (model X.prog X.w) X.A (call f us) (EP X pins σ Q) X.xe s
def tOp(r:R2)(ta tb:TE):TE:=fun σ H Q=>ta σ H fun x H1=>tb σ H1 fun y H2=>r x y H2 Q
def rI(C:Int->Int->Prop)(g:Int->Int->V):R2:=fun x y H Q=>∃i j,x=.int i/\y=.int j/\C i j/\Q (g i j) H
def rI0(g:Int->Int->V):R2:=fun x y H Q=>∃i j,x=.int i/\y=.int j/\Q (g i j) H
section
variable{X:Cx}{a b:Expr}{ta tb:TE}
theorem binT(g:PE X a ta)(e:PE X b tb){σ:St}{R:V->V->Hp->Prop}(I:Inv X pins σ H s)
  (h:ta σ H fun x H1=>tb σ H1 fun y H2=>R x y H2) {Q:VP} {f:Value->Value->Sem Value}
  (l:∀v u s2 x y H2,Inv X pins σ H2 s2->RelV x v->RelV y u->R x y H2->wpAny (model X.prog X.w) X.A (f v u) Q X.xe s2) :
  wpAny (model X.prog X.w) X.A (eval a X.env) (fun v s₁=>wpAny (model X.prog X.w) X.A (eval b X.env) (fun u s₂=>wpAny (model X.prog X.w) X.A (f v u) Q X.xe s₂) X.xe s₁) X.xe s:=by
 refine thn (g pins s σ H _ I h) fun v o c=>?_
 obtain⟨x,H1,i,k,d⟩:=c
 refine thn (e pins o σ H1 _ i d) fun u s2 c=>?_
 obtain⟨y,H2,j,n,m⟩:=c
 exact l v u s2 x y H2 j k n m
theorem Ql{op:Operator}{r:R2}(k:OpR X (binaryOp op) r)(g:PE X a ta)(e:PE X b tb):PE X (.BinOp a op b pos) (tOp r ta tb):=by
 intro c s l H Q I h
 exact wpAny_BinOp (binT g e I h fun v u m x y j i f d q=>k c m l j x y v u Q i f d q)
theorem opI{f:Value->Value->Sem Value}{C:Int->Int->Prop}{g:Int->Int->Int}
  (a:∀(i j:Int) (t u:Tok) (s:Shared) (Q:VP) (E:VP),C i j->Q (.int (g i j) s.toks) { s with toks:=s.toks+1 }->wpAny (model X.prog X.w) X.A (f (.int i t) (.int j u)) Q E s) :
  OpR X f (rI C fun i j=>.int (g i j)):=by
 intro b s l H x y v u Q I d e h
 obtain⟨i,j,rfl,rfl,k,q⟩:=h
 obtain⟨t,rfl⟩:=d
 obtain⟨c,rfl⟩:=e
 exact a i j t c s _ _ k ⟨.int (g i j),H,I.tok _,⟨_,rfl⟩,q⟩
theorem opI0{f:Value->Value->Sem Value}{g:Int->Int->Int}
  (a:∀(i j:Int) (t u:Tok) (s:Shared) (Q:VP) (E:VP),Q (.int (g i j) s.toks) { s with toks:=s.toks+1 }->wpAny (model X.prog X.w) X.A (f (.int i t) (.int j u)) Q E s) :
  OpR X f (rI0 fun i j=>.int (g i j)):=by
 intro b s k H x y v u Q I d e h
 obtain⟨i,j,rfl,rfl,q⟩:=h
 obtain⟨t,rfl⟩:=d
 obtain⟨c,rfl⟩:=e
 exact a i j t c s _ _ ⟨.int (g i j),H,I.tok _,⟨_,rfl⟩,q⟩
theorem opB0{f:Value->Value->Sem Value}{g:Int->Int->Bool}
  (a:∀(i j:Int) (t u:Tok) (s:Shared) (Q:VP) (E:VP),Q (.bool (g i j)) s->wpAny (model X.prog X.w) X.A (f (.int i t) (.int j u)) Q E s) :
  OpR X f (rI0 fun i j=>.bl (g i j)):=by
 intro b s k H x y v u Q I d e h
 obtain⟨i,j,rfl,rfl,q⟩:=h
 obtain⟨t,rfl⟩:=d
 obtain⟨c,rfl⟩:=e
 exact a i j t c s _ _ ⟨.bl (g i j),H,I,rfl,q⟩
def CDiv(i j:Int):Prop:=0<j/\j<1073741824
def CPow(i j:Int):Prop:=0<=j/\j<=1000000/\i.natAbs<2 ^ 64
def CMul(i j:Int):Prop:=(-(2 ^ 64)<i/\i<2 ^ 64)\/(-(2 ^ 64)<j/\j<2 ^ 64)
theorem CMul.ok{i j:Int}(h:CMul i j):IntMulOk i j:=by
 rcases h with⟨b,a⟩ | ⟨b,a⟩
 .exact .of_left (intBits_le_64 b a)
 .exact .of_right (intBits_le_64 b a)
theorem Xc:OpR X (binaryOp .Add) (rI0 fun i j=>.int (i+j)):=opI0 fun _ _ _ _ _ _ _ q=>add_int q
theorem Qfd:OpR X (binaryOp .Sub) (rI0 fun i j=>.int (i-j)):=opI0 fun _ _ _ _ _ _ _ q=>sub_int q
theorem Jg:OpR X (binaryOp .Mult) (rI CMul fun i j=>.int (i*j)):=opI fun _ _ _ _ _ _ _ a q=>mul_int q a.ok
theorem Xu:OpR X (binaryOp .FloorDiv) (rI CDiv fun i j=>.int (i / j)):=opI fun i j _ _ _ _ _ a q=>by
 have c:(0:Int)<j:=a.1
 have b:j<1073741824:=a.2
 exact floordiv_int Om (by rw[Int.fdiv_eq_ediv_of_nonneg i Om];exact q) (.inl (PyProof.noPylong_small Om))
theorem Xf:OpR X (binaryOp .Mod) (rI (fun _ j=>0<j) fun i j=>.int (i % j)):=opI fun i j _ _ _ _ _ a q=>by
 have b:(0:Int)<j:=a
 exact mod_int' Om (by rw[Int.fmod_eq_emod_of_nonneg i Om];exact q)
theorem Qmn:OpR X (binaryOp .Pow) (rI CPow fun i j=>.int (i ^ j.toNat)):=opI fun _ _ _ _ _ _ _ a q=>pow_int_small a.1 a.2.1 a.2.2 q
end
def scal:V->V->Bool
 |.non,.non=>true | .non,.int _=>true | .int _,.non=>true | .non,.bl _=>true | .bl _,.non=>true | .non,.str _=>true | .str _,.non=>true
 |.int _,.int _=>true | .bl _,.bl _=>true | .str _,.str _=>true | .byt _,.byt _=>true
 |.int _,.str _=>true | .str _,.int _=>true | .bl _,.str _=>true | .str _,.bl _=>true
 |_,_=>false
def rEq:R2:=fun x y H Q=>scal x y=true/\Q (.bl (decide (x=y))) H
def rNe:R2:=fun x y H Q=>scal x y=true/\Q (.bl (!decide (x=y))) H
theorem Qmo{i j:Int}:decide (V.int i=V.int j)=(i == j):=by
 rw[jZf]
 simp
theorem Qum{i j:Bool}:decide (V.bl i=V.bl j)=(i == j):=by
 rw[jZf]
 simp
theorem Qmp{i j:Str}:decide (V.str i=V.str j)=(i == j):=by
 rw[jZf]
 simp
theorem Qmq{i j:Array UInt8}:decide (V.byt i=V.byt j)=(i.toList == j.toList):=by
 rw[jZf]
 cases i
 cases j
 simp
section
variable{X:Cx}{a b c:Expr}{ta tb tc:TE}
theorem Xp{σ:St}{Q:VK}{k k':Bool}(I:Inv X pins σ H s)(q:Q (.bl k) H)(e:k=k'):EP X pins σ Q (.bool k') s:=by
 subst e
 exact⟨.bl k,H,I,rfl,q⟩
theorem Yq:OpR X (compareOp .Eq) rEq:=by
 intro e s f H x y v u Q I d a h
 obtain⟨c,q⟩:=h
 cases x with
 |non=>
  cases d
  cases y with
  |non=>cases a;exact PySem.EqNone.eq_none_none (Xp I q (by simp))
  |bl j=>cases a;exact PySem.EqNone.eq_none_bool (Xp I q (by simp))
  |int j=>obtain⟨b,rfl⟩:=a;exact PySem.EqNone.eq_none_int (Xp I q (by simp))
  |str j=>obtain⟨b,rfl⟩:=a;exact PySem.EqNone.eq_none_str (Xp I q (by simp))
  |_=>exact Y21 (show false=true from c) yQ
 |bl i=>
  cases d
  cases y with
  |non=>cases a;exact PySem.EqNone.eq_bool_none (Xp I q (by simp))
  |bl j=>cases a;exact eq_bool (Xp I q Qum)
  |str j=>obtain⟨b,rfl⟩:=a;exact PySem.EqMixed.eq_bool_str (Xp I q (by simp))
  |_=>exact Y21 (show false=true from c) yQ
 |int i=>
  obtain⟨t,rfl⟩:=d
  cases y with
  |non=>cases a;exact PySem.EqNone.eq_int_none (Xp I q (by simp))
  |int j=>obtain⟨b,rfl⟩:=a;exact eq_int (Xp I q Qmo)
  |str j=>obtain⟨b,rfl⟩:=a;exact PySem.EqMixed.eq_int_str (Xp I q (by simp))
  |_=>exact Y21 (show false=true from c) yQ
 |str i=>
  obtain⟨t,rfl⟩:=d
  cases y with
  |non=>cases a;exact PySem.EqNone.eq_str_none (Xp I q (by simp))
  |bl j=>cases a;exact PySem.EqMixed.eq_str_bool (Xp I q (by simp))
  |int j=>obtain⟨b,rfl⟩:=a;exact PySem.EqMixed.eq_str_int (Xp I q (by simp))
  |str j=>obtain⟨b,rfl⟩:=a;exact eq_str (Xp I q Qmp)
  |_=>exact Y21 (show false=true from c) yQ
 |byt i=>
  obtain⟨t,rfl⟩:=d
  cases y with
  |byt j=>obtain⟨b,rfl⟩:=a;exact PySem.W.eq_bytes (Xp I q Qmq)
  |_=>exact Y21 (show false=true from c) yQ
 |_=>cases y<;>exact Y21 (show false=true from c) yQ
theorem Qdl:OpR X (compareOp .NotEq) rNe:=by
 intro e s f H x y v u Q I d a h
 obtain⟨c,q⟩:=h
 cases x with
 |non=>
  cases d
  cases y with
  |non=>cases a;exact PySem.EqNone.ne_none_none (Xp I q (by simp))
  |bl j=>cases a;exact PySem.EqNone.ne_none_bool (Xp I q (by simp))
  |int j=>obtain⟨b,rfl⟩:=a;exact PySem.EqNone.ne_none_int (Xp I q (by simp))
  |str j=>obtain⟨b,rfl⟩:=a;exact PySem.EqNone.ne_none_str (Xp I q (by simp))
  |_=>exact Y21 (show false=true from c) yQ
 |bl i=>
  cases d
  cases y with
  |non=>cases a;exact PySem.EqNone.ne_bool_none (Xp I q (by simp))
  |bl j=>cases a;exact ne_bool (Xp I q (congrArg not Qum))
  |str j=>obtain⟨b,rfl⟩:=a;exact PySem.EqMixed.ne_bool_str (Xp I q (by simp))
  |_=>exact Y21 (show false=true from c) yQ
 |int i=>
  obtain⟨t,rfl⟩:=d
  cases y with
  |non=>cases a;exact PySem.EqNone.ne_int_none (Xp I q (by simp))
  |int j=>obtain⟨b,rfl⟩:=a;exact ne_int (Xp I q (congrArg not Qmo))
  |str j=>obtain⟨b,rfl⟩:=a;exact PySem.EqMixed.ne_int_str (Xp I q (by simp))
  |_=>exact Y21 (show false=true from c) yQ
 |str i=>
  obtain⟨t,rfl⟩:=d
  cases y with
  |non=>cases a;exact PySem.EqNone.ne_str_none (Xp I q (by simp))
  |bl j=>cases a;exact PySem.EqMixed.ne_str_bool (Xp I q (by simp))
  |int j=>obtain⟨b,rfl⟩:=a;exact PySem.EqMixed.ne_str_int (Xp I q (by simp))
  |str j=>obtain⟨b,rfl⟩:=a;exact ne_str (Xp I q (congrArg not Qmp))
  |_=>exact Y21 (show false=true from c) yQ
 |byt i=>
  obtain⟨t,rfl⟩:=d
  cases y with
  |byt j=>obtain⟨b,rfl⟩:=a;exact PySem.W.ne_bytes (Xp I q (congrArg not Qmq))
  |_=>exact Y21 (show false=true from c) yQ
 |_=>cases y<;>exact Y21 (show false=true from c) yQ
theorem Qfe:OpR X (compareOp .Lt) (rI0 fun i j=>.bl (decide (i<j))):=opB0 fun _ _ _ _ _ _ _ q=>lt_int q
theorem Wu:OpR X (compareOp .LtE) (rI0 fun i j=>.bl (decide (i<=j))):=opB0 fun _ _ _ _ _ _ _ q=>le_int q
theorem Qdm:OpR X (compareOp .Gt) (rI0 fun i j=>.bl (decide (j<i))):=opB0 fun _ _ _ _ _ _ _ q=>gt_int q
theorem op_ge:OpR X (compareOp .GtE) (rI0 fun i j=>.bl (decide (j<=i))):=opB0 fun _ _ _ _ _ _ _ q=>ge_int q
theorem op_isN:OpR X (compareOp .Is) (fun x y H Q=>y=.non/\Q (.bl (decide (x=.non))) H):=by
 intro b s d H x y v u Q I a c h
 obtain⟨rfl,q⟩:=h
 cases c
 refine is_none_gen (Xp I q ?_)
 cases x<;>first
  |(cases a;rfl)
  |(obtain⟨t,rfl⟩:=a;rfl)
theorem Qdn:OpR X (compareOp .IsNot) (fun x y H Q=>y=.non/\Q (.bl (!decide (x=.non))) H):=by
 intro b s d H x y v u Q I a c h
 obtain⟨rfl,q⟩:=h
 cases c
 refine isnot_none_gen (Xp I q ?_)
 cases x<;>first
  |(cases a;rfl)
  |(obtain⟨t,rfl⟩:=a;rfl)
theorem Qs(b:Expr){op:CmpOp}(h:autoParam (op≠.In) J2._auto_1)(a:autoParam (op≠.NotIn) J2._auto_1):behindInMarks op b=false:=by
 have c:(op == CmpOp.In)=false:=by cases op<;>first | rfl | exact Y21 rfl h
 have d:(op == CmpOp.NotIn)=false:=by cases op<;>first | rfl | exact Y21 rfl a
 cases b<;>simp[behindInMarks,c,d]
theorem Kb{op:CmpOp}{r:R2}(l:OpR X (compareOp op) r)(g:PE X a ta)(e:PE X b tb)(n:behindInMarks op b=false):PE X (.Compare a [op] [b] pos) (tOp r ta tb):=by
 intro c s m H Q I h
 exact wpAny_Compare1 (binT g e I h fun v u k x y j i f d q=>l c k m j x y v u Q i f d q) n
def tTest(t:TE):TT:=fun σ H Q=>t σ H fun x H'=>∃k,x=.bl k/\Q k H'
theorem Qm{op:CmpOp}{r:R2}(j:OpR X (compareOp op) r)(i:PE X a ta)(g:PE X b tb)(l:behindInMarks op b=false):PT X (.Compare a [op] [b] pos) (tTest (tOp r ta tb)):=by
 intro d s f H Q I h
 refine wpAny_isTrue_Compare1 (thn (i d s f H _ I h) fun v s1 ⟨x,H1,I1,r1,q1⟩=>thn (g d s1 f H1 _ I1 q1) fun u s2 ⟨y,H2,I2,r2,q2⟩=>
  thn (j d s2 f H2 x y v u _ I2 r1 r2 q2) fun c s3 ⟨z,H3,I3,r3,k,e,q3⟩=>?_) l
 subst e
 cases r3
 exact Y31 ⟨H3,I3,q3⟩
def Qun(r r':R2)(ta tb tc:TE):TE:=fun σ H Q=>ta σ H fun x H1=>tb σ H1 fun y H2=>r x y H2 fun z H3=>∃k,z=.bl k /\
 (if k=true then tc σ H3 fun w' H4=>r' y w' H4 Q else Q (.bl false) H3)
theorem Qdo{op op':CmpOp}{r r':R2}(n:OpR X (compareOp op) r)(i:OpR X (compareOp op') r')(l:PE X a ta)(j:PE X b tb)(m:PE X c tc)
  (o:lastMarks [op,op'] [b,c]=false:=by with_unfolding_all rfl):PE X (.Compare a [op,op'] [b,c] pos) (Qun r r' ta tb tc):=by
 intro f s g H Q I h
 refine Compare_chain (thn (l f s g H _ I h) fun v s1 ⟨x,H1,I1,r1,q1⟩=>chain_link (thn (j f s1 g H1 _ I1 q1) fun u s2 ⟨y,H2,I2,r2,q2⟩=>
  thn (n f s2 g H2 x y v u _ I2 r1 r2 q2) fun d s3 ⟨z,H3,I3,r3,k,e,q3⟩=>?_)) o
 subst e
 cases r3
 refine Y31 ?_
 cases k with
 |false=>exact ite_ff ⟨.bl false,H3,I3,rfl,q3⟩
 |true=>exact ite_tt (chain_last (thn (m f s3 g H3 _ I3 q3) fun w' s4 ⟨z',H4,I4,r4,q4⟩=>i f s4 g H4 y z' u w' Q I4 r2 r4 q4))
theorem Qdp{op op':CmpOp}{r r':R2}(n:OpR X (compareOp op) r)(i:OpR X (compareOp op') r')(D:PE X a ta)(A:PE X b tb)(C:PE X c tc)
  (t:lastMarks [op,op'] [b,c]=false:=by with_unfolding_all rfl):PT X (.Compare a [op,op'] [b,c] pos) (tTest (Qun r r' ta tb tc)):=by
 intro f s g H Q I h
 refine isTrue_chain (thn (D f s g H _ I h) fun v s1 ⟨x,H1,I1,r1,q1⟩=>test_link (thn (A f s1 g H1 _ I1 q1) fun u s2 ⟨y,H2,I2,r2,q2⟩=>
  thn (n f s2 g H2 x y v u _ I2 r1 r2 q2) fun d s3 ⟨z,H3,I3,r3,k,e,q3⟩=>?_)) t
 subst e
 cases r3
 refine Y31 ?_
 cases k with
 |false=>
  obtain⟨J,m,E⟩:=q3
  cases m
  exact ite_ff ⟨H3,I3,E⟩
 |true=>
  refine ite_tt (test_last (thn (C f s3 g H3 _ I3 q3) fun w' s4 ⟨z',H4,I4,r4,q4⟩=>thn (i f s4 g H4 y z' u w' _ I4 r2 r4 q4) fun G M j=>?_))
  obtain⟨L,p,B,F,K,l,o⟩:=j
  subst l
  cases F
  exact Y31 ⟨p,B,o⟩
theorem Qff:(sizeLine:Nat)<2 ^ 63:=by rw[sizeLine_eq];decide
theorem Xm:OpR X (binaryOp .Add) (fun x y H Q=>∃i j,x=.str i/\y=.str j/\i.length+j.length<=sizeLine/\Q (.str (i++j)) H):=by
 intro a s g H x y v u Q I c e h
 obtain⟨i,j,rfl,rfl,d,q⟩:=h
 obtain⟨t,rfl⟩:=c
 obtain⟨b,rfl⟩:=e
 exact add_str (fun b f=>⟨.str (i++j),H,I.tok _,⟨_,rfl⟩,q⟩) d
theorem vals1{x:V}(r:Vals [x] us):∃u,us=[u]/\RelV x u:=by
 cases r with
 |cons r1 r2=>cases r2;exact⟨_,rfl,r1⟩
theorem vals2{x:V}(r:Vals [x,y] us):∃u w',us=[u,w']/\RelV x u/\RelV y w':=by
 cases r with
 |cons r1 r2=>
  cases r2 with
  |cons r3 r4=>cases r4;exact⟨_,_,rfl,r1,r3⟩
theorem Qaf(c:X.calm=true):Zy X (.builtin "min") (fun xs H Q=>∃i j,xs=[.int i,.int j]/\Q (.int (if j<i then j else i)) H):=by
 intro b s l H xs g Q I r h
 obtain⟨i,j,rfl,q⟩:=h
 obtain⟨u,e,rfl,⟨t,rfl⟩,⟨d,rfl⟩⟩:=vals2 r
 refine min_two_ints (I.ok.hd c) fun m f k=>⟨_,H,I.kept k,?_,q⟩
 by_cases a:j<i
 .rw[Y22 a,Y22 a];exact⟨_,rfl⟩
 .rw[Y20 a,Y20 a];exact⟨_,rfl⟩
theorem Qmr:Zy X (.type "int") (fun xs H Q=>(∃i,xs=[.int i]/\Q (.int i) H)\/∃k,xs=[.bl k]/\Q (.int (if k then 1 else 0)) H):=by
 intro a s c H xs d Q I r h
 rcases h with⟨i,rfl,q⟩ | ⟨k,rfl,q⟩
 .obtain⟨u,rfl,t,rfl⟩:=vals1 r
  exact call_int_int ⟨.int i,H,I,⟨_,rfl⟩,q⟩
 .obtain⟨u,rfl,b⟩:=vals1 r
  cases b
  exact call_int_bool ⟨.int (if k then 1 else 0),H,I.tok _,⟨_,rfl⟩,q⟩
end
structure ObjM(h:Heap)(x dx C:Addr)(mA:Z9):Prop where
 obj:h.get? x=some (PySem.W.instObj C dx)
 ns:h.Ns1 dx mA
 ne:dx≠x
theorem Qms{h:Heap}(n:h.Ns1 dx mA):∃od,h.get? dx=some od/\∀name,PySem.W.lookIn name od=some (mA name):=by
 obtain⟨o,c,l,g,j,d,_,k⟩:=n
 refine⟨o,g,fun name=>?_⟩
 have e:=k name
 unfold nsFind findBy at e
 rw[<-Array.find?_toList]at e
 unfold PySem.W.lookIn
 rw[j]
 dsimp only
 split
 .rename_i y q
  rw[q]at e
  exact congrArg some e
 .rename_i q
  rw[q]at e
  have a:c.toList.any (·.refKey)=false:=by
   rw[List.any_eq_false]
   intro y f
   obtain⟨z,t,b⟩:=d y (Array.mem_toList_iff.mp f)
   simp[DictEntry.refKey,b]
  have i:¬c.toList.any (·.refKey)=true:=by rw[a];exact yQ
  rw[Y20 i]
  exact congrArg some e
theorem ObjM.look{h:Heap}{x:Addr}(I:ObjM h x dx C mA):∃od,PySem.W.InstAt h x (PySem.W.instObj C dx) C (some od)/\∀name,PySem.W.lookIn name od=some (mA name) :=
 let ⟨od,ho,hl⟩:=Qms I.ns
 ⟨od,⟨I.obj,rfl,rfl,ho⟩,hl⟩
section
variable{w:World}{x:Addr}{name:Str}{v:Value}
theorem get_map{Q:VP}(X:K.In s.heap)(I:ObjM s.heap x dx C mA)(f:PySem.W.plainGet K C name=true)(b:PySem.W.hasDictIn K C=true)
  (c:PySem.W.findIn K (.ref C) name=some none) (d:mA name=some v) (a:PySem.W.handedIn v=true) (h:Q v { s with toks:=s.toks+1 }) :
  wpAny (model prog w) A (getAttr (.ref x) name expr) Q E s:=by
 obtain⟨g,J,e⟩:=I.look
 exact PySem.W.get_value X J (PySem.W.plainGet_of f).1 (PySem.W.findObj_own b c rfl (by rw[e,d])) a h
theorem Qqz{pl:Sem Bool}{Q:Value×List Value->Shared->Prop}(X:K.In s.heap)(I:ObjM s.heap x dx C mA)(a:PySem.W.plainGet K C name=true)
  (d:PySem.W.findIn K (.ref C) name=some (some (.ref f))) (g:PySem.W.isFn K (.ref f)=true) (c:mA name=none) (h:Q (.ref f,[.ref x]) s) :
  wpAny (model prog w) A (getMethod (.ref x) name pl) Q E s:=by
 obtain⟨b,J,e⟩:=I.look
 exact PySem.W.method_fn X J (PySem.W.plainGet_of a).1 (PySem.W.plainGet_of a).2 d (beq_iff_eq.mp g) (by show(PySem.W.lookIn name b).map (·.isSome)=some false;rw[e,c];rfl) h
theorem Qvt{Q:Unit->Shared->Prop}(X:K.In s.heap)(I:ObjM s.heap x dx C mA)
  (p:PySem.W.findIn K (.ref C) "__setattr__"=some (some (.builtin "object.__setattr__"))) (q:PySem.W.plainOver K C=true) (l:PySem.W.takerIn K C name=some none) (n:PySem.W.hasDictIn K C=true)
  (k:PySem.Within mA ns) (hsz:ns.length<=sizeLine)
  (h:∀h',ObjM h' x dx C (fun y=>if y=name then some v else mA y)->Heap.SameBut dx s.heap h'->Q () { s with heap:=h',toks:=s.toks+2 }) :
  wpAny (model prog w) A (setAttr (.ref x) name v) Q E s:=by
 obtain⟨z,J,B⟩:=I.look
 refine PySem.W.set_plain X J p (PySem.W.osa_open (s:={ s with toks:=s.toks+1 }) (r:=none) X J q l fun b=>?_)
 obtain⟨D,o,i⟩:=PySem.W.any_some n
 have t:s.heap.get? x=some ⟨.ref C,some dx,.plain,#[]⟩:=I.obj
 refine jQ (jV (jQ (jQ (wpAny_loadPart t (jQ (PySem.W.Looks.here (s:={ s with toks:=s.toks+1 }) (PySem.W.looks_clsIn X o) ?_))))))
 rw[i]
 refine jV (a:=some dx) (jQ (jV (jQ ?_)))
 refine wpAny_nsSet1 (s:={ s with toks:=s.toks+1 }) I.ns fun h' d c=>?_
 obtain⟨u,j,m,f,e,g⟩:=d.count (PySem.Within.cons name v k)
 refine jQ (wpAny_lookBehind f (by rw[e];exact pastItsLine_dict (jQc g (by rw[yZ];lia))) ?_)
 exact jV (h _ ⟨(c.2 _ (Ne.symm I.ne)).trans I.obj,d,I.ne⟩ c)
theorem Qra{vs:List Value}(X:K.In s.heap)(e:PySem.W.makesIn K C=true)
  (b:PySem.W.findIn K (.ref C) "__init__"=some (some (.ref f))) (c:PySem.W.typeIn K (.ref f)=some (.type "function"))
  (h:codeAny (model prog w) (A.under (.builtin "type.__call__" ⟨.ref C::vs,kw⟩)) (.call (.ref f) ⟨.ref (s.heap.objs.size+1)::vs,kw⟩) (PySem.W.InitBack (s.heap.objs.size+1) R)
   { s with heap:=(s.heap.push PySem.W.emptyDict).push (PySem.W.instObj C s.heap.objs.size) }) :
  codeAny (model prog w) A (.call (.ref C) ⟨vs,kw⟩) R s:=by
 obtain⟨j,g,d,t,i⟩:=s
 exact PySem.W.make_core (PySem.W.makes_of X e) (PySem.W.looks_findIn X b) (fun a=>PySem.W.bind_fn X a c) (.inl rfl) h
end
def putF(f:Str)(v:V):List (Str×V)->List (Str×V)
 |[]=>[(f,v)]
 |(g,x)::r=>if g=f then(g,v)::r else(g,x)::putF f v r
theorem Qag(f g:Str)(v:V):∀fs:List (Str×V),(putF f v fs).lookup g=if g=f then some v else fs.lookup g
 |[]=>by
  show List.lookup g [(f,v)]=_
  by_cases h:g=f
  .have a:(g == f)=true:=beq_iff_eq.mpr h
   simp only[List.lookup,a,Y22 h]
  .have a:(g == f)=false:=beq_eq_false_iff_ne.mpr h
   simp only[List.lookup,a,Y20 h]
 |(k,x)::r=>by
  have c:=Qag f g v r
  rw[show putF f v ((k,x)::r)=(if k=f then(k,v)::r else(k,x)::putF f v r)from rfl]
  by_cases b:k=f
  .rw[Y22 b]
   by_cases h:g=k
   .have a:(g == k)=true:=beq_iff_eq.mpr h
    simp only[List.lookup,a,Y22 (h.trans b)]
   .have a:(g == k)=false:=beq_eq_false_iff_ne.mpr h
    simp only[List.lookup,a,Y20 (fun e:g=f=>h (e.trans b.symm))]
  .rw[Y20 b]
   by_cases h:g=k
   .have a:(g == k)=true:=beq_iff_eq.mpr h
    simp only[List.lookup,a,Y20 (fun e:g=f=>b (h.symm.trans e))]
   .have a:(g == k)=false:=beq_eq_false_iff_ne.mpr h
    simp only[List.lookup,a]
    exact c
theorem Qah(f:Str)(v:V):∀fs:List (Str×V),f∈(putF f v fs).map (·.1)/\∀g,g∈fs.map (·.1)->g∈(putF f v fs).map (·.1)
 |[]=>⟨by simp[putF],fun g h=>by simp at h⟩
 |(k,x)::r=>by
  obtain⟨b,c⟩:=Qah f v r
  rw[show putF f v ((k,x)::r)=(if k=f then(k,v)::r else(k,x)::putF f v r)from rfl]
  by_cases a:k=f
  .rw[Y22 a]
   subst a
   exact⟨by simp,fun g h=>by simpa using h⟩
  .rw[Y20 a]
   refine⟨?_,fun g h=>?_⟩
   .rw[zX]
    exact kQ _ b
   .rw[zX]at h⊢
    rcases kZ.mp h with e | e
    .exact kZ.mpr (.inl e)
    .exact kQ _ (c g e)
theorem Ku(f:Str)(v:V):∀fs:List (Str×V),(putF f v fs).length<=fs.length+1
 |[]=>by simp[putF]
 |(k,x)::r=>by
  have b:=Ku f v r
  rw[show putF f v ((k,x)::r)=(if k=f then(k,v)::r else(k,x)::putF f v r)from rfl]
  by_cases a:k=f
  .rw[Y22 a,yZ,yZ];lia
  .rw[Y20 a,yZ,yZ];lia
theorem RelO.some_of{v:V}{o:Option Value}(r:RelO (some v) o):∃u,o=some u/\RelV v u:=by
 cases o with
 |none=>exact(show False from r).elim
 |some u=>exact⟨u,rfl,r⟩
theorem RelO.none_of{o:Option Value}(r:RelO none o):o=none:=by
 cases o with
 |none=>rfl
 |some u=>exact(show False from r).elim
theorem Qfg{v:V}(r:RelV v u):PySem.W.handedIn u=true:=by
 cases v with
 |non=>cases(show u=Value.none from r);rfl
 |bl b=>cases(show u=Value.bool b from r);rfl
 |int i=>obtain⟨t,e⟩:=(show ∃t,u=Value.int i t from r);cases e;rfl
 |str x=>obtain⟨t,e⟩:=(show ∃t,u=Value.str x t from r);cases e;rfl
 |byt b=>obtain⟨t,e⟩:=(show ∃t,u=Value.bytes b t from r);cases e;rfl
 |flt b=>obtain⟨t,e⟩:=(show ∃t,u=Value.float b t from r);cases e;rfl
 |ref a=>cases(show u=Value.ref a from r);rfl
 |ty n=>cases(show u=Value.type n from r);rfl
section
variable{w:World}{h:Heap}{fs:List (Str×V)}
theorem Qhj(b:HOk P w H h)(e:H a=some (.ins C dx fs)):∃mA,ObjM h a dx C mA/\(∀f,RelO (fs.lookup f) (mA f))/\PySem.Within mA (fs.map (·.1))/\fs.length<=1000/\H dx=some (.own a):=by
 obtain⟨d,z,g,c,mA,n,r,q⟩:=(show ObjOk P w H h a (.ins C dx fs)from b a _ e)
 exact⟨mA,⟨c,n,g⟩,r,q,z,d⟩
end
structure Cls(K:Fg)(C:Addr):Prop where
 pg:PySem.W.plainGet K C Str.empty=true
 hd:PySem.W.hasDictIn K C=true
 po:PySem.W.plainOver K C=true
 sa:PySem.W.findIn K (.ref C) "__setattr__"=some (some (.builtin "object.__setattr__"))
theorem Cls.get(c:Cls K C)(f:Str):PySem.W.plainGet K C f=true:=c.pg
def NoAttr(K:Fg)(C:Addr)(f:Str):Prop:=PySem.W.findIn K (.ref C) f=some none
theorem NoAttr.taker{f:Str}(n:NoAttr K C f):PySem.W.takerIn K C f=some none:=by
 unfold PySem.W.takerIn
 rw[show PySem.W.findIn K (.ref C) f=some none from n]
 rfl
structure Meth(K:Fg)(C:Addr)(m:Str)(f:Addr):Prop where
 at_:PySem.W.findIn K (.ref C) m=some (some (.ref f))
 fn:PySem.W.isFn K (.ref f)=true
 kp:PySem.W.keepIn K (.ref f)=true
section
variable{X:Cx}{σ:St}{fs:List (Str×V)}{f:Str}{v:V}
theorem Qkv{b:Bool}{Q:VP}(I:Inv X pins σ H s)(e:H a=some (.ins C dx fs))(c:Cls X.K C)(n:NoAttr X.K C f)(l:fs.lookup f=some v)
  (h:∀u s',Inv X pins σ H s'->RelV v u->Q u s'):wpAny (model X.prog X.w) A (getAttr (.ref a) f b) Q E s:=by
 obtain⟨g,O,r,_,_,_⟩:=Qhj I.hok e
 obtain⟨u,i,d⟩:=RelO.some_of (v:=v) (o:=g f) (by rw[<-l];exact r f)
 exact get_map I.kIn O (c.get f) c.hd n i (Qfg d) (h u _ (I.tok _) d)
theorem Qcm{m:Str}{g:Addr}{pl:Sem Bool}{Q:Value×List Value->Shared->Prop}(I:Inv X pins σ H s)(e:H a=some (.ins C dx fs))(c:Cls X.K C)(k:Meth X.K C m g)(l:fs.lookup m=none)
  (h:Q (.ref g,[.ref a]) s):wpAny (model X.prog X.w) A (getMethod (.ref a) m pl) Q E s:=by
 obtain⟨b,O,r,_,_,_⟩:=Qhj I.hok e
 have d:b m=none:=RelO.none_of (by rw[<-l];exact r m)
 exact Qqz I.kIn O (c.get m) k.at_ k.fn d h
theorem Qkw{Q:Unit->Shared->Prop}(I:Inv X pins σ H s)(e:H a=some (.ins C dx fs))(c:Cls X.K C)(n:NoAttr X.K C f)(F:fs.length<1000)(m:RelV y u)
  (h:∀s',Inv X pins σ (upd H a (.ins C dx (putF f y fs))) s'->Q () s'):wpAny (model X.prog X.w) A (setAttr (.ref a) f u) Q E s:=by
 obtain⟨i,O,r,j,_,k⟩:=Qhj I.hok e
 have p:(fs.map (·.1)).length<=sizeLine:=by rw[jX,sizeLine_eq];lia
 refine Qvt I.kIn O c.sa c.po n.taker c.hd j p fun D d l=>h _ ?_
 have v:∃o,D.get? dx=some o:=let ⟨o,_,_,e',_⟩:=d.ns;⟨o,e'⟩
 refine I.write (x:=a) (e:=dx) (by rw[e];exact True.intro) (.inr k) (fun b q t z=>(l.2 b t).trans z) v ?_
 refine⟨by rw[Qj O.ne];exact k,?_,O.ne,d.obj,_,d.ns,fun g=>?_,fun g B=>?_⟩
 .have:=Ku f y fs;lia
 .show RelO ((putF f y fs).lookup g) (if g=f then some u else i g)
  rw[Qag]
  by_cases q:g=f
  .rw[Y22 q,Y22 q];exact m
  .rw[Y20 q,Y20 q];exact r g
 .by_cases q:g=f
  .rw[q];exact(Qah f y fs).1
  .refine(Qah f y fs).2 g (j g fun z=>B ?_)
   show(if g=f then some u else i g)=none
   rw[Y20 q];exact z
theorem Inv.made(I:Inv X pins σ H s):Inv X pins σ (upd (upd H s.heap.objs.size (.own (s.heap.objs.size+1))) (s.heap.objs.size+1) (.ins C s.heap.objs.size []))
  { s with heap:=(s.heap.push PySem.W.emptyDict).push (PySem.W.instObj C s.heap.objs.size) }:=by
 have d:(s.heap.push PySem.W.emptyDict).get? s.heap.objs.size=some PySem.W.emptyDict:=yY s.heap rfl
 have j:((s.heap.push PySem.W.emptyDict).push (PySem.W.instObj C s.heap.objs.size)).get? (s.heap.objs.size+1)=some (PySem.W.instObj C s.heap.objs.size):=by
  have:=yY (s.heap.push PySem.W.emptyDict) (o:=PySem.W.instObj C s.heap.objs.size) rfl
  rwa [jZb]at this
 have i:(s.heap.push PySem.W.emptyDict).Ns s.heap.objs.size (fun _=>none):=⟨PySem.W.emptyDict,#[],_,d,rfl,(fun e f=>Y21 f (by simp)),fun _=>rfl⟩
 have g:=I.laid (a:=s.heap.objs.size) (o:=.own (s.heap.objs.size+1)) (h':=s.heap.push PySem.W.emptyDict) (t':=s.toks) (fun b u q=>jZ _ q) (jK _) ⟨_,d⟩
 refine g.laid (a:=s.heap.objs.size+1) (o:=.ins C s.heap.objs.size []) (t':=s.toks) (fun b u q=>jZ _ q) (Nat.le_of_eq (jZb _ _)) ?_
 have c:s.heap.objs.size≠s.heap.objs.size+1:=zW (Nat.lt_succ_self _)
 refine⟨by rw[Qj c,Qc],xW _,c,j,fun _=>none,(Heap.Ns1.of_empty i).at fun o q=>jZ _ q,fun _=>True.intro,fun y k=>Y21 rfl k⟩
theorem Qmt{w:World}{env:Env}{Q:VP}(a:attributeBase e f env (eval e env)=eval e env)
  (h:wpAny (model prog w) A (eval e env) (fun o s₁=>wpAny (model prog w) A (getAttr o f true) Q E s₁) E s):wpAny (model prog w) A (eval (.Attribute e f pos) env) Q E s :=
 Attribute_any_ h (by rw[arm_eval_Attribute,a])
end
def tFld(K:Fg)(ta:TE)(f:Str):TE:=fun σ H Q=>ta σ H fun x H1=>∃a C dx fs v,x=.ref a/\H1 a=some (.ins C dx fs)/\Cls K C/\NoAttr K C f/\fs.lookup f=some v/\Q v H1
def sFld(K:Fg)(ta tv:TE)(f:Str):TS:=fun D σ H=>tv σ H fun y H1=>ta σ H1 fun x H2=>∃a C dx fs,x=.ref a/\H2 a=some (.ins C dx fs)/\Cls K C/\NoAttr K C f/\fs.length<1000 /\
 D.nx σ (upd H2 a (.ins C dx (putF f y fs)))
section
variable{X:Cx}{o value:Expr}{f:Str}{ta tv:TE}
theorem Yn(he:PE X e ta)(g:attributeBase e f X.env (eval e X.env)=eval e X.env):PE X (.Attribute e f pos) (tFld X.K ta f):=by
 intro b s p H Q I h
 refine Qmt g (thn (he b s p H _ I h) fun u z d=>?_)
 obtain⟨x,r,j,i,a,C,t,fs,v,ex,o,c,n,l,q⟩:=d
 subst ex
 obtain rfl:u=Value.ref a:=i
 exact Qkv j o c n l fun y w k m=>⟨v,r,k,m,q⟩
theorem Qai(j:PE X o ta)(m:PE X value tv)(g:swapsWith value (some (.Attribute o f pos')) pos.line X.env=pure false):PS X (.Assign [.Attribute o f pos'] value pos) (sFld X.K ta tv f):=by
 intro b s e H D I h
 refine plainObj_wpAny_Assign_Attribute (thn (m b s e H _ I h) fun u s1 ⟨y,H1,I1,ry,q⟩=>thn (j b s1 e H1 _ I1 q) fun p B d=>?_) g
 obtain⟨x,z,k,i,a,C,A,fs,ex,r,c,n,l,v⟩:=d
 subst ex
 obtain rfl:p=Value.ref a:=i
 exact Qkw k r c n l ry fun w t=>⟨e,_,t,v⟩
end
structure Room(k:Nat)(A:Around):Prop where
 hd:A.handled=none
 dp:A.depth+3*k+5<recursionLimit
 un:A.units+16*k+200<cLine
theorem Room.mono{k:Nat}(r:Room k A)(h:j<=k):Room j A:=⟨r.hd,by have:=r.dp;lia,by have:=r.un;lia⟩
theorem Room.deeper{k:Nat}(r:Room (k+1) A)(env:Env):Room k (A.deeper env) :=
 ⟨r.hd,by have:=r.dp;show A.depth+1+3*k+5<_;lia,by have:=r.un;show A.units+3+16*k+200<_;lia⟩
theorem Qkx:(A.under (.builtin "type.__call__" ⟨.ref C::us,kw⟩)).depth=A.depth+1:=by
 first | rfl | simp[Around.under,Code.weight,Code.isCreation,Code.isGuard,Code.isCaller,Code.frames,Code.isFrame,guardIds]
theorem Qky:(A.under (.builtin "type.__call__" ⟨.ref C::us,kw⟩)).units=A.units+1:=by
 first | rfl | simp[Around.under,Code.cUnits,Code.frames,Code.isFrame]
theorem Room.make{k:Nat}(r:Room (k+1) A)(C:Addr)(us:List Value)(a:List (Str×Value)):Room k (A.under (.builtin "type.__call__" ⟨.ref C::us,a⟩)) :=
 ⟨r.hd,by have:=r.dp;rw[Qkx];lia,by have:=r.un;rw[Qky];lia⟩
theorem Room.depth{k:Nat}(r:Room k A):A.depth<recursionLimit:=by have:=r.dp;lia
theorem Room.units{k:Nat}(r:Room k A):A.units+64<cLine:=by have:=r.un;lia
def tNil:TA:=fun _ H Q=>Q [] H
def tCons(ta:TE)(tr:TA):TA:=fun σ H Q=>ta σ H fun x H1=>tr σ H1 fun xs H2=>Q (x::xs) H2
section
variable{X:Cx}{te:TE}{t:TA}
theorem Qf:PA X [] tNil:=fun _ _ _ _ H Q I h=>Calls.spliced_nil ⟨[],H,I,.nil,h⟩
theorem Qa(k:PE X e te)(i:PA X es t)(g:autoParam (starEach (e::es) X.env=(false,eval e X.env)::starEach es X.env) J1._auto_1):PA X (e::es) (tCons te t):=by
 intro b a s d H Q I h
 rw[g]
 show wpAny _ _ (spliced ((false,eval e X.env)::backTo b (starEach es X.env))) _ _ s
 refine Y57 (thn (k a s d H _ I h) fun u n c=>?_)
 obtain⟨x,m,j,l,f⟩:=c
 exact thn (i b a n d m _ j f) fun us s2 ⟨xs,H2,I2,r2,q2⟩=>⟨x::xs,H2,I2,.cons l r2,q2⟩
def tTup(t:TA):TE:=fun σ H Q=>t σ H fun xs H1=>xs.length<=sizeLine/\∀p,H1 p=none->Q (.ref p) (upd H1 p (.tup xs))
def tLst(t:TA):TE:=fun σ H Q=>t σ H fun xs H1=>xs.length<=sizeLine/\∀p,H1 p=none->Q (.ref p) (upd H1 p (.lst xs))
theorem Yy{x1}(h:PA X es t):PE X (.Tuple es x1 pos) (tTup t):=by
 intro a s c H Q I f
 refine wpAny_Tuple_spliced (thn (h pos a s c H _ I f) fun us s1 ⟨xs,H1,I1,r,z,q⟩=>⟨by rw[<-r.length];exact z,?_⟩)
 have d:H1 s1.heap.objs.size=none:=I1.hok.fresh (jK _)
 refine⟨.ref s1.heap.objs.size,upd H1 s1.heap.objs.size (.tup xs),I1.laid (t':=s1.toks) (fun b u e=>jZ _ e) (jK _) ?_,rfl,q _ d⟩
 exact⟨z,us,r,⟨_,yY _ rfl,rfl,_,rfl⟩⟩
theorem Xd(h:PA X es t):PE X (.List es pos) (tLst t):=by
 intro a s c H Q I f
 refine wpAny_List_spliced (thn (h pos a s c H _ I f) fun us s1 ⟨xs,H1,I1,r,z,q⟩=>⟨by rw[<-r.length];exact z,?_⟩)
 have d:H1 s1.heap.objs.size=none:=I1.hok.fresh (jK _)
 refine⟨.ref s1.heap.objs.size,upd H1 s1.heap.objs.size (.lst xs),I1.laid (t':=s1.toks) (fun b u e=>jZ _ e) (jK _) ?_,rfl,q _ d⟩
 exact⟨z,us,0,r,yY _ rfl⟩
end
abbrev Sp:=List V->Hp->VK->XK->Prop
abbrev CXT:=List Env->Hp->Shared->XK->Value->Shared->Prop
structure Env0(P:Program)(w:World)(K:Fg)(mg:Z9)(base:Heap)(A:Around)(outer:List Env)(s:Shared)(H:Hp):Prop where
 frames:A.frames=some outer
 mod:Mod K mg base
 bs:∀b o,base.get? b=some o->s.heap.get? b=some o/\H b=none
 bsz:base.objs.size<=s.heap.objs.size
 funs:s.heap.FunFrames base outer
 frf:∀b∈frs outer,H b=none
 hok:HOk P w H s.heap
 bare:AllBare s.gens
def CE(outer:List Env)(P:Program)(w:World)(H:Hp)(s:Shared)(Q:VK)(u:Value)(s':Shared):Prop :=
 ∃v H',s'.os=s.os/\AllBare s'.gens/\Un (frs outer) [] H H' s.heap s'.heap/\HOk P w H' s'.heap/\RelV v u/\Q v H'
def CR(CX:CXT)(outer:List Env)(P:Program)(w:World)(H:Hp)(s:Shared)(Q:VK)(E:XK)(r:Result)(s':Shared):Prop :=
 match r with
 |.ok (.ret u)=>CE outer P w H s Q u s'
 |.ok _=>False
 |.error e=>CX outer H s E e s'
structure FnOk(P:Program)(w:World)(K:Fg)(mg:Z9)(base:Heap)(CX:CXT)(k:Nat)(f:Addr)(fd:FuncData)(ps:List Str)(sp:Sp):Prop where
 len:∀vs H Q E,sp vs H Q E->vs.length=ps.length
 run:∀(A:Around) (outer:List Env) (s:Shared) (H:Hp) (args:Args) (us:List Value) (vs:List V) (Q:VK) (E:XK),Room k A->Env0 P w K mg base A outer s H->BindsTo s fd args (ps.zip us)->Vals vs us->sp vs H Q E ->
  codeAny (model P w) A (.call (.ref f) args) (CR CX outer P w H s Q E) s
theorem Env0.make{w:World}(e:Env0 P w K mg base A outer s H)(C:Addr)(us:List Value)(a:List (Str×Value)) :
  Env0 P w K mg base (A.under (.builtin "type.__call__" ⟨.ref C::us,a⟩)) outer s H:=⟨by first | exact e.frames | (simpa[Around.under,Code.envs,Code.isFrame,pushEnvs]using e.frames),e.mod,e.bs,e.bsz,e.funs,e.frf,e.hok,e.bare⟩
section
variable{X:Cx}{σ:St}
theorem Inv.env0(I:Inv X pins σ H s):Env0 X.prog X.w X.K X.mg X.base X.A X.stack s H :=
 ⟨I.ok.frames,I.ok.mod,I.bs,jQc I.ok.bsz I.sz,I.stack,I.stkFree,I.hok,I.bare⟩
theorem Inv.after{Q:VK}(I:Inv X pins σ H s)(h:CE X.stack X.prog X.w H s Q u s'):EP X pins σ Q u s':=by
 obtain⟨v,j,f,a,un,c,r,q⟩:=h
 obtain⟨i,g,d,t,e⟩:=s'
 obtain rfl:e=s.os:=f
 exact⟨v,j,I.call (h':=i) (g':=g) (d':=d) (t':=t) (ch:=[]) un c a (fun b z=>Y21 z (by simp)),r,q⟩
end
def Qvu(sp:Sp)(dvs:List V)(E:XK)(t:TA):TE:=fun σ H Q=>t σ H fun vs H1=>sp (vs++dvs) H1 Q E
def tMeth(C:Addr)(m:Str)(sp:Sp)(dvs:List V)(E:XK)(ta:TE)(t:TA):TE:=fun σ H Q=>ta σ H fun x H1=>∃a dx fs,x=.ref a/\H1 a=some (.ins C dx fs)/\fs.lookup m=none /\
 t σ H1 fun vs H2=>sp (x::(vs++dvs)) H2 Q E
def tMake(C:Addr)(sp:Sp)(dvs:List V)(E:XK)(t:TA):TE:=fun σ H Q=>t σ H fun vs H1=>∀x dx,H1 x=none->H1 dx=none->dx≠x ->
 sp (.ref x::(vs++dvs)) (upd (upd H1 dx (.own x)) x (.ins C dx [])) (fun v H2=>v=.non/\Q (.ref x) H2) E
def Binds(K:Fg)(fd:FuncData)(ps:List Str)(ds:List Value):Prop :=
 ∀(s:Shared) (us:List Value),K.In s.heap->(us++ds).length=ps.length->BindsTo s fd ⟨us,[]⟩ (ps.zip (us++ds))
theorem Binds.all{ps:List Str}(h:∀us:List Value,us.length=ps.length->bindArgs fd ⟨us,[]⟩=pure (ps.zip us)):Binds K fd ps []:=fun s us _ a=>by
 rw[xX]at a⊢
 exact .of_eq (h us a)
def Wo(CX:CXT)(X:Cx)(E:XK):Prop:=∀(pins:Z8) (σ:St) (H:Hp) (s:Shared) (e:Value) (s':Shared),Inv X pins σ H s->CX X.stack H s E e s'->X.xe e s'
section
variable{X:Cx}{CX:CXT}{k:Nat}{ps:List Str}{sp:Sp}{dvs:List V}{ds:List Value}{E:XK}{m:Str}{p:Pos}{o:Expr}{ta:TE}{t:TA}
theorem Qmu{σ:St}{Q:VK}(F:FnOk X.prog X.w X.K X.mg X.base CX k f fd ps sp)(c:Room k X.A)(d:Binds X.K fd ps ds)(l:Vals dvs ds)(g:Wo CX X E)
  (I:Inv X pins σ H s) (r:Vals vs us) (h:sp (vs++dvs) H Q E):wpAny (model X.prog X.w) X.A (call (.ref f) us) (EP X pins σ Q) X.xe s:=by
 have b:Vals (vs++dvs) (us++ds):=r.append l
 have j:(us++ds).length=ps.length:=by rw[<-b.length];exact F.len _ _ _ _ h
 refine wpAny_call (Y49 (F.run X.A X.stack s H ⟨us,[]⟩ (us++ds) (vs++dvs) Q E c I.env0 (d s us I.kIn j) b h) fun r i a=>?_)
 cases r with
 |error e=>exact g pins σ H s e i I a
 |ok fl=>
  cases fl with
  |ret u=>exact I.after a
  |next=>exact False.elim a
  |brk=>exact False.elim a
  |cont=>exact False.elim a
theorem Qmv(F:FnOk X.prog X.w X.K X.mg X.base CX k f fd ps sp)(i:Room k X.A)(n:Gl X x)(u:X.mg x=some (.ref f))(d:PySem.W.keepIn X.K (.ref f)=true)(g:Binds X.K fd ps ds)(o:Vals dvs ds)(l:Wo CX X E)
  (j:PA X (e::es) t) (c:autoParam ((x == ("__debug__":Str))=false) J2._auto_1) (he:autoParam (starEach (e::es) X.env=(false,eval e X.env)::starEach es X.env) J1._auto_1) (b:autoParam ((backTo pos (starEach es X.env)).any (·.1)=false) J1._auto_1) :
  PE X (.Call (.Name x p) (e::es) [] pos) (Qvu sp dvs E t):=by
 intro a s m H Q I h
 refine Y41 (Vz I n u ?_ c)
 refine PySem.W.callWith_K (h₀:=X.base) I.ok.mod.kin d (thn (j pos a s m H _ I h) fun us s1 ⟨vs,H1,I1,r,q⟩=>⟨I1.kIn,?_⟩) he b
 exact Qmu F i g o l I1 r q
theorem Zd{pl:Sem Bool}(he:PE X o ta)(c:Cls X.K C)(j:Meth X.K C m f)(F:FnOk X.prog X.w X.K X.mg X.base CX k f fd ps sp)(z:Room k X.A)(v:Binds X.K fd ps ds)(M:Vals dvs ds)(G:Wo CX X E)(B:PA X (e::es) t)
  (i:autoParam (starEach (e::es) X.env=(false,eval e X.env)::starEach es X.env) J1._auto_1) (d:autoParam ((backTo pos (starEach es X.env)).any (·.1)=false) J1._auto_1)
  (D:eval (.Call (.Attribute o m apos) (e::es) [] pos) X.env=(do
   let ov ← eval o X.env
   standAt apos.atName
   let (f,first) ← holding [ov] (getMethod ov m pl)
   callWith pos f first (backTo pos (starEach (e::es) X.env)) (backToKw pos (keywordEach [] X.env))):=by rfl) :
  PE X (.Call (.Attribute o m apos) (e::es) [] pos) (tMeth C m sp dvs E ta t):=by
 intro b s p H Q I h
 refine PySem.W.methodCall_KW (pl:=pl) (thn (he b s p H _ I h) fun u N g=>?_) D
 obtain⟨x,L,n,y,a,O,fs,ex,J,l,q⟩:=g
 subst ex
 obtain rfl:u=Value.ref a:=y
 refine Qcm n J c j l ?_
 refine PySem.W.callWith_K (first:=[.ref a]) (h₀:=X.base) I.ok.mod.kin j.kp (thn (B pos b N p L _ n q) fun us s2 ⟨vs,H2,I2,r,q2⟩=>⟨I2.kIn,?_⟩) i d
 exact Qmu (us:=.ref a::us) (vs:=.ref a::vs) F z v M G I2 (.cons rfl r) q2
theorem Qrb{pl:Sem Bool}(he:PE X o ta)(c:Cls X.K C)(g:Meth X.K C m f)(F:FnOk X.prog X.w X.K X.mg X.base CX k f fd ps sp)(n:Room k X.A)(i:Binds X.K fd ps ds)(y:Vals dvs ds)(p:Wo CX X E)
  (v:eval (.Call (.Attribute o m apos) [] [] pos) X.env=(do
   let ov ← eval o X.env
   standAt apos.atName
   let (f,first) ← holding [ov] (getMethod ov m pl)
   callWith pos f first (backTo pos (starEach [] X.env)) (backToKw pos (keywordEach [] X.env))):=by rfl) :
  PE X (.Call (.Attribute o m apos) [] [] pos) (tMeth C m sp dvs E ta tNil):=by
 intro b s t H Q I h
 refine PySem.W.methodCall_KW (pl:=pl) (thn (he b s t H _ I h) fun u D e=>?_) v
 obtain⟨x,B,d,j,a,z,fs,ex,r,l,q⟩:=e
 subst ex
 obtain rfl:u=Value.ref a:=j
 refine Qcm d r c g l ?_
 exact PySem.W.callWith_K0 (first:=[.ref a]) d.kIn g.kp (Qmu (us:=[.ref a]) (vs:=[.ref a]) F n i y p d (.cons rfl .nil) q)
structure Mk(K:Fg)(C f:Addr):Prop where
 makes:PySem.W.makesIn K C=true
 init:PySem.W.findIn K (.ref C) "__init__"=some (some (.ref f))
 fn:PySem.W.isFn K (.ref f)=true
 kp:PySem.W.keepIn K (.ref C)=true
theorem Qrc{σ:St}{Q:VK}(M:Mk X.K C f)(F:FnOk X.prog X.w X.K X.mg X.base CX k f fd ps sp)(g:Room (k+1) X.A)(i:Binds X.K fd ps ds)(y:Vals dvs ds)
  (m:Wo CX X E) (I:Inv X pins σ H s) (r:Vals vs us)
  (h:∀x dx,H x=none->H dx=none->dx≠x->sp (.ref x::(vs++dvs)) (upd (upd H dx (.own x)) x (.ins C dx [])) (fun v H2=>v=.non/\Q (.ref x) H2) E) :
  wpAny (model X.prog X.w) X.A (call (.ref C) us) (EP X pins σ Q) X.xe s:=by
 have d:=h (s.heap.objs.size+1) s.heap.objs.size (I.hok.fresh (Nat.le_succ _)) (I.hok.fresh (jK _)) (zW (Nat.lt_succ_self _))
 have b:=Inv.made (C:=C) I
 have c:Vals (V.ref (s.heap.objs.size+1)::(vs++dvs)) (Value.ref (s.heap.objs.size+1)::(us++ds)):=.cons rfl (r.append y)
 have t:(Value.ref (s.heap.objs.size+1)::us++ds).length=ps.length:=by
  have e:=c.length
  rw[F.len _ _ _ _ d]at e
  exact e.symm
 refine wpAny_call (Qra (f:=f) I.kIn M.makes M.init (beq_iff_eq.mp M.fn) (Y49 (F.run _ X.stack _ _ ⟨Value.ref (s.heap.objs.size+1)::us,[]⟩ (Value.ref (s.heap.objs.size+1)::(us++ds)) _ _ E (g.make C us [])
  (b.env0.make C us []) (i _ (Value.ref (s.heap.objs.size+1)::us) b.kIn t) c d) fun r o a=>?_))
 cases r with
 |error e=>exact m pins σ _ _ e o b a
 |ok fl=>
  cases fl with
  |ret u=>
   obtain⟨v,n,q,j,p,l⟩:=b.after a
   subst p
   exact⟨j,⟨V.ref (s.heap.objs.size+1),n,q,rfl,l⟩⟩
  |next=>exact False.elim a
  |brk=>exact False.elim a
  |cont=>exact False.elim a
theorem Qhk(M:Mk X.K C f)(F:FnOk X.prog X.w X.K X.mg X.base CX k f fd ps sp)(g:Room (k+1) X.A)(m:Gl X x)(o:X.mg x=some (.ref C))(d:Binds X.K fd ps ds)(n:Vals dvs ds)(j:Wo CX X E)
  (i:PA X (e::es) t) (c:autoParam ((x == ("__debug__":Str))=false) J2._auto_1) (he:autoParam (starEach (e::es) X.env=(false,eval e X.env)::starEach es X.env) J1._auto_1) (b:autoParam ((backTo pos (starEach es X.env)).any (·.1)=false) J1._auto_1) :
  PE X (.Call (.Name x p) (e::es) [] pos) (tMake C sp dvs E t):=by
 intro a s l H Q I h
 refine Y41 (Vz I m o ?_ c)
 refine PySem.W.callWith_K (h₀:=X.base) I.ok.mod.kin M.kp (thn (i pos a s l H _ I h) fun us s1 ⟨vs,H1,I1,r,q⟩=>⟨I1.kIn,?_⟩) he b
 exact Qrc M F g d n j I1 r q
end
structure FnScope(N P:List Str)(sc:Scope):Prop where
 kind:sc.kind=.function
 co:sc.isCoroutine=false
 gen:sc.isGenerator=false
 nd:N.Nodup
 pre:N.take P.length=P
 par:∀x∈P,sc.names.lookup x=some .local\/sc.names.lookup x=some .cell
 nofree:∀y∈sc.names,y.2≠.free
theorem Qfh{kindOf:Str->Option NameKind}{x:Str}:∀{binds:List (Str×Value)} {m:Z9},(∀v,(x,v)∉binds)->bindL kindOf binds m x=m x
 |[],_,_=>rfl
 |(n,v)::r,m,h=>by
  unfold bindL
  rw[Qfh fun w a=>h w (kQ _ a)]
  split
  .have:x≠n:=by rintro rfl;exact h v jY
   simp[this]
  .rfl
theorem Qfi{kindOf:Str->Option NameKind}{x:Str}:∀{binds:List (Str×Value)} {m:Z9},(∀v,(x,v)∉binds)->bindC kindOf binds m x=m x
 |[],_,_=>rfl
 |(n,v)::r,m,h=>by
  unfold bindC
  rw[Qfi fun w a=>h w (kQ _ a)]
  split
  .rfl
  .have:x≠n:=by rintro rfl;exact h v jY
   simp[this]
theorem Qfj{kindOf:Str->Option NameKind}{x:Str}{v:Value}:∀{P:List Str} {vs:List Value} {i:Nat} {m:Z9},P.Nodup->P[i]?=some x->vs[i]?=some v->kindOf x=some .local ->
  bindL kindOf (P.zip vs) m x=some v
 |[],_,_,_,_,h,_,_=>by simp at h
 |_::_,[],_,_,_,_,h,_=>by simp at h
 |p::P,w::vs,0,m,nd,h1,h2,hk=>by
  simp at h1 h2;subst h1;subst h2
  show bindL kindOf ((p,w)::P.zip vs) m p=_
  unfold bindL
  rw[Qfh fun v a=>(kQa.mp nd).1 (List.of_mem_zip a).1,Y22 hk]
  simp
 |p::P,w::vs,i+1,m,nd,h1,h2,hk=>by
  show bindL kindOf ((p,w)::P.zip vs) m x=_
  unfold bindL
  exact Qfj (i:=i) (kQa.mp nd).2 (by simpa using h1) (by simpa using h2) hk
theorem Qfk{kindOf:Str->Option NameKind}{x:Str}{v:Value}:∀{P:List Str} {vs:List Value} {i:Nat} {m:Z9},P.Nodup->P[i]?=some x->vs[i]?=some v->kindOf x≠some .local ->
  bindC kindOf (P.zip vs) m x=some v
 |[],_,_,_,_,h,_,_=>by simp at h
 |_::_,[],_,_,_,_,h,_=>by simp at h
 |p::P,w::vs,0,m,nd,h1,h2,hk=>by
  simp at h1 h2;subst h1;subst h2
  show bindC kindOf ((p,w)::P.zip vs) m p=_
  unfold bindC
  rw[Qfi fun v a=>(kQa.mp nd).1 (List.of_mem_zip a).1,Y20 hk]
  simp
 |p::P,w::vs,i+1,m,nd,h1,h2,hk=>by
  show bindC kindOf ((p,w)::P.zip vs) m x=_
  unfold bindC
  exact Qfk (i:=i) (kQa.mp nd).2 (by simpa using h1) (by simpa using h2) hk
def start(N:List Str)(vs:List V):St:=vs.map some++List.replicate (N.length-vs.length) none
def cxOf(CX:CXT)(P:Program)(w:World)(K:Fg)(mg:Z9)(base:Heap)(N:List Str)(qual:Str)(scope:Scope)(f:Addr)(cd:Value)(A:Around)(outer:List Env)(s:Shared)(H:Hp)(E:XK):Cx where
 prog:=P
 w:=w
 K:=K
 mg:=mg
 base:=base
 A:=A.deeper (envOfC qual scope s.heap.objs.size f cd)
 N:=N
 s₀:=s
 H₀:=H
 env:=envOfC qual scope s.heap.objs.size f cd
 outer:=outer
 stack:=envOfC qual scope s.heap.objs.size f cd::outer
 ex:=[]
 calm:=true
 fn:=fun _=>true
 pn:=[]
 xe:=fun e s'=>wpAny (model P w) (A.deeper (envOfC qual scope s.heap.objs.size f cd)) (leaving (envOfC qual scope s.heap.objs.size f cd) e) (fun _ s''=>CX outer H s E e s'') (fun e' s''=>CX outer H s E e' s'') s'
theorem Qjc{sc:Scope}{n:Nat}(h:sc.names.lookup x=some .cell):∃c,(cellsFrom n sc.names []).lookup x=some c:=by
 have q:=PySem.W.cellsFrom_some sc.names n [] (.inl h)
 exact jJb.mp q
theorem Qmw{CX:CXT}{w:World}{ps:List Str}{cd:Value}{s1:Shared}{E:XK}
  (S:FnScope N ps scope) (I:A.handled=none) (g:Env0 P w K mg base A outer s H) (M:vs.length=ps.length) (r:Vals vs us)
  (x:InCallC s s.heap.objs.size (bindL (envOfC qual scope s.heap.objs.size f cd).kindOf (ps.zip us) fun _=>none) (cellsFrom (s.heap.objs.size+1) scope.names []) (bindC (envOfC qual scope s.heap.objs.size f cd).kindOf (ps.zip us) fun _=>none) s1) :
  Inv (cxOf CX P w K mg base N qual scope f cd A outer s H E) [] (start N vs) H s1:=by
 have D:ps.length<=N.length:=by have:=congrArg List.length S.pre;rw[xJ]at this;lia
 obtain⟨o,L,rfl,B⟩:=x.done
 have j:∀b:Addr,b∉(cxOf CX P w K mg base N qual scope f cd A outer s H E).ex:=fun b z=>Y21 (show b∈([]:List Addr)from z) (by simp)
 refine⟨⟨g.mod,S.kind,rfl,rfl,jK _,fun y z c o d=>?_,fun y hy=>?_,fun y c _ h=>?_,fun _=>I,Around.frames_deeper g.frames,.inr ⟨rfl,rfl⟩,fun b z=>Y21 z (j b),g.bs,g.bsz,fun b _ _=>j b,fun b z=>Y21 z (j b),g.funs,g.frf⟩,
  rfl,g.bare,Un.kept B,⟨_,x.toInCall.ns,fun i y v o d J=>?_⟩,fun y c h=>⟨_,x.cell y c h⟩,g.hok.fresh (jK _),fun y c h=>?_,fun p l=>Y21 (show p∈([]:Z8)from l) (by simp),g.hok.kept B,?_⟩
 .exact name_of_addr x.apart (PySem.mem_of_lookup o) (PySem.mem_of_lookup d)
 .have hy:scope.names.lookup y=some .cell\/scope.names.lookup y=some .free:=hy
  rcases hy with hy | hy
  .exact Qjc hy
  .exact Y21 rfl (S.nofree _ (PySem.mem_of_lookup hy))
 .exact Nat.le_of_lt (x.above y c (PySem.mem_of_lookup h))
 .have t:i<vs.length:=by
   unfold start at d
   by_cases t:i<vs.length
   .exact t
   .rw[jJf (by simpa using t)]at d
    rw[List.getElem?_replicate]at d
    split at d<;>cases d
  have G:vs[i]?=some v:=by
   unfold start at d
   rw[jXc (by simpa using t),yW]at d
   cases e:vs[i]? with
   |none=>rw[e]at d;cases d
   |some a=>rw[e]at d;cases d;rfl
  obtain⟨u,C,F⟩:=r.get G
  have l:ps[i]?=some y:=by
   rw[<-S.pre,List.getElem?_take_of_lt Om];exact o
  have m:ps.Nodup:=by rw[<-S.pre];exact S.nd.sublist (List.take_sublist _ _)
  refine⟨u,F,?_⟩
  rcases S.par y (kW l)with k | k
  .exact .inl ⟨k,Qfj m l C k⟩
  .obtain⟨c,e⟩:=Qjc (n:=s.heap.objs.size+1) k
   refine .inr ⟨.inl k,c,e,?_⟩
   have q:=x.cell y c e
   rw[Qfk m l C (by show scope.names.lookup y≠_;rw[k];decide)]at q
   exact q
 .exact g.hok.fresh (Nat.le_of_lt (x.above y c (PySem.mem_of_lookup h)))
 .unfold start
  show _=N.length
  rw[jJ,jX,kYf]
  lia
theorem fn_of{CX:CXT}{w:World}{k:Nat}{name:Str}{params:Arguments}{body:List Stmt}{dV kV:Value}
   {ps:List Str} {sp:Sp} (O:K.lookup f=some ⟨oc,od,.func (PySem.W.fnOf name qual params body scope dV kV doc pm an cdv ct),osl⟩) (l:PySem.W.codeIn K cdv qual=true) (S:FnScope N ps scope)
  (h:∀vs H Q E,sp vs H Q E->vs.length=ps.length)
  (c:∀(A:Around) (outer:List Env) (s:Shared) (H:Hp) (vs:List V) (Q:VK) (E:XK),Room k (A.deeper (envOfC qual scope s.heap.objs.size f cdv))->sp vs H Q E ->
   ∃t,PSs (cxOf CX P w K mg base N qual scope f cdv A outer s H E) body t/\t { nx:=fun _ H'=>Q .non H',rt:=Q } (start N vs) H) :
  FnOk P w K mg base CX (k+1) f (PySem.W.fnOf name qual params body scope dV kV doc pm an cdv ct) ps sp:=by
 refine⟨h,fun A outer s H D R vs Q E m j X r i=>?_⟩
 have T:=h _ _ _ _ i
 have C:K.In s.heap:=j.mod.kin.keeps fun b o e=>(j.bs b o e).1
 have B:s.heap.NoLimit:=j.mod.nolimit.keeps fun b o e=>(j.bs b o e).1
 have d:∀y∈ps.zip R,scope.names.lookup y.1=some .local\/(scope.names.lookup y.1=some .cell/\((cellsFrom (s.heap.objs.size+1) scope.names []).lookup y.1).isSome=true):=fun⟨n,v⟩ L=>by
  rcases S.par n (List.of_mem_zip L).1 with q | q
  .exact .inl q
  .exact .inr ⟨q,PySem.W.cellsFrom_some _ _ _ (.inl q)⟩
 refine codeAny_call_function m.depth (C _ _ O) rfl S.co S.gen rfl (PySem.W.codeRec_of C l) (X _ _ _ _ ?_)
 refine wpAny_newFunctionEnv_cells S.kind d fun Y G F x=>?_
 subst G
 refine⟨B.keeps x.toInCall.keep,codeAny_func ?_⟩
 obtain⟨t,M,U⟩:=c A outer s H vs Q E (m.deeper _) i
 have I:Inv (cxOf CX P w K mg base N qual scope f cdv A outer s H E) [] (start N vs) H F:=Qmw S m.hd j T r x
 refine Y29 (M [] F (start N vs) H _ I U) (fun fl z g=>?_) fun e z g=>g
 have fin:∀{a:St} {H':Hp} {v:V} {u:Value},Inv (cxOf CX P w K mg base N qual scope f cdv A outer s H E) [] a H' z->RelV v u->Q v H'->CE outer P w H s Q u z :=
  fun{a H' v u} J p q=>⟨v,H',J.os,J.bare,J.base,J.hok,p,q⟩
 cases fl with
 |ret u=>
  obtain⟨v,a,H',J,p,q⟩:=g
  exact fin J p q
 |next=>
  obtain⟨a,H',J,q⟩:=g
  exact fin (v:=V.non) (u:=Value.none) J rfl q
 |brk=>
  obtain⟨_,_,_,q⟩:=g
  exact False.elim q
 |cont=>
  obtain⟨_,_,_,q⟩:=g
  exact False.elim q
section
variable{X:Cx}{p:Pos}{t:TA}{id T:String}{r:List V->Hp->VK->Prop}
def tCB(r:List V->Hp->VK->Prop)(t:TA):TE:=fun σ H Q=>t σ H fun vs H1=>r vs H1 Q
theorem Qt(l:Zy X (.builtin id) r)(j:Gl X x)(f:X.mg x=none)(i:bootBuiltins x=some (.builtin id))(g:PA X (e::es) t)(k:autoParam (x≠"__name__") J2._auto_1)(c:autoParam ((x == ("__debug__":Str))=false) J2._auto_1)
  (he:autoParam (starEach (e::es) X.env=(false,eval e X.env)::starEach es X.env) J1._auto_1) (b:autoParam ((backTo pos (starEach es X.env)).any (·.1)=false) J1._auto_1):PE X (.Call (.Name x p) (e::es) [] pos) (tCB r t):=by
 intro a s d H Q I h
 refine Y41 (Vg I j f i ?_ k c)
 exact PyProof.Rows.callWith_builtin1 (thn (g pos a s d H _ I h) fun us s1 ⟨vs,H1,I1,r1,q1⟩=>l a s1 d H1 vs us Q I1 r1 q1) he b
theorem Xv(l:Zy X (.type T) r)(j:Gl X x)(f:X.mg x=none)(i:bootBuiltins x=some (.type T))(g:PA X (e::es) t)(k:autoParam (x≠"__name__") J2._auto_1)(c:autoParam ((x == ("__debug__":Str))=false) J2._auto_1)
  (he:autoParam (starEach (e::es) X.env=(false,eval e X.env)::starEach es X.env) J1._auto_1) (b:autoParam ((backTo pos (starEach es X.env)).any (·.1)=false) J1._auto_1):PE X (.Call (.Name x p) (e::es) [] pos) (tCB r t):=by
 intro a s d H Q I h
 refine Y41 (Vg I j f i ?_ k c)
 exact Y38 (thn (g pos a s d H _ I h) fun us s1 ⟨vs,H1,I1,r1,q1⟩=>l a s1 d H1 vs us Q I1 r1 q1) he b
end
end L2
variable{X:L2.Cx}{σ τ0 cs:L2.St}{D:L2.Ends}{te td:L2.TE}{g:L2.TG}{ta:L2.TA}{wi:L2.TI}{tb s1 s2 s3 s4 s5 s6 s7 s10 s11 s12:L2.TS}{sp:L2.Sp}{tt:L2.TT}{J:L2.It}
namespace HT
open PySem PyProof.Rows
section
variable{w:World}
theorem cat_tup{t:Addr}{vs ws:List Value}{Q:VP}(v:IsTup s.heap t vs.toArray)(y:IsTup s.heap b ws.toArray)(m:vs≠[])
  (u:ws=[]->Q (.ref t) s) (x:ws≠[]->Q (.ref s.heap.objs.size) { s with heap:=s.heap.push { cls:=.type "tuple",data:=.seq (vs++ws).toArray } })
  (hsz:vs.length+ws.length<=sizeLine):wpAny (model prog w) A (binaryOp .Add (.ref t) (.ref b)) Q E s:=by
 obtain⟨⟨cls,k,data,r⟩,i,q,n,p⟩:=id v
 obtain⟨⟨o,g,j,f⟩,a,c,l,d⟩:=id y
 simp only at q p c d
 subst q p c d
 have e:vs.toArray++ws.toArray=(vs++ws).toArray:=by simp
 by_cases h:ws=[]
 .exact concat_meets ⟨_,i,rfl⟩ ⟨_,a,rfl⟩ noFill_tuple_add seq_tuple_add PySem.F.slot_tuple_add PySem.F.entry_tuple_add (PySem.F.args_tuple_add_2 _ _)
   (tuple_addW1 t b vs.toArray ws.toArray n l k g r f (by simpa using m) (by simp[h])) ⟨i,a,u h⟩
 .refine concat_meets ⟨_,i,rfl⟩ ⟨_,a,rfl⟩ noFill_tuple_add seq_tuple_add PySem.F.slot_tuple_add PySem.F.entry_tuple_add (PySem.F.args_tuple_add_2 _ _)
   (tuple_addW2 t b vs.toArray ws.toArray n l k g r f (by simpa using m) (by simpa using h) (by rw[kY,kY];exact hsz)) ⟨i,a,?_⟩
  rw[e]
  exact x h
def sIx(n d:Nat):Option Int->Nat
 |none=>d
 |some v=>if v<0 then(v+(n:Int)).toNat else min v.toNat n
theorem sIx_none(n d:Nat):sIx n d none=d:=rfl
theorem sIx_nat(n d k:Nat):sIx n d (some (k:Int))=min k n:=by
 show(if (k:Int)<0 then((k:Int)+(n:Int)).toNat else min (k:Int).toNat n)=min k n
 rw[Y20 Om,jYa]
theorem sIx_le(n d:Nat)(b:d<=n)(o:Option Int):sIx n d o<=n:=by
 cases o with
 |none=>exact b
 |some v=>
  show(if v<0 then(v+(n:Int)).toNat else min v.toNat n)<=n
  by_cases a:v<0
  .rw[Y22 a];lia
  .rw[Y20 a];exact Nat.min_le_right _ _
theorem min_cast(v:Int)(n:Nat)(h:¬v<0):min v (n:Int)=((min v.toNat n:Nat):Int):=by
 obtain⟨k,rfl⟩:=Int.eq_ofNat_of_zero_le (Int.not_lt.mp h)
 rw[jYa]
 rcases Nat.le_total k n with h | h
 .rw[wK h,Int.min_eq_left (Int.ofNat_le.mpr h)]
 .rw[kZa h,Int.min_eq_right (Int.ofNat_le.mpr h)]
theorem clip_eq(v:Int)(n d:Nat):(if v<0 then max (v+(n:Int)) 0 else min v (n:Int))=((sIx n d (some v):Nat):Int):=by
 show(if v<0 then max (v+(n:Int)) 0 else min v (n:Int))=(((if v<0 then(v+(n:Int)).toNat else min v.toNat n):Nat):Int)
 by_cases a:v<0
 .rw[Y22 a,Y22 a];exact(Int.ofNat_toNat _).symm
 .rw[Y20 a,Y20 a];exact min_cast v n a
theorem Qkz(lo a:Option Int)(n:Nat):Builtin.Slice.sliceAdjust lo a 1 (n:Int)=(((sIx n 0 lo:Nat):Int),((sIx n n a:Nat):Int)):=by
 have b:¬((1:Int)<0):=Om
 unfold Builtin.Slice.sliceAdjust
 simp only[b,if_false]
 refine Prod.ext ?_ ?_
 .cases lo with
  |none=>rfl
  |some v=>exact clip_eq v n 0
 .cases a with
  |none=>rfl
  |some v=>exact clip_eq v n n
theorem Qla(i j:Nat):Builtin.Slice.slicePlaces (i:Int) (j:Int) 1=j-i:=by
 unfold Builtin.Slice.slicePlaces
 have a:(1:Int) > 0:=Om
 simp only[a,if_true,Int.ediv_one]
 split<;>lia
theorem Qcn{v:Value}{o:Option Int}{Q:Option Int->Shared->Prop}(p:IsPart v o)(h:Q o s):wpAny (model prog w) A (Builtin.Slice.slicePartIndex v) Q E s:=by
 cases p with
 |none=>exact slicePart_none h
 |int i t=>exact slicePart_int h
theorem Jy{sl:Addr}{n:Nat}{Q:Int×Int×Nat->Shared->Prop}(c:s.heap.IsSliceOf sl vl vu .none)(pl:IsPart vl lo)(d:IsPart vu hi)
  (h:Q (((sIx n 0 lo:Nat):Int),1,sIx n n hi-sIx n 0 lo) s):wpAny (model prog w) A (Builtin.Slice.sliceApplied (.ref sl) (pure (n:Int))) Q E s:=by
 obtain⟨f,a,e,b⟩:=id c
 unfold Builtin.Slice.sliceApplied Builtin.Slice.sliceFields
 refine jQ (jQ (Y23 a b (x:=vl) rfl (jQ (Y23 a b (x:=vu) rfl (jQ (Y23 a b (x:=.none) rfl (jV ?_)))))))
 refine jQ (slicePart_none ?_)
 show wpAny _ _ (if ((1:Int) == 0)=true then _ else _) _ _ s
 rw[Y20 Dc]
 refine jQ (Qcn pl (jQ (Qcn d (jQ (jV ?_)))))
 show wpAny _ _ (match Builtin.Slice.sliceAdjust lo hi 1 (n:Int)with | (lo,hi)=>pure (lo,(1:Int),Builtin.Slice.slicePlaces lo hi 1)) _ _ s
 rw[Qkz lo hi n]
 show wpAny _ _ (pure (((sIx n 0 lo:Nat):Int),(1:Int),Builtin.Slice.slicePlaces ((sIx n 0 lo:Nat):Int) ((sIx n n hi:Nat):Int) 1)) _ _ s
 rw[Qla]
 exact jV h
theorem Qrd(xs:Array Value)(i k:Nat):((List.range k).filterMap fun(m:Nat)=>xs[((i:Int)+(m:Int)*1).toNat]?).toArray=((xs.toList.drop i).take k).toArray:=by
 have e:(fun(m:Nat)=>xs[((i:Int)+(m:Int)*1).toNat]?)=fun m=>xs[i+m]?:=by
  funext m
  have:((i:Int)+(m:Int)*1).toNat=i+m:=Om
  rw[this]
 rw[e]
 have:=pick_run xs i k
 rw[List.filterMap_map]at this
 have a:((fun x=>xs[x]?)∘fun x=>i+x)=fun m=>xs[i+m]?:=rfl
 rw[a]at this
 rw[this]
theorem getItem_tuple_cut{t sl:Addr}{items:Array Value}{Q:VP}(b:IsTup s.heap t items)(g:s.heap.IsSliceOf sl vl vu .none)(pl:IsPart vl lo)(l:IsPart vu hi)
  (k:¬(sIx items.size 0 lo=0/\sIx items.size items.size hi=items.size))
  (h:Q (.ref s.heap.objs.size) { s with heap:=s.heap.push { cls:=.type "tuple",data:=.seq ((items.toList.drop (sIx items.size 0 lo)).take (sIx items.size items.size hi-sIx items.size 0 lo)).toArray } })
  (hsz:items.size<=sizeLine):wpAny (model prog w) A (getItem (.ref t) (.ref sl)) Q E s:=by
 have a:sizeOk (.seq ((items.toList.drop (sIx items.size 0 lo)).take (sIx items.size items.size hi-sIx items.size 0 lo)).toArray):=by
  show((items.toList.drop (sIx items.size 0 lo)).take (sIx items.size items.size hi-sIx items.size 0 lo)).toArray.size<=sizeLine
  rw[kY,xJ,jJd,jQf]
  lia
 have p:sIx items.size items.size hi<=items.size:=sIx_le _ _ (jK _) hi
 obtain⟨i,d,f,j⟩:=id g
 have e:s.TypeIs (.ref sl) "slice":=⟨i,d,f⟩
 unfold getItem
 try with_reducible refine Y30 ?_
 first | refine jQ (jV ?_) | skip
 refine jQ (wpAny_sequenceKey b.typeIs Dc ?_)
 refine jQ (wpAny_callSpecial?_slot (name:=Str.ofString "__getitem__") b.typeIs Y44
  (Y25 Y44 b.typeIs entry_tuple_getitem ?_ (args_tuple_getitem _ _)))
 show wpAny _ _ (Builtin.Tuple.tupleItemsOf (.ref t) >>= _) _ _ s
 refine jQ (tupleItemsOf_ b ?_)
 refine jQ (Y40 e ?_)
 rw[Y22 Dc]
 refine jQ (Jy g pl l ?_)
 have c:¬((((sIx items.size 0 lo:Nat):Int) == 0&&(1:Int) == 1&&(sIx items.size items.size hi-sIx items.size 0 lo) == items.size)=true):=by
  intro q
  rw[wV,wV]at q
  have n:((sIx items.size 0 lo:Nat):Int)=0:=eq_of_beq q.1.1
  have o:sIx items.size items.size hi-sIx items.size 0 lo=items.size:=eq_of_beq q.2
  exact k ⟨Om,Om⟩
 show wpAny _ _ (if (((sIx items.size 0 lo:Nat):Int) == 0&&(1:Int) == 1&&(sIx items.size items.size hi-sIx items.size 0 lo) == items.size)=true then _ else _) _ _ s
 rw[Y20 c,Qrd]
 first
  |exact jQ (m:=Builtin.Tuple.tupleExact _) (Y26 (jV ⟨_,rfl,jV h⟩) a)
  |exact jQ (m:=Builtin.Tuple.tupleExact _) (Y26 (jQ (jV (jV ⟨_,rfl,jV h⟩))) a)
  |exact jQ (jQ (m:=Builtin.Tuple.tupleExact _) (Y26 (jV (jV ⟨_,rfl,jV h⟩)) a))
  |exact jQ (jQ (m:=Builtin.Tuple.tupleExact _) (Y26 (jV ⟨_,rfl,jV h⟩) a))
end
end HT
namespace L2
open PySem PySem.Spec PyProof.Rows
abbrev TO:=St->Hp->(Option Int->Hp->Prop)->Prop
def PO(X:Cx)(e:Option Expr)(t:TO):Prop :=
 ∀(pins:Z8) (s:Shared) (σ:St) (H:Hp) (Q:Option Int->Hp->Prop),Inv X pins σ H s->t σ H Q ->
  wpAny (model X.prog X.w) X.A (evalPart e X.env) (fun u s'=>∃o H',Inv X pins σ H' s'/\IsPart u o/\Q o H') X.xe s
def Qvv:TO:=fun _ H Q=>Q none H
def tPart(t:TE):TO:=fun σ H Q=>t σ H fun x H1=>∃i,x=.int i/\Q (some i) H1
theorem intsAre_of{ns:List Int}:∀{us:List Value},Vals (ns.map V.int) us->IntsAre us ns:=by
 induction ns with
 |nil=>intro us r;rw[kKc]at r;cases r;exact .nil
 |cons n ns ih=>
  intro us r
  rw[zX]at r
  cases r with
  |cons r1 r2=>
   obtain⟨t,e⟩:=r1
   subst e
   exact .cons n t (ih r2)
section
variable{lo hi:Option Expr}{tl th:TO}{p2:Pos}
theorem Yi:PO X none Qvv:=by
 intro a s b H Q I h
 rw[evalPart_none]
 exact jV ⟨none,H,I,.none,h⟩
theorem Xn(h:PE X e te):PO X (some e) (tPart te):=by
 intro a s j H Q I g
 rw[evalPart_some]
 refine thn (h a s j H _ I g) fun u l b=>?_
 obtain⟨x,k,d,f,c⟩:=b
 obtain⟨i,rfl,q⟩:=c
 obtain⟨t,rfl⟩:=f
 exact⟨some i,k,d,.int i t,q⟩
def SlR(X:Cx)(r:V->Option Int->Option Int->Hp->VK->Prop):Prop :=
 ∀(pins:Z8) (s:Shared) (σ:St) (H:Hp) (x:V) (v vl vu:Value) (lo hi:Option Int) (sl:Addr) (Q:VK),Inv X pins σ H s->RelV x v->s.heap.IsSliceOf sl vl vu .none->IsPart vl lo->IsPart vu hi->r x lo hi H Q ->
  ∃T id,typeLookup (.type T) "__getitem__"=pure (some (.builtin id))/\s.TypeIs v T/\wpAny (model X.prog X.w) X.A (getItem v (.ref sl)) (EP X pins σ Q) X.xe s
def tSl(r:V->Option Int->Option Int->Hp->VK->Prop)(te:TE)(tl th:TO):TE:=fun σ H Q=>te σ H fun x H1=>tl σ H1 fun l H2=>th σ H2 fun u H3=>r x l u H3 Q
theorem Xi{r:V->Option Int->Option Int->Hp->VK->Prop}(n:SlR X r)(he:PE X e te)(y:PO X lo tl)(o:PO X hi th):PE X (.Subscript e (.Slice lo hi none p2) pos) (tSl r te tl th):=by
 intro a s f H Q I h
 refine Subscript_ (thn (he a s f H _ I h) fun v E d=>?_)
 obtain⟨x,G,F,D,m⟩:=d
 refine wpAny_Slice (thn (y a E f G _ F m) fun vl s2 ⟨l,H2,I2,pl,q2⟩=>thn (o a s2 f H2 _ I2 q2) fun g c d=>?_)
 obtain⟨u,i,p,j,C⟩:=d
 rw[evalPart_none]
 refine jV ?_
 have z:Inv X a f i { c with heap:=c.heap.push { cls:=.type "slice",data:=.fields #[vl,g,.none] } }:=p.kept (t':=c.toks) fun b K q=>jZ _ q
 obtain⟨T,id,B,k,J⟩:=n a { c with heap:=c.heap.push { cls:=.type "slice",data:=.fields #[vl,g,.none] } } f i x v vl g l u c.heap.objs.size Q z D (Heap.IsSliceOf.new ..) pl j C
 show wpAny (model X.prog X.w) X.A (subscriptTail e (.Slice lo hi none p2) v (.ref c.heap.objs.size)) (EP X a f Q) X.xe { c with heap:=c.heap.push { cls:=.type "slice",data:=.fields #[vl,g,.none] } }
 exact tail_any (ops:=[.ref c.heap.objs.size,v]) k B J (by with_unfolding_all rfl)
def cutV(xs:List V)(lo hi:Option Int):List V:=(xs.drop (HT.sIx xs.length 0 lo)).take (HT.sIx xs.length xs.length hi-HT.sIx xs.length 0 lo)
theorem Qaj(xs:List V)(lo a:Option Int):(cutV xs lo a).length<=xs.length:=by
 unfold cutV
 rw[xJ,jJd]
 lia
def rSlT(K:Fg):V->Option Int->Option Int->Hp->VK->Prop:=fun x lo hi H Q=>∃a xs,x=.ref a/\SqT K H a xs /\
 ¬(HT.sIx xs.length 0 lo=0/\HT.sIx xs.length xs.length hi=xs.length)/\∀p,H p=none->Q (.ref p) (upd H p (.tup (cutV xs lo hi)))
theorem Qjd:SlR X (rSlT X.K):=by
 intro k s z H x v y B e f C Q I p n w m h
 obtain⟨a,d,rfl,u,l,q⟩:=h
 cases p
 obtain⟨g,r,i,j⟩:=I.tuple u
 have c:g.toArray.size=d.length:=by rw[kY];exact r.length.symm
 refine⟨"tuple",_,PyProof.Rows.slot_tuple_getitem.lookup,i.typeIs,?_⟩
 refine HT.getItem_tuple_cut i n w m (by rw[c];exact l) ?_ (by rw[c];exact j)
 rw[c]
 refine⟨.ref s.heap.objs.size,_,I.laid (t':=s.toks) (o:=.tup (cutV d e f)) (fun b A q=>jZ _ q) (jK _) ?_,rfl,q _ (I.hok.fresh (jK _))⟩
 exact⟨jQc (Qaj d e f) j,_,(r.drop (HT.sIx d.length 0 e)).take (HT.sIx d.length d.length f-HT.sIx d.length 0 e),IsTup.new _ _⟩
def rCatT(K:Fg):R2:=fun x y H Q=>∃a b xs ys,x=.ref a/\y=.ref b/\SqT K H a xs/\SqT K H b ys/\xs≠[]/\xs.length+ys.length<=sizeLine /\
 (ys=[]->Q (.ref a) H)/\(ys≠[]->∀p,H p=none->Q (.ref p) (upd H p (.tup (xs++ys))))
theorem Vals.nil_iff(r:Vals xs us):us=[]↔xs=[]:=by
 cases r with
 |nil=>simp
 |cons _ _=>simp
theorem Qdq:OpR X (binaryOp .Add) (rCatT X.K):=by
 intro g s E H x y v u Q I A i h
 obtain⟨a,b,p,l,rfl,rfl,B,n,D,e,j,m⟩:=h
 cases A
 cases i
 obtain⟨k,d,r,_⟩:=I.tuple B
 obtain⟨f,c,C,_⟩:=I.tuple n
 refine HT.cat_tup r C (fun z=>D (d.nil_iff.mp z)) (fun z=>⟨.ref a,H,I,rfl,j (c.nil_iff.mp z)⟩) (fun z=>?_) (by rw[<-d.length,<-c.length];exact e)
 refine⟨.ref s.heap.objs.size,_,I.laid (t':=s.toks) (o:=.tup (p++l)) (fun b F q=>jZ _ q) (jK _) ?_,rfl,m (fun w=>z (c.nil_iff.mpr w)) _ (I.hok.fresh (jK _))⟩
 exact⟨by rw[jJ];exact e,_,d.append c,IsTup.new _ _⟩
end
def ixN(n:Nat)(i:Int):Option Nat:=if 0<=i then(if i<n then some i.toNat else none)else if -(n:Int)<=i then some (i+n).toNat else none
def atI{α:Type}(xs:List α)(i:Int):Option α:=(ixN xs.length i).bind fun j=>xs[j]?
theorem Qvw{n:Nat}{i:Int}(h:ixN n i=some j):seqIndex? i n=some j/\j<n/\-(n:Int)<=i/\i<n:=by
 unfold ixN at h
 by_cases b:0<=i
 .rw[Y22 b]at h
  by_cases a:i<n
  .rw[Y22 a]at h
   have e:i.toNat=j:=Y5 h
   exact⟨by rw[seqIndex_of b a,e],Om,Om,a⟩
  .rw[Y20 a]at h;cases h
 .rw[Y20 b]at h
  by_cases a:-(n:Int)<=i
  .rw[Y22 a]at h
   have e:(i+n).toNat=j:=Y5 h
   exact⟨by rw[seqIndex_neg Om a,e],Om,a,Om⟩
  .rw[Y20 a]at h;cases h
theorem Qdr{α:Type}{xs:List α}{i:Int}{v:α}(h:atI xs i=some v):∃j,seqIndex? i xs.length=some j/\xs[j]?=some v/\j<xs.length/\-(xs.length:Int)<=i/\i<xs.length:=by
 unfold atI at h
 cases e:ixN xs.length i with
 |none=>rw[e]at h;cases h
 |some j=>
  rw[e]at h
  obtain⟨d,a,c,b⟩:=Qvw e
  exact⟨j,d,h,a,c,b⟩
theorem Qak{α:Type}{xs:List α}{v:α}(h:xs[j]?=some v):atI xs (j:Int)=some v:=by
 have a:j<xs.length:=(kX.mp h).1
 have e:ixN xs.length (j:Int)=some j:=by
  unfold ixN
  rw[Y22 Om,Y22 Om];simp
 unfold atI;rw[e];exact h
def Qvx(b:Expr):Prop:=∀o i,subscripted b false o i=operate [o,i] (getItem o i)
def IxR(X:Cx)(r:R2):Prop :=
 ∀(value slice:Expr) (pins:Z8) (s:Shared) (σ:St) (H:Hp) (x y:V) (v u:Value) (Q:VK),Inv X pins σ H s->RelV x v->RelV y u->r x y H Q ->
  subscripted slice false v u=operate [v,u] (getItem v u)->wpAny (model X.prog X.w) X.A (subscriptTail value slice v u) (EP X pins σ Q) X.xe s
def MtR(X:Cx)(id:String)(r:V->List V->Hp->VK->Prop):Prop :=
 ∀(pins:Z8) (s:Shared) (σ:St) (H:Hp) (x:V) (xs:List V) (v:Value) (us:List Value) (Q:VK),Inv X pins σ H s->RelV x v->Vals xs us->r x xs H Q ->
  wpAny (model X.prog X.w) X.A (call (.builtin id) (v::us)) (EP X pins σ Q) X.xe s
section
variable{a b:Expr}{ta tb:TE}
theorem Qr{r:R2}(i:IxR X r)(j:PE X a ta)(f:PE X b tb)(d:Qvx b:=by exact fun _ _=>rfl):PE X (.Subscript a b pos) (tOp r ta tb):=by
 intro c s m H Q I h
 exact Subscript_ (binT j f I h fun v u n x y l k g e q=>i a b c n m l x y v u Q k g e q (d _ _))
def rIxL(K:Fg):R2:=fun x y H Q=>∃p xs i v,x=.ref p/\y=.int i/\SqL K H p xs/\atI xs i=some v/\Q v H
def rIxT(K:Fg):R2:=fun x y H Q=>∃p xs i v,x=.ref p/\y=.int i/\SqT K H p xs/\atI xs i=some v/\Q v H
def rIxS:R2:=fun x y H Q=>∃z i c,x=.str z/\y=.int i/\z.length<=sizeLine/\atI z.cps.toList i=some c/\Q (.str ⟨#[c]⟩) H
theorem Qn:IxR X (rIxL X.K):=by
 intro c g a s m H x y v u Q I J B h o
 obtain⟨p,O,i,z,rfl,rfl,E,A,q⟩:=h
 cases J
 obtain⟨t,rfl⟩:=B
 obtain⟨d,r,k,N⟩:=I.list E
 obtain⟨j,b,C,M,G,F⟩:=Qdr A
 obtain⟨w,n,f⟩:=r.get C
 have D:=r.length
 have P:=Qff
 have fin:EP X a m Q w s:=⟨z,H,I,f,q⟩
 by_cases l:0<=i
 .have e:i.toNat=j:=by
   rw[seqIndex_of l F]at b
   exact Y5 b
  exact item_listR k.isList l Om (by rw[e];simpa using n) fin o
 .have e:(i+(d.toArray.size:Int)).toNat=j:=by
   rw[seqIndex_neg Om G]at b
   rw[kY,<-D]
   exact Y5 b
  exact subscriptTail_builtinR (x:=w) k.isList.typeIs slot_list_getitem.lookup
   (wpAny_getItem_list_neg (Q:=fun r L=>r=w/\EP X a m Q r L) k.isList Om (by rw[kY]<;>lia) Om (by rw[e];simpa using n) ⟨rfl,fin⟩) o
theorem Xr:IxR X (rIxT X.K):=by
 intro b d a s e H x y v u Q I D k h C
 obtain⟨p,L,i,z,rfl,rfl,A,g,q⟩:=h
 cases D
 obtain⟨t,rfl⟩:=k
 obtain⟨n,r,f,J⟩:=I.tuple A
 obtain⟨j,l,m,F,N,G⟩:=Qdr g
 obtain⟨w,B,c⟩:=r.get m
 have o:=r.length
 have M:=Qff
 have fin:EP X a e Q w s:=⟨z,H,I,c,q⟩
 exact subscriptTail_builtinR (x:=w) f.typeIs slot_tuple_getitem.lookup
  (getItem_tuple (j:=j) (Q:=fun r E=>r=w/\EP X a e Q r E) f Om Om (by rw[kY,<-o];exact l) (by simpa using B) ⟨rfl,fin⟩) C
theorem Qfl:IxR X rIxS:=by
 intro a b e s B H x y v u Q I w g h r
 obtain⟨z,i,c,rfl,rfl,D,f,q⟩:=h
 obtain⟨t,rfl⟩:=w
 obtain⟨A,rfl⟩:=g
 obtain⟨j,d,m,C,p,o⟩:=Qdr f
 have n:z.cps.toList.length=z.length:=by simp[Str.length]
 rw[n]at d p o
 have E:=Qff
 exact tail_any (typeIs_str s z t) slot_str_getitem.lookup (getItem_str (c:=c) (by
  have l:decide (i < -(2 ^ 63:Int))=false:=xV Om
  have k:decide (i≥2 ^ 63)=false:=xV Om
  rw[l,k,Bool.or_false]) (by rw[d];simpa using m) ⟨.str ⟨#[c]⟩,H,I.tok _,⟨_,rfl⟩,q⟩) r
theorem Qal(i:Int)(n d:Nat):max 0 (min (if i<0 then i+(n:Int)else i) (n:Int))=((HT.sIx n d (some i):Nat):Int):=by
 rw[<-HT.clip_eq]
 by_cases h:i<0
 .rw[Y22 h,Y22 h,Int.min_eq_left (by have:=Int.add_le_add_right (Int.le_of_lt h) (n:Int);rwa [kJb]at this),Int.max_comm]
 .rw[Y20 h,Y20 h,HT.min_cast i n h,Int.max_eq_right (Int.natCast_nonneg _)]
theorem Qfm(lo a:Option Int)(n:Nat):(sliceBounds lo a none n).1=((HT.sIx n 0 lo:Nat):Int)/\(sliceBounds lo a none n).2.1=((HT.sIx n n a:Nat):Int)/\(sliceBounds lo a none n).2.2=1:=by
 refine⟨?_,?_,rfl⟩
 .cases lo with
  |none=>rfl
  |some i=>exact Qal i n 0
 .cases a with
  |none=>rfl
  |some i=>exact Qal i n n
theorem Qds(its:List Value)(lo a:Option Int):slicePick its.toArray lo a none=((its.drop (HT.sIx its.length 0 lo)).take (HT.sIx its.length its.length a-HT.sIx its.length 0 lo)).toArray:=by
 obtain⟨d,b,c⟩:=Qfm lo a its.toArray.size
 unfold slicePick
 rw[d,b,c]
 simp only[sliceRange_one,pick_run,kY]<;>rfl
def rSlL(K:Fg):V->Option Int->Option Int->Hp->VK->Prop:=fun x lo hi H Q=>∃a xs,x=.ref a/\SqL K H a xs/\∀p,H p=none->Q (.ref p) (upd H p (.lst (cutV xs lo hi)))
theorem Jj:SlR X (rSlL X.K):=by
 intro g s A H x v z B e f w Q I l j m u h
 obtain⟨a,c,rfl,p,q⟩:=h
 cases l
 obtain⟨n,r,i,k⟩:=I.list p
 have d:=r.length
 refine⟨"list",_,slot_list_getitem.lookup,i.isList.typeIs,?_⟩
 refine wpAny_getItem_list_slice i.isList j m u .none (by simp) ?_ (by rw[kY]<;>lia)
 rw[Qds,<-d]
 refine⟨.ref s.heap.objs.size,_,I.laid (t':=s.toks) (o:=.lst (cutV c e f)) (fun b y q=>jZ _ q) (jK _) ?_,rfl,q _ (I.hok.fresh (jK _))⟩
 exact⟨jQc (Qaj c e f) k,_,0,(r.drop (HT.sIx c.length 0 e)).take (HT.sIx c.length c.length f-HT.sIx c.length 0 e),yY _ rfl⟩
def Wv:V->Bool
 |.non=>true
 |.bl _=>true
 |.int _=>true
 |.str _=>true
 |_=>false
def eqV:V->V->Bool
 |.non,.non=>true
 |.bl a,.bl b=>a == b
 |.bl a,.int b=>(if a then 1 else 0) == b
 |.int a,.bl b=>a == (if b then 1 else 0)
 |.int a,.int b=>a == b
 |.str a,.str b=>a == b
 |_,_=>false
theorem Quo{x:V}{v:Value}(e:RelV y u)(c:RelV x v)(g:Wv y=true)(f:Wv x=true):SeqAt.EqAt A s u v (eqV y x):=by
 cases y with
 |non=>
  cases e
  cases x with
  |non=>cases c;exact SeqAt.EqAt.same _
  |bl b=>cases c;exact SeqAt.EqAt.none_bool b
  |int b=>obtain⟨t,rfl⟩:=c;exact SeqAt.EqAt.none_int b t
  |str b=>obtain⟨t,rfl⟩:=c;exact SeqAt.EqAt.none_str b t
  |_=>exact Y21 (show false=true from f) yQ
 |bl a=>
  cases e
  cases x with
  |non=>cases c;exact SeqAt.EqAt.bool_none a
  |bl b=>cases c;exact SeqAt.EqAt.bool_bool a b
  |int b=>obtain⟨t,rfl⟩:=c;exact SeqAt.EqAt.bool_int a b t
  |str b=>obtain⟨t,rfl⟩:=c;exact SeqAt.EqAt.bool_str a b t
  |_=>exact Y21 (show false=true from f) yQ
 |int a=>
  obtain⟨d,rfl⟩:=e
  cases x with
  |non=>cases c;exact SeqAt.EqAt.int_none a d
  |bl b=>cases c;exact SeqAt.EqAt.int_bool a d b
  |int b=>obtain⟨t,rfl⟩:=c;exact SeqAt.EqAt.int_int a d b t
  |str b=>obtain⟨t,rfl⟩:=c;exact SeqAt.EqAt.int_str a d b t
  |_=>exact Y21 (show false=true from f) yQ
 |str a=>
  obtain⟨d,rfl⟩:=e
  cases x with
  |non=>cases c;exact SeqAt.EqAt.str_none a d
  |bl b=>cases c;exact SeqAt.EqAt.str_bool a d b
  |int b=>obtain⟨t,rfl⟩:=c;exact SeqAt.EqAt.str_int a d b t
  |str b=>obtain⟨t,rfl⟩:=c;exact SeqAt.EqAt.str_str a d b t
  |_=>exact Y21 (show false=true from f) yQ
 |_=>exact Y21 (show false=true from g) yQ
def eqU(x:V)(u:Value):Bool:=match u with
 |.none=>eqV .non x
 |.bool b=>eqV (.bl b) x
 |.int i _=>eqV (.int i) x
 |.str z _=>eqV (.str z) x
 |_=>false
theorem Qup{x:V}(r:RelV y u)(f:Wv y=true):eqU x u=eqV y x:=by
 cases y with
 |non=>cases r;rfl
 |bl b=>cases r;rfl
 |int i=>obtain⟨t,rfl⟩:=r;rfl
 |str z=>obtain⟨t,rfl⟩:=r;rfl
 |_=>exact Y21 (show false=true from f) yQ
theorem Qam{x:V}:∀{xs:List V} {us:List Value},Vals xs us->xs.all Wv=true->us.any (eqU x)=xs.any fun y=>eqV y x
 |_,_,.nil,_=>rfl
 |y::xs,u::us,.cons r t,f=>by
  rw[List.all_cons,wV]at f
  rw[kZc,kZc,Qup r f.1,Qam t f.2]
theorem Vj{A:Around}{s:Shared}{x:V}{v:Value}(a:RelV x v)(b:Wv x=true):∀{xs:List V} {us:List Value},Vals xs us->xs.all Wv=true->∀u∈us,SeqAt.EqAt A s u v (eqU x u)
 |_,_,.nil,_=>fun u hu=>by cases hu
 |y::xs,u::us,.cons r t,f=>fun c hu=>by
  rw[List.all_cons,wV]at f
  rcases kZ.mp hu with rfl | hu
  .rw[Qup r f.1];exact Quo r a f.1 b
  .exact Vj a b t f.2 c hu
def inV(x:V)(xs:List V):Bool:=xs.any fun y=>eqV y x
def rIn(K:Fg)(neg:Bool):R2:=fun x y H Q=>∃p xs,y=.ref p/\(SqL K H p xs\/SqT K H p xs)/\Wv x=true/\xs.all Wv=true/\Q (.bl (if neg then !inV x xs else inV x xs)) H
theorem Vk:OpR X (compareOp .In) (rIn X.K false):=by
 intro f s k H x y v u Q I d i h
 obtain⟨p,j,rfl,hq,e,fs,q⟩:=h
 cases i
 rcases hq with hq | hq
 .obtain⟨a,r,b,g⟩:=I.list hq
  refine SeqAt.in_listAt (eqU x) b.isList (fun w c=>Vj d e r fs w (by simpa using c)) ⟨.bl _,H,I,rfl,?_⟩
  rw[show a.toArray.any (eqU x)=a.any (eqU x)by simp,Qam r fs]
  exact q
 .obtain⟨a,r,b,g⟩:=I.tuple hq
  refine SeqAt.in_tupleAt (eqU x) b (fun w c=>Vj d e r fs w (by simpa using c)) ⟨.bl _,H,I,rfl,?_⟩
  rw[show a.toArray.any (eqU x)=a.any (eqU x)by simp,Qam r fs]
  exact q
theorem Wp:OpR X (compareOp .NotIn) (rIn X.K true):=by
 intro f s k H x y v u Q I d i h
 obtain⟨p,j,rfl,hq,e,fs,q⟩:=h
 cases i
 rcases hq with hq | hq
 .obtain⟨a,r,b,g⟩:=I.list hq
  refine SeqAt.notIn_listAt (eqU x) b.isList (fun w c=>Vj d e r fs w (by simpa using c)) ⟨.bl _,H,I,rfl,?_⟩
  rw[show a.toArray.any (eqU x)=a.any (eqU x)by simp,Qam r fs]
  exact q
 .obtain⟨a,r,b,g⟩:=I.tuple hq
  refine SeqAt.notIn_tupleAt (eqU x) b (fun w c=>Vj d e r fs w (by simpa using c)) ⟨.bl _,H,I,rfl,?_⟩
  rw[show a.toArray.any (eqU x)=a.any (eqU x)by simp,Qam r fs]
  exact q
theorem Qu:Zy X (.builtin "len") (fun xs H Q=>∃p ys,xs=[.ref p]/\(SqL X.K H p ys\/SqT X.K H p ys)/\Q (.int ys.length) H):=by
 intro e s j H xs i Q I r h
 obtain⟨p,ys,rfl,hq,q⟩:=h
 obtain⟨u,rfl,f⟩:=vals1 r
 cases f
 have k:=Qff
 rcases hq with hq | hq
 .obtain⟨d,b,c,g⟩:=I.list hq
  have a:=b.length
  exact Calls.call_len_list c.isList (by simp only[kY]<;>lia) ⟨.int ys.length,H,I.tok _,⟨s.toks+1,by rw[kY,a]⟩,q⟩
 .obtain⟨d,b,c,g⟩:=I.tuple hq
  have a:=b.length
  exact len_tuple c (by simp only[kY]<;>lia) ⟨.int ys.length,H,I.tok _,⟨s.toks+1,by rw[kY,a]⟩,q⟩
theorem Qfn:Zy X (.builtin "len") (fun xs H Q=>∃z,xs=[.str z]/\z.length<=sizeLine/\Q (.int z.length) H):=by
 intro a s d H xs c Q I r h
 obtain⟨z,rfl,b,q⟩:=h
 obtain⟨u,rfl,t,rfl⟩:=vals1 r
 have e:=Qff
 exact len_str Om ⟨.int z.length,H,I.tok _,⟨_,rfl⟩,q⟩
theorem Qfo:Zy X (.type "list") (fun xs H Q=>∃p ys,xs=[.ref p]/\(SqL X.K H p ys\/SqT X.K H p ys)/\∀l,H l=none->Q (.ref l) (upd H l (.lst ys))):=by
 intro m s B H xs C Q I r h
 obtain⟨p,ys,rfl,hq,q⟩:=h
 obtain⟨u,rfl,A⟩:=vals1 r
 cases A
 have fin:∀(a:List Value),Vals ys a->ys.length<=sizeLine->∀(d:Heap) (g:Nat),(∀b o',s.heap.get? b=some o'->d.get? b=some o') ->
   d.get? s.heap.objs.size=some { cls:=.type "list",dict:=none,data:=.seq a.toArray g,slots:=#[] }->EP X m B Q (.ref s.heap.objs.size) { s with heap:=d }:=fun a f i d g k e=>
  ⟨.ref s.heap.objs.size,_,I.laid (t':=s.toks) k (jK _) (show ObjOk X.prog X.w _ d _ (.lst ys)from⟨i,a,g,f,e⟩),rfl,q _ (I.hok.fresh (jK _))⟩
 rcases hq with hq | hq
 .obtain⟨a,f,v,i⟩:=I.list hq
  have j:=f.length
  obtain⟨o,x,z,n,y⟩:=v.isList
  exact call_list_seq p (.inl rfl) x z y (fun d g k e=>fin a f i d g k e) (by simp only[kY]<;>lia)
 .obtain⟨a,f,v,i⟩:=I.tuple hq
  have j:=f.length
  obtain⟨o,x,z,n,y⟩:=v
  exact call_list_seq p (.inr rfl) x z y (fun d g k e=>fin a f i d g k e) (by simp only[kY]<;>lia)
theorem Vl:Zy X (.type "tuple") (fun xs H Q=>∃p ys,xs=[.ref p]/\((SqL X.K H p ys/\∀l,H l=none->Q (.ref l) (upd H l (.tup ys)))\/(SqT X.K H p ys/\Q (.ref p) H))):=by
 intro a s n H xs z Q I r h
 obtain⟨p,ys,rfl,h⟩:=h
 obtain⟨u,rfl,v⟩:=vals1 r
 cases v
 rcases h with⟨i,q⟩ | ⟨i,q⟩
 .obtain⟨c,f,g,j⟩:=I.list i
  have m:=f.length
  refine call_tuple_list g.isList (fun d y=>?_) (by simp only[kY]<;>lia)
  have k:Inv X a n H { s with heap:=d }:=I.kept (t':=s.toks) y
  have x:Inv X a n (upd H d.objs.size (.tup ys)) { s with heap:=d.push { cls:=.type "tuple",data:=.seq c.toArray } } :=
   k.laid (t':=s.toks) (fun b o e=>jZ _ e) (jK _) (show ObjOk X.prog X.w _ _ _ (.tup ys)from⟨j,c,f,IsTup.new _ _⟩)
  exact⟨.ref d.objs.size,_,x,rfl,q _ (k.hok.fresh (jK _))⟩
 .obtain⟨c,f,g,j⟩:=I.tuple i
  exact call_tuple_same g ⟨.ref p,H,I,rfl,q⟩
def tyV(K:Fg)(T:String)(x:V)(H:Hp):Prop:=match x with
 |.str _=>T="str"
 |.int _=>T="int"
 |.ref p=>(T="list"/\∃xs,SqL K H p xs)\/(T="tuple"/\∃o,K.lookup p=some o/\o.cls=.type "tuple"/\o.dict=none) \/
   (T="dict"/\((∃kvs,H p=some (.dK kvs))\/∃kvs,H p=some (.dT kvs)))\/(T="set"/\∃S n,H p=some (.set S n))
 |_=>False
theorem Quq{T:String}{x:V}{v:Value}(I:Inv X pins σ H s)(r:RelV x v)(d:tyV X.K T x H) :
  s.TypeIs v T/\∀a,v=.ref a->∃ob,s.heap.get? a=some ob/\ob.dict=none:=by
 cases x with
 |str z=>
  obtain⟨t,rfl⟩:=r
  cases(show T="str" from d)
  exact⟨typeIs_str s z t,fun _ e=>nomatch e⟩
 |int i=>
  obtain⟨t,rfl⟩:=r
  cases(show T="int" from d)
  exact⟨typeIs_int s i t,fun _ e=>nomatch e⟩
 |ref p=>
  cases r
  rcases d with⟨rfl,q,m⟩ | ⟨rfl,o,b,l,h⟩ | ⟨rfl,b⟩ | ⟨rfl,S,n,b⟩
  .obtain⟨k,_,j,_⟩:=I.list m
   refine⟨j.isList.typeIs,fun a e=>?_⟩
   cases e
   obtain⟨o,n,e,c,h,_⟩:=j
   exact⟨o,e,h⟩
  .refine⟨⟨o,I.kIn p o b,l⟩,fun a e=>?_⟩
   cases e
   exact⟨o,I.kIn _ o b,h⟩
  .have z:∃o,s.heap.get? p=some o/\o.ExactDict:=by
    rcases b with⟨g,b⟩ | ⟨g,b⟩
    .obtain⟨_,_,_,_,o,_,_,e,ex,_⟩:=I.hok p _ b
     exact⟨o,e,ex⟩
    .obtain⟨_,_,_,_,o,_,_,e,ex,_⟩:=I.hok p _ b
     exact⟨o,e,ex⟩
   obtain⟨o,e,ex⟩:=z
   refine⟨⟨o,e,ex.1⟩,fun a f=>?_⟩
   cases f
   exact⟨o,e,ex.2.1⟩
  .obtain⟨o,_,_,_,e,ex,_⟩:=I.hok p _ b
   refine⟨⟨o,e,ex.1⟩,fun a f=>?_⟩
   cases f
   exact⟨o,e,ex.2.1⟩
 |_=>exact False.elim d
def tBM0(K:Fg)(T:String)(r:V->List V->Hp->VK->Prop)(to:TE):TE:=fun σ H Q=>to σ H fun x H1=>tyV K T x H1/\r x [] H1 Q
def tBM(K:Fg)(T:String)(r:V->List V->Hp->VK->Prop)(to:TE)(t:TA):TE:=fun σ H Q=>to σ H fun x H1=>tyV K T x H1/\t σ H1 fun xs H2=>r x xs H2 Q
variable{o:Expr}{to:TE}{t:TA}{name:Str}{T id:String}{r:V->List V->Hp->VK->Prop}
theorem Qmx(pa:PlainAttrs T)(d:Slot T name id)(e:typeOf (.builtin id)=pure (.type "method_descriptor"))(k:MtR X id r)(p:PE X o to)
  (b:autoParam (attributeBase o name X.env (eval o X.env)=eval o X.env) J1._auto_1) (c:autoParam ((apos.endLine == cpos.line)=true) J1._auto_1):PE X (.Call (.Attribute o name apos) [] [] cpos) (tBM0 X.K T r to):=by
 intro a s j H Q I h
 refine wpAny_Call_method0_late b c (thn (p a s j H _ I h) fun v u f=>?_)
 obtain⟨x,t,g,i,q,m⟩:=f
 obtain⟨n,l⟩:=Quq g i q
 exact⟨T,id,pa,d,e,n,l,Y39 rfl (PySem.evalArgs_none (k a u j t x [] v [] Q g i .nil m))⟩
theorem Zh(pa:PlainAttrs T)(d:Slot T name id)(i:typeOf (.builtin id)=pure (.type "method_descriptor"))(w:MtR X id r)(p:PE X o to)(B:PA X (e::es) t)
  (c:autoParam (attributeBase o name X.env (eval o X.env)=eval o X.env) J1._auto_1)
  (f:((backTo cpos (starEach (e::es) X.env)).all (fun x=>!x.1)&&(backToKw cpos (keywordEach [] X.env)).all (fun x=>x.1.isSome)
   && decide ((e::es).length+([]:List Keyword).length+(if ([]:List Keyword).isEmpty then 0 else 1)<30))=true:=by rfl)
  (b:autoParam ((apos.endLine == cpos.line)=true) J1._auto_1) (A:autoParam (starEach (e::es) X.env=(false,eval e X.env)::starEach es X.env) J1._auto_1) (hplain:autoParam ((backTo cpos (starEach es X.env)).any (·.1)=false) J1._auto_1) :
  PE X (.Call (.Attribute o name apos) (e::es) [] cpos) (tBM X.K T r to t):=by
 intro a s g H Q I h
 refine wpAny_Call_method_late c f b rfl (thn (p a s g H _ I h) fun v z j=>?_)
 obtain⟨x,C,m,l,y,u⟩:=j
 obtain⟨n,q⟩:=Quq m l y
 refine⟨T,id,pa,d,i,n,q,?_⟩
 have k:=B cpos a z g C _ m u
 rw[A]at k⊢
 refine Y39 (by show(false||(backTo cpos (starEach es X.env)).any (·.1))=false;rw[hplain]<;>rfl) (Calls.evalArgs_plain ?_)
 exact thn k fun us s2 ⟨vs,H2,I2,r2,q2⟩=>w a s2 g H2 x vs v us Q I2 l r2 q2
end
def MtM(X:Cx)(id:String)(r:V->List V->Hp->VK->Prop):Prop :=
 ∀(pins:Z8) (s:Shared) (σ:St) (H:Hp) (x:V) (xs:List V) (v:Value) (us:List Value) (Q:VK),Inv X pins σ H s->RelV x v->Vals xs us->r x xs H Q ->
  wpAny (model X.prog X.w) X.A (call (.builtin id) (v::us)) (EP X pins σ Q) X.xe s
theorem Vals.one{x:V}(h:Vals [x] us):∃u,us=[u]/\RelV x u:=by
 cases h with
 |cons r t=>cases t;exact⟨_,rfl,r⟩
theorem Vals.two{x:V}(h:Vals [x,y] us):∃u v,us=[u,v]/\RelV x u/\RelV y v:=by
 cases h with
 |cons r t=>
  cases t with
  |cons q t=>cases t;exact⟨_,_,rfl,r,q⟩
theorem Vals.zero:∀{us:List Value},Vals [] us->us=[]
 |_,.nil=>rfl
theorem Vals.dropLast(h:Vals xs us):Vals xs.dropLast us.dropLast:=by
 induction h with
 |nil=>exact .nil
 |cons r t ih=>
  cases t with
  |nil=>exact .nil
  |cons q t'=>exact .cons r ih
theorem Vals.reverse(h:Vals xs us):Vals xs.reverse us.reverse:=by
 induction h with
 |nil=>exact .nil
 |cons r t ih=>rw[List.reverse_cons,List.reverse_cons];exact Vals.append ih (.cons r .nil)
theorem Qlb{α:Type}(l:List α):l.eraseIdx (l.length-1)=l.dropLast:=by
 induction l with
 |nil=>rfl
 |cons a r ih=>
  cases r with
  |nil=>rfl
  |cons b r=>
   have e:(a::b::r).length-1=((b::r).length-1)+1:=by
    have d:(a::b::r).length=r.length+2:=rfl
    have c:(b::r).length=r.length+1:=rfl
    lia
   rw[e,List.eraseIdx_cons_succ,ih]
   all_goals rfl
theorem Inv.lset{n:Nat}{f:Array Value->Array Value}(I:Inv X pins σ H s)(g:H l=some (.lst xs))
  (e:s.heap.get? l=some { cls:=.type "list",data:=.seq its.toArray n }) (h:f its.toArray=its'.toArray) (d:Vals ys its') (hz:ys.length<=sizeLine) :
  Inv X pins σ (upd H l (.lst ys)) { s with heap:=s.heap.update l (Obj.mapSeq f),toks:=t' }:=by
 have q:=PySem.IsL.update e f
 rw[h]at q
 refine I.write (x:=l) (e:=l) (by rw[g];exact trivial) (.inl rfl) (fun i u a c=>(jXd s.heap (Obj.mapSeq f) (Ne.symm a)).trans c) ⟨_,q⟩ ?_
 exact⟨hz,its',_,d,q⟩
theorem Inv.lnew(I:Inv X pins σ H s)(a:Vals ys its)(hz:ys.length<=sizeLine) :
  Inv X pins σ (upd H s.heap.objs.size (.lst ys)) { s with heap:=s.heap.push { cls:=.type "list",data:=.seq its.toArray },toks:=t' } :=
 I.laid (fun _ _ q=>jZ _ q) (jK _) ⟨hz,its,0,a,yY _ rfl⟩
theorem Inv.fresh(I:Inv X pins σ H s):H s.heap.objs.size=none:=I.hok.fresh (jK _)
theorem Inv.lstM(I:Inv X pins σ H s)(a:H l=some (.lst xs)):xs.length<=sizeLine/\∃(its:List Value) (n:Nat),Vals xs its/\xs.length=its.length/\s.heap.get? l=some { cls:=.type "list",data:=.seq its.toArray n }:=by
 obtain⟨z,its,n,r,e⟩:=I.hok l _ a
 exact⟨z,its,n,r,r.length,e⟩
theorem Qre{n:Nat}(h:n<=sizeLine):Builtin.List.listTooLong n=false:=by
 unfold Builtin.List.listTooLong
 exact xV Om
def Qvy:V->List V->Hp->VK->Prop:=fun x vs H Q=>∃l xs y,x=.ref l/\vs=[y]/\H l=some (.lst xs)/\xs.length<sizeLine/\Q .non (upd H l (.lst (xs++[y])))
theorem Xh:MtM X "list.append" Qvy:=by
 intro c s o H x j v m Q I d f h
 obtain⟨l,k,y,rfl,rfl,b,i,q⟩:=h
 cases d
 obtain⟨u,rfl,g⟩:=f.one
 obtain⟨z,a,n,r,p,e⟩:=I.lstM b
 refine Y63 F.slot_list_append ⟨_,e,rfl⟩ F.entry_list_append (F.args_list_append_2 _ _) (PySem.list_append l a.toArray n u (by rw[kY];lia)) ⟨e,?_⟩
 refine⟨.non,_,I.lset (its':=a++[u]) b e (by simp) (r.append (.cons g .nil)) ?_,rfl,q⟩
 rw[jJ,List.length_singleton]
 lia
def rPop:V->List V->Hp->VK->Prop:=fun x vs H Q=>∃l xs y,x=.ref l/\vs=[]/\H l=some (.lst xs)/\xs[xs.length-1]?=some y/\Q y (upd H l (.lst xs.dropLast))
theorem mt_pop:MtM X "list.pop" rPop:=by
 intro f s A H x p v w Q I g i h
 obtain⟨l,t,y,rfl,rfl,d,m,q⟩:=h
 cases g
 have c:=i.zero
 subst c
 obtain⟨z,a,n,r,o,e⟩:=I.lstM d
 obtain⟨u,j,k⟩:=r.get m
 have b:a.toArray[a.toArray.size-1]?=some u:=by
  show a.toArray[a.length-1]?=some u
  rw[<-kQd,<-o]
  exact j
 refine Y63 F.slot_list_pop ⟨_,e,rfl⟩ F.entry_list_pop (F.args_list_pop_1 _) (MeetsSeq.list_pop_last l a.toArray n u b (by rw[kY];lia)) ⟨e,?_⟩
 refine⟨y,_,I.lset (its':=a.dropLast) d e ?_ r.dropLast ?_,k,q⟩
 .show a.toArray.eraseIdxIfInBounds (a.toArray.size-1)=a.dropLast.toArray
  rw[kY,List.eraseIdxIfInBounds_toArray,Qlb]
 .rw[List.length_dropLast]
  lia
def Qrf:V->List V->Hp->VK->Prop:=fun x vs H Q=>∃l xs,x=.ref l/\vs=[]/\H l=some (.lst xs)/\Q .non (upd H l (.lst xs.reverse))
theorem Qlc:MtM X "list.reverse" Qrf:=by
 intro d s m H x i v k Q I f g h
 obtain⟨l,j,rfl,rfl,c,q⟩:=h
 cases f
 have b:=g.zero
 subst b
 obtain⟨z,a,n,r,o,e⟩:=I.lstM c
 refine Y63 F.slot_list_reverse ⟨_,e,rfl⟩ F.entry_list_reverse (F.args_list_reverse_1 _) (AutoSeq1.list_reverse_list_0 l a.toArray n (by rw[kY];lia)) ⟨e,?_⟩
 refine⟨.non,_,I.lset (its':=a.reverse) c e (by simp) r.reverse ?_,rfl,q⟩
 rw[List.length_reverse]
 lia
def rCat:R2:=fun x y H Q=>∃l b xs zs,x=.ref l/\y=.ref b/\H l=some (.lst xs)/\H b=some (.lst zs)/\xs.length+zs.length<=sizeLine/\∀p,H p=none->Q (.ref p) (upd H p (.lst (xs++zs)))
theorem Kc:OpR X (binaryOp .Add) rCat:=by
 intro d s D H x y v u Q I i f h
 obtain⟨l,b,C,B,rfl,rfl,j,g,w,q⟩:=h
 cases i
 cases f
 obtain⟨z,c,n,r,E,e⟩:=I.lstM j
 obtain⟨F,a,A,p,m,k⟩:=I.lstM g
 refine PySem.P.add_list e k ?_ (by rw[kY,kY];lia)
 have o:c.toArray++a.toArray=(c++a).toArray:=by simp
 rw[o]
 exact⟨.ref _,_,I.lnew (t':=s.toks) (r.append p) (by rw[jJ];lia),rfl,q _ I.fresh⟩
end L2
namespace Att
open PySem PySem.W PySem.Calls PyProof.Rows
theorem Qan{P:Params}{h:Heap}:∀(ns:List Int) (vs:List Value),WellAll P h vs (ns.map WData.int)->IntsAre vs ns:=by
 intro ns
 induction ns with
 |nil=>
  intro vs w
  rw[kKc]at w
  cases w
  exact .nil
 |cons n ns ih=>
  intro vs w
  rw[zX]at w
  cases w with
  |cons a b=>
   cases a
   exact .cons _ _ (ih _ b)
theorem Qmy{l:OpenLaw}{n:Nat}(s:l.most=some n){P:Params}{h:Heap}{args:List WData}{vals:List Value}
  (b:l.row.toRowW.claim.pre args=true) (g:WellAll P h vals args) :
  ∃a vs ns,vals=[Value.ref a]/\args=[WData.list (ns.map WData.int)]/\h.get? a=some { cls:=.type "list",data:=.seq vs.toArray }/\IntsAre vs ns/\ns.length<=n:=by
 have i:WShape.hasAll [] args [.list .int]=true:=(pre_splitW b).1
 have j:l.pre.holds [] { args:=args }=true:=(pre_splitW b).2
 obtain⟨d,r,rfl,o,k⟩:=hasAllW_cons i
 obtain rfl:=hasAllW_nil k
 obtain⟨t,rfl,m⟩:=hasW_list o
 obtain⟨ns,rfl⟩:=items_int m
 have c:ns.length<=n:=by
  unfold OpenLaw.pre at j
  have f:(WTm.not (.lt (.lit (.int (n:Int))) (.len (.arg 0)))).holds [] { args:=[.list (ns.map .int)] }=true:=by
   have f:=(holds_andW j).1
   rw[s]at f
   exact f
  have e:=condW_of f (w_not (w_lt w_lit (w_len_list (w_arg rfl))))
  rw[jX]at e
  refine Nat.le_of_not_lt fun q=>?_
  have p:(n:Int)<((ns.length:Nat):Int):=Om
  first
   |(rw[yJ p]at e;exact Y21 e Dc)
   |(simp at e;lia)
 cases g with
 |cons w1 w2=>
  cases w2
  cases w1 with
  |list ho hall=>exact⟨_,_,ns,rfl,rfl,ho,Qan ns _ hall,c⟩
theorem Qmz(l:OpenLaw)(args:List WData):l.row.toRowW.claim.post args (.bool true) args=true :=
 postW_of (r:=l.row.toRowW) (X:=(true == true))
  (show WShape.has [] (.bool true) .bool=true by first | rfl | decide | simp[WShape.has,WShape.arms,WShape.armsAll])
  (show(WTm.eq .res (.lit (.bool true))).value [] { args:=args,res:=some (.bool true),after:=args }=some (.bool (true == true))from w_eq_bool (w_res rfl) w_lit) rfl
theorem attach_call{l:OpenLaw}{n:Nat}{q:Program}{d:DefRec}
  (D:l.most=some n) (k:d.params.defaults=[])
  (call:∀(w:World) (s₀ s₁:Shared) (mg mb:Z9) (fa:Addr) (o:Obj) (pm cd doc:Value) (a:Addr) (vs:List Value) (ns:List Int),
   Ground q loose [] XP w s₀ mg mb s₁.heap->YP w s₁.heap ->
   s₁.heap.get? fa=some o->o.data=.func (docDef d.name d.params d.body d.scope pm cd doc)->s₁.heap.CodeRec cd d.name->mg d.name=some (.ref fa) ->
   s₁.heap.get? a=some { cls:=.type "list",data:=.seq vs.toArray }->IntsAre vs ns->ns.length<=n->s₁.gens=#[] ->
   codeAny (model l.prog w) callerA (.call (.ref fa) ⟨[.ref a],[]⟩) (fun r s'=>r=.ok (.ret (.bool true))/\OldK s₁.heap s'.heap/\s'.os=s₁.os/\AllBare s'.gens) s₁) :
  WalkO q loose XP YP l.row.toRowW d [] (fun f vs=>PySem.call f vs):=by
 intro w s₀ s₁ mg mb G Y fa o pm cd doc C kV v E j u i I m p J c t H h x
 obtain rfl:C=.none:=Dflts.none u k
 obtain rfl:kV=.none:=Dflts.noKw u
 obtain⟨a,vs,ns,rfl,rfl,g,b,e⟩:=Qmy D c h
 refine enter_call (Y49 (call w s₀ s₁ mg mb fa o pm cd doc a vs ns G Y v (fd_plain E) j i g b e I) fun r s' B=>?_)
 obtain⟨rfl,y,z,F⟩:=B
 exact⟨.inl ⟨.bool true,.bool true,[],rfl,fun _=>rfl,.bool true,Qmz l _,fun _=>⟨List.Pairwise.nil,fun _ A=>(nomatch A)⟩⟩,y,z,F⟩
end Att
namespace L2
open PySem PySem.Spec PyProof.Rows
theorem Qfp:∀{vs:List Value} {ns:List Int},IntsAre vs ns->Vals (ns.map V.int) vs
 |_,_,.nil=>.nil
 |_,_,.cons n t h=>.cons ⟨t,rfl⟩ (Qfp h)
def Only(H:Hp):Prop:=∀b,H b=none\/∃o xs,H b=some (.frz o (.lst xs))
theorem Qrg{w:World}{mb:Z9}{CX:CXT}{k:Nat}{fa:Addr}{s₁:Shared}{vs:List Value}{ns:List Int}
  (Q:K.In s₁.heap) (D:s₁.heap.Ns mainGlobals mg) (f:s₁.heap.Ns builtinsNs mb) (G:∀x:Str,x≠"__name__"->mb x=bootBuiltins x) (t:s₁.heap.NoLimit) (Y:s₁.gens=#[])
  (E:s₁.heap.get? a=some { cls:=.type "list",data:=.seq vs.toArray }) (S:IntsAre vs ns) (U:ns.length<=sizeLine) (Z:Room k callerA)
  (F:∀base:Heap,K.In base->base.Ns mainGlobals mg->FnOk P w K mg base CX k fa fd [x] sp) (j:∀(s:Shared) (u:Value),BindsTo s fd ⟨[u],[]⟩ [(x,u)])
  (M:∀H:Hp,Only H->SqL K H a (ns.map V.int)->sp [.ref a] H (fun v _=>v=.bl true) fun _ _ _=>False)
  (N:∀H e s',CX [] H s₁ (fun _ _ _=>False) e s'->False) :
  codeAny (model P w) callerA (.call (.ref fa) ⟨[.ref a],[]⟩) (fun r s'=>r=.ok (.ret (.bool true))/\OldK s₁.heap s'.heap/\s'.os=s₁.os/\AllBare s'.gens) s₁:=by
 have W:=Qfp S
 have B:=S.length
 -- from an abstract heap in which nothing but the script may be tracked
 have i:∀H:Hp,Only H->SqL K H a (ns.map V.int)->HOk P w H s₁.heap->(∀b,H b≠none->b=a)->(H a≠none->K.lookup a=none) ->
   codeAny (model P w) callerA (.call (.ref fa) ⟨[.ref a],[]⟩) (fun r s'=>r=.ok (.ret (.bool true))/\OldK s₁.heap s'.heap/\s'.os=s₁.os/\AllBare s'.gens) s₁:=by
  intro H T hS y O hK
  have c:∀{b:Addr} {o:Obj},s₁.heap.get? b=some o->H b=none->(hidT s₁.heap H).get? b=some o:=fun e n=>Qqx e n
  have I:∀{b:Addr} {o:Obj} {es:Array DictEntry} {ep:Nat},s₁.heap.get? b=some o->o.data=.dict es ep->H b=none:=fun{b o es ep} e d=>by
   cases q:H b with
   |none=>rfl
   |some u=>
    have J:b=a:=O b (by rw[q];simp)
    subst J
    rw[E]at e;cases e
    have d':Data.seq vs.toArray _=Data.dict es ep:=d
    cases d'
  have g:∀{b:Addr} {m:Z9},s₁.heap.Ns b m->(hidT s₁.heap H).Ns b m:=fun{b m} ⟨o,es,ep,e,d,r⟩=>⟨o,es,ep,c e (I e d),d,r⟩
  have C:K.In (hidT s₁.heap H):=fun b o e=>c (Q b o e) (by
   cases q:H b with
   |none=>rfl
   |some u=>
    have J:b=a:=O b (by rw[q];simp)
    subst J
    rw[hK (by rw[q];simp)]at e;cases e)
  have hM:Mod K mg (hidT s₁.heap H):=⟨C,g D,⟨mb,g f,G⟩,let ⟨mc,h1,h2⟩:=t;⟨mc,g h1,h2⟩⟩
  have e0:Env0 P w K mg (hidT s₁.heap H) callerA [] s₁ H:=⟨rfl,hM,fun b o e=>Qvr e,Nat.le_of_eq (Qmj _ _),trivial,fun b f=>Y21 (show b∈([]:List Addr)from f) (by simp),y,.of_eq Y⟩
  refine Y49 ((F _ C (g D)).run callerA [] s₁ H ⟨[.ref a],[]⟩ [.ref a] [.ref a] _ _ Z e0 (j s₁ (.ref a)) (.cons rfl .nil) (M H T hS)) fun r s' h=>?_
  cases r with
  |error e=>exact(N H e s' h).elim
  |ok fl=>
   cases fl with
   |next=>exact False.elim h
   |brk=>exact False.elim h
   |cont=>exact False.elim h
   |ret u=>
    obtain⟨v,H',os,p,un,l,r',q⟩:=h
    have q':v=.bl true:=q
    subst q'
    obtain rfl:u=Value.bool true:=r'
    refine⟨rfl,OldK.of_keep fun b o e=>?_,os,p⟩
    cases q:H b with
    |none=>exact un.keep b o e q (by intro z;exact Y21 (show b∈([]:List Addr)from z) (by simp)) (by simp)
    |some u=>
     rcases T b with z | ⟨ob,xs,z⟩
     .rw[q]at z;cases z
     .have z2:=un.frzs b ob _ z
      obtain⟨R,_⟩:=y b _ z
      obtain⟨X,_⟩:=l b _ z2
      rw[e]at R;cases R
      exact X
 cases L:K.lookup a with
 |some o=>
  -- the script is one of the module's own objects
  have e:=Q a o L
  rw[E]at e
  cases e
  refine i (fun _=>none) (fun _=>.inl rfl) (.inr ⟨_,vs.toArray,_,L,rfl,rfl,rfl,by rw[kY,B];exact U,by simpa using W⟩) (fun b u z=>by have A:(none:Option HO)=some u:=z;cases A) (fun b z=>Y21 rfl z) fun z=>Y21 rfl z
 |none=>
  refine i (fun b=>if b=a then some (.frz { cls:=.type "list",data:=.seq vs.toArray } (.lst (ns.map V.int)))else none) (fun b=>?_) (.inl (.inr ⟨{ cls:=.type "list",data:=.seq vs.toArray },Y22 rfl⟩)) (fun b u z=>?_) (fun b z=>?_) fun _=>L
  .by_cases f:b=a
   .exact .inr ⟨_,_,Y22 f⟩
   .exact .inl (Y20 f)
  .by_cases f:b=a
   .have A:=(Y22 f).symm.trans z
    cases A
    subst f
    exact⟨E,by rw[jX];exact U,vs,_,W,E⟩
   .have A:=(Y20 f).symm.trans z
    cases A
  .by_cases f:b=a
   .exact f
   .exact Y21 (Y20 f) z
abbrev KOf{K:Fg}{h:Heap}(_:K.In h):Fg:=K
theorem Qna{l:PySem.W.OpenLaw}{n k:Nat}{q:Program}{d:DefRec}{K:Params->Fg}{CX:World->CXT}{sp:World->Sp}
  (N:l.most=some n) (t:n<=sizeLine) (r:d.params.defaults=[]) (E:Room k callerA)
  (O:∀(w:World) (h:Heap),YP w h->(K w.params).In h)
  (F:∀(w:World) (mg:Z9) (fa:Addr) (h:Heap),(K w.params).In h->h.Ns mainGlobals mg->mg d.name=some (.ref fa) ->
   ∃fd:FuncData,(∀(s:Shared) (u:Value),BindsTo s fd ⟨[u],[]⟩ [(x,u)]) /\
    ∀base:Heap,(K w.params).In base->base.Ns mainGlobals mg->FnOk l.prog w (K w.params) mg base (CX w) k fa fd [x] (sp w))
  (z:∀(w:World) (H:Hp) (a:Addr) (ns:List Int),ns.length<=n->Only H->SqL (K w.params) H a (ns.map V.int)->sp w [.ref a] H (fun v _=>v=.bl true) fun _ _ _=>False)
  (y:∀(w:World) (H:Hp) (s:Shared) (e:Value) (s':Shared),CX w [] H s (fun _ _ _=>False) e s'->False) :
  PySem.W.WalkO q loose XP YP l.row.toRowW d [] (fun f vs=>PySem.call f vs):=by
 refine Att.attach_call N r fun w B j mg S fa o R U I a vs ns G Y Q X D p m i c P=>?_
 have A:=O w _ Y
 obtain⟨fd,M,C⟩:=F w mg fa _ A G.T.g p
 exact Qrg A G.T.g G.T.b G.T.builtins G.T.nolimit P m i (jQc c t) E C M (fun H J L=>z w H a ns c J L) fun H e s'=>y w H j e s'
end L2
namespace L2
open PySem PySem.Spec PyProof.Rows
def inClass(s:Stmt)(j:Nat):Stmt:=match s with
 |.ClassDef _ _ _ body _ _ _ _ _ _ _=>body.getD j (.Pass ⟨0,0,0,0⟩)
 |_=>.Pass ⟨0,0,0,0⟩
def Qy(s:Stmt):Arguments:=match s with
 |.FunctionDef _ a _ _ _ _ _ _ _ _=>a
 |_=>{ posonlyargs:=[],args:=[],vararg:=none,kwonlyargs:=[],kw_defaults:=[],kwarg:=none,defaults:=[] }
def Qw(s:Stmt):List Stmt:=match s with
 |.FunctionDef _ _ b _ _ _ _ _ _ _=>b
 |_=>[]
def Qh(s:Stmt):Scope:=match s with
 |.FunctionDef _ _ _ _ _ _ sc _ _ _=>sc
 |_=>{ kind:=.function,names:=[],isGenerator:=false,isCoroutine:=false }
abbrev CX0:CXT:=fun _ _ _ _ _ _=>False
abbrev E0:XK:=fun _ _ _=>False
theorem Jq:Wo CX0 X E0:=fun _ _ _ _ _ _ _ h=>h.elim
structure Fun(K:Fg)(x qual:Str)(st:Stmt)(f:Addr)(fd:FuncData):Prop where
 ex:∃(oc:Value) (od:Option Addr) (kV doc pm:Value) (an:Option Addr) (cdv ct:Value) (osl:Array (Option Value)),
  fd=PySem.W.fnOf x qual (Qy st) (Qw st) (Qh st) .none kV doc pm an cdv ct/\K.lookup f=some ⟨oc,od,.func fd,osl⟩/\PySem.W.codeIn K cdv qual=true
 kp:PySem.W.keepIn K (.ref f)=true
section
variable{w:World}
theorem Fun.ok{ps:List Str}{k:Nat}(F:Fun K x qual st f fd)(S:FnScope N ps (Qh st))(d:∀vs H Q E,sp vs H Q E->vs.length=ps.length)
  (a:∀(cdv:Value) (A:Around) (outer:List Env) (s:Shared) (H:Hp) (vs:List V) (Q:VK) (E:XK),Room k (A.deeper (envOfC qual (Qh st) s.heap.objs.size f cdv))->sp vs H Q E ->
   ∃t,PSs (cxOf CX0 P w K mg base N qual (Qh st) f cdv A outer s H E).nox (Qw st) t/\t { nx:=fun _ H'=>Q .non H',rt:=Q } (start N vs) H):FnOk P w K mg base CX0 (k+1) f fd ps sp:=by
 obtain⟨o,l,kV,j,p,n,cdv,m,i,rfl,g,b⟩:=F.ex
 refine fn_of g b S d fun A outer s H vs Q E e c=>?_
 obtain⟨t,h,q⟩:=a cdv A outer s H vs Q E e c
 exact⟨t,h.nox,q⟩
theorem Fun.binds{ps:List Str}(F:Fun K x qual st f fd)
  (h:∀(kV doc pm:Value) (an:Option Addr) (cdv ct:Value) (us:List Value),us.length=ps.length->bindArgs (PySem.W.fnOf x qual (Qy st) (Qw st) (Qh st) .none kV doc pm an cdv ct) ⟨us,[]⟩=pure (ps.zip us)):Binds K fd ps []:=by
 obtain⟨e,c,kV,doc,pm,an,cdv,ct,b,rfl,d,a⟩:=F.ex
 exact .all (h kV doc pm an cdv ct)
theorem Kd{kV:Value}(l:K.lookup f=some ⟨oc,od,.func (PySem.W.fnOf x qual (Qy st) (Qw st) (Qh st) .none kV doc pm an cdv ct),osl⟩)
  (c:PySem.W.codeIn K cdv qual=true) (k:PySem.W.keepIn K (.ref f)=true):Fun K x qual st f (PySem.W.fnOf x qual (Qy st) (Qw st) (Qh st) .none kV doc pm an cdv ct):=⟨⟨oc,od,kV,doc,pm,an,cdv,ct,osl,rfl,l,c⟩,k⟩
end
theorem Qnb{k:Nat}(a:Room k A):A.units+1<cLine:=zK (xK (by decide:1<=64) _) a.units
theorem pv(i:Nat)(d:autoParam (X.N[i]?=some x) J1._auto_1)(b:Vis X.env.scope x:=by first | exact inl rfl | exact Or.inr (inl rfl) | exact Or.inr (Or.inr rfl))(c:autoParam ((x == ("__debug__":Str))=false) J2._auto_1)
  (a:autoParam ((x == ("__classdict__":Str))=false) J2._auto_1):PE X (.Name x pos) (tVar i):=Quk d b c a
theorem iteF{A B:Prop}(h:B):if false=true then A else B:=by
 rw[Y20 yQ]
 exact h
theorem iteT{A B:Prop}(h:A):if true=true then A else B:=by
 rw[Y22 rfl]
 exact h
theorem ite2{c A B:Prop}[Decidable c](b:c->A)(a:¬c->B):if c then A else B:=by
 by_cases h:c
 .rw[Y22 h]
  exact b h
 .rw[Y20 h]
  exact a h
def Same(H H':Hp):Prop:=∀b o,H b=some o->H' b=some o
theorem Same.refl(H:Hp):Same H H:=fun _ _ h=>h
theorem Same.trans{H2:Hp}(a:Same H H1)(b:Same H1 H2):Same H H2:=fun c o h=>b c o (a c o h)
theorem Same.free(e:Same H H')(h:H' l=Option.none):H l=none:=by
 cases q:H l with
 |none=>rfl
 |some o=>
  rw[e l o q]at h
  cases h
theorem Same.seq(e:Same H H')(h:SqL K H a xs):SqL K H' a xs:=by
 rcases h with(h | ⟨o,h⟩) | h
 .exact .inl (.inl (e _ _ h))
 .exact .inl (.inr ⟨o,e _ _ h⟩)
 .exact .inr h
theorem Wq{w:World}{target:Expr}{it acc:Value}{env:Env}(I:Nat->Shared->Prop)
  (b:∀n s,I n s->wpAny (model prog w) A (pyNext it) (fun r s1=>match r with
   |none=>R (.ok .next) s1
   |some v=>wpAny (model prog w) A (letOwnedTupleGo target it v) (fun _ s1'=>wpAny (model prog w) A (assign target env v) (fun _ s2=>
     wpAny (model prog w) A (forIn ifs true fun c r=>if r=true then do let ok ← isTrue c env (eval c env);pure (ForInStep.yield ok)else pure (ForInStep.yield r)) (fun ok s3=>
      if ok=true then wpAny (model prog w) A (eval elt env) (fun x s4=>
       wpAny (model prog w) A (call (.builtin "list.append") [acc,x]) (fun _ s5=>∃m,m<n/\I m s5) (fun _ _=>False) s4) (fun _ _=>False) s3
      else ∃m,m<n/\I m s3) (fun _ _=>False) s2) (fun _ _=>False) s1') (fun _ _=>False) s1) (fun _ _=>False) s)
  (n:Nat) (h:I n s) :
  codeAny (model prog w) A (.compLoop (.ListComp elt [⟨target,iter,ifs,0⟩] scope pos) 0 it acc env) R s:=by
 refine codeAny_loop rfl I (fun n s j=>?_) n h
 show wpAny _ A ((compTurn (.ListComp elt [⟨target,iter,ifs,0⟩] scope pos) 0 it acc env).onRaise (fun x=>do noteFrame x env;theTreesLotGoes x)) _ _ s
 refine wpAny_noted ?_
 rw[compTurn_list]
 refine jQ (Y62 (jQ (Y29 (b n s j) (fun r s1 e=>?_) fun _ _ a=>a.elim)))
 cases r with
 |none=>exact jV e
 |some v=>
  refine jQ (Y29 e (fun _ s1' d=>?_) fun _ _ a=>a.elim)
  refine jQ (Y29 d (fun _ s2 g=>jQ (Y29 g (fun ok s3 f=>?_) fun _ _ a=>a.elim)) fun _ _ a=>a.elim)
  cases ok with
  |false=>exact jV ⟨rfl,f⟩
  |true=>
   exact jQ (jQ (Y29 f (fun x s4 k=>jQ (Y29 k (fun _ s5 i=>jV (jV ⟨rfl,i⟩)) fun _ _ a=>a.elim)) fun _ _ a=>a.elim))
def freeOk(sc:Scope):List (Str×NameKind)->Bool
 |[]=>true
 |(n,k)::r=>(k != .free||sc.names.lookup n == some .cell||sc.names.lookup n == some .free)&&freeOk sc r
def Xz(env:Env):List (Str×NameKind)->List (Str×Addr)->List (Str×Addr)
 |[],cs=>cs
 |(n,k)::r,cs=>Xz env r (if k=.free then(n,(env.cells.lookup n).getD 0)::cs else cs)
theorem Jb{env:Env}:∀(l:List (Str×NameKind)) (cs:List (Str×Addr)),(∀n,(n,NameKind.free)∈l->∃c,env.cells.lookup n=some c)->(∀x c,cs.lookup x=some c->env.cells.lookup x=some c) ->
  ∀x c,(Xz env l cs).lookup x=some c->env.cells.lookup x=some c
 |[],cs,_,h=>h
 |(n,k)::r,cs,hl,h=>by
  refine Jb r _ (fun m f=>hl m (kQ _ f)) fun x c e=>?_
  by_cases a:k=.free
  .rw[Y22 a]at e
   subst a
   obtain⟨g,d⟩:=hl n jY
   rw[wW]at e
   cases b:x == n with
   |true=>
    rw[b]at e
    have:x=n:=by simpa using b
    subst this
    rw[d]at e
    simp at e
    rw[d,e]
   |false=>rw[b]at e;exact h x c e
  .rw[Y20 a]at e
   exact h x c e
theorem Jc{env:Env}:∀(l:List (Str×NameKind)) (cs:List (Str×Addr)) (x:Str),((cs.lookup x).isSome=true\/(x,NameKind.free)∈l)->((Xz env l cs).lookup x).isSome=true
 |[],cs,x,h=>by
  rcases h with h | h
  .exact h
  .exact nomatch h
 |(n,k)::r,cs,x,h=>by
  refine Jc r _ x ?_
  rcases h with h | h
  .left
   split
   .rw[wW]
    split
    .rfl
    .exact h
   .exact h
  .rcases kZ.mp h with e | e
   .cases e
    left
    rw[Y22 rfl,wW]
    simp
   .exact .inr e
theorem Zv{env:Env}(h:∀n,(n,NameKind.free)∈scope.names->∃c,env.cells.lookup n=some c):closureFor scope env=pure (Xz env scope.names []):=by
 unfold closureFor
 suffices ∀(l:List (Str×NameKind)) (b:List (Str×Addr)),(∀n,(n,NameKind.free)∈l->∃c,env.cells.lookup n=some c)->(forIn l b fun x r=>
   if (x.2 == NameKind.free)=true then do let a ← cellOf env x.1;pure (ForInStep.yield ((x.1,a)::r))else pure (ForInStep.yield r):Sem _)=pure (Xz env l b)by
  have:=this scope.names [] h
  simp only at this⊢
  rw[this]
  rfl
 intro l
 induction l with
 |nil=>intro b _;rfl
 |cons p r ih=>
  intro b i
  obtain⟨n,k⟩:=p
  rw[List.forIn_cons]
  by_cases f:k=.free
  .subst f
   obtain⟨c,j⟩:=i n jY
   have e:cellOf env n=pure c:=by unfold cellOf;rw[j]
   have g:(NameKind.free == NameKind.free)=true:=rfl
   simp only[g,if_true,e,Xz,j,Option.getD_some]
   exact ih _ fun m d=>i m (kQ _ d)
  .have g:(k == NameKind.free)=false:=by simpa using f
   simp only[g,jJa,if_false,Xz,Y20 f]
   exact ih _ fun m d=>i m (kQ _ d)
theorem Ym{sc:Scope}:∀{l:List (Str×NameKind)},freeOk sc l=true->∀n,(n,NameKind.free)∈l->sc.names.lookup n=some .cell\/sc.names.lookup n=some .free
 |[],_,n,h=>nomatch h
 |(m,k)::r,h,n,c=>by
  simp only[freeOk,wV]at h
  rcases kZ.mp c with e | e
  .cases e
   have a:=h.1
   have b:(NameKind.free != NameKind.free)=false:=rfl
   rw[b]at a
   simp only[Bool.false_or,kZe,beq_iff_eq]at a
   exact a
  .exact Ym h.2 n e
theorem Xs{env:Env}:∀{names:List (Str×NameKind)} {x:Str} {k:NameKind},(names.map fun(n,k)=>if (k == NameKind.free&&env.scope.kind == .function&&env.kindOf n == some .cell)then(n,NameKind.cell)else(n,k)).lookup x=some k ->
  ∃k0,names.lookup x=some k0/\(k=k0\/(k=.cell/\k0=.free))
 |[],_,_,h=>by simp at h
 |(n,k0)::r,x,k,h=>by
  rw[zX]at h
  by_cases b:(k0 == NameKind.free&&env.scope.kind == .function&&env.kindOf n == some .cell)=true
  .simp only[b,if_true,wW]at h
   rw[wW]
   cases a:x == n with
   |true=>
    rw[a]at h
    refine⟨k0,rfl,.inr ⟨(Y5 h).symm,?_⟩⟩
    simp only[wV,beq_iff_eq]at b
    exact b.1.1
   |false=>rw[a]at h;exact Xs h
  .simp only[b,jJa,if_false,wW]at h
   rw[wW]
   cases a:x == n with
   |true=>rw[a]at h;exact⟨k0,rfl,.inl (Y5 h).symm⟩
   |false=>rw[a]at h;exact Xs h
theorem lookup_mem{α:Type}:∀{l:List (Str×α)} {x:Str} {k:α},l.lookup x=some k->(x,k)∈l
 |[],_,_,h=>by simp at h
 |(n,k0)::r,x,k,h=>by
  rw[wW]at h
  cases a:x == n with
  |true=>
   rw[a]at h
   have b:x=n:=by simpa using a
   have c:k0=k:=Y5 h
   subst b c
   exact jY
  |false=>rw[a]at h;exact kQ _ (lookup_mem h)
theorem HOk.but{w:World}{h:Heap}(x:HOk P w H h)(d:H a=none)(g:Heap.SameBut a h h'):HOk P w H h':=fun b f e=>by
 refine(x b f e).stay (fun c i hc q=>(g.2 c ?_).trans q) (fun _ q=>q) fun _ _ q=>q
 rintro rfl
 rcases hc with rfl | hc
 .rw[d]at e;cases e
 .rw[d]at hc;cases hc
def Ke(cp:List (Option Nat))(σ:St):St:=cp.map fun(o:Option Nat)=>match o with
 |none=>none
 |some j=>match σ[(j:Nat)]? with
  |some v=>v
  |none=>none
def Kf(X:Cx)(scope:Scope):List Str->List (Option Nat)->Bool
 |[],[]=>true
 |x::N,o::cp=>(match o with | none=>true | some j=>X.N[j]? == some x&&scope.names.lookup x == some .free)&&Kf X scope N cp
 |_,_=>false
theorem Qao{X:Cx}{scope:Scope}:∀{N:List Str} {cp:List (Option Nat)},Kf X scope N cp=true->cp.length=N.length
 |[],[],_=>rfl
 |_::N,_::cp,h=>by
  simp only[Kf,wV]at h
  simp[Qao h.2]
 |[],_::_,h=>by simp[Kf]at h
 |_::_,[],h=>by simp[Kf]at h
theorem Qap{X:Cx}{scope:Scope}:∀{N:List Str} {cp:List (Option Nat)} {i:Nat} {x:Str} {v:V} {σ:St},Kf X scope N cp=true->N[i]?=some x->(Ke cp σ)[i]?=some (some v) ->
  ∃j:Nat,X.N[j]?=some x/\σ[j]?=some (some v)/\scope.names.lookup x=some .free
 |[],[],i,x,v,σ,_,h,_=>by simp at h
 |y::N,o::cp,0,x,v,σ,h,e,e2=>by
  simp only[Kf,wV]at h
  have b:y=x:=by simpa using e
  subst b
  cases o with
  |none=>simp[Ke]at e2
  |some j=>
   have a:=h.1
   simp only[wV,beq_iff_eq]at a
   refine⟨j,a.1,?_,a.2⟩
   simp only[Ke,zX,List.getElem?_cons_zero,Option.some.injEq]at e2
   cases q:σ[j]? with
   |none=>rw[q]at e2;cases e2
   |some z=>rw[q]at e2;exact congrArg some e2
 |y::N,o::cp,i+1,x,v,σ,h,e,e2=>by
  simp only[Kf,wV]at h
  exact Qap (i:=i) h.2 (by simpa using e) (by simpa[Ke]using e2)
 |[],_::_,_,_,_,_,h,_,_=>by simp[Kf]at h
 |_::_,[],_,_,_,_,h,_,_=>by simp[Kf]at h
def Yd(X:Cx)(N:List Str)(scope:Scope)(fp:List Addr)(H:Hp)(s:Shared):Cx :=
 { X with N:=N,s₀:=s,H₀:=H,env:=compEnvC scope (Xz X.env scope.names []) s.heap.objs.size X.env,outer:=X.stack,stack:=X.stack,ex:=fp,fn:=fun _=>false,pn:=[],xe:=fun _ _=>False }
theorem Qco{l:List (Str×NameKind)}(h:(l.all fun p=>p.2 != .cell)=true):∀y∈l,y.2≠.cell:=fun y a=>by
 have:=jXa.mp h y a
 simpa using this
theorem Qld(I:Inv X pins σ H s)(j:∀b∈fp,FpOk X pins H b)(m:∀b∈fp,b<s.heap.objs.size)(w:scope.kind=.function)
  (a:(scope.names.all fun p=>p.2 != .cell)=true) (f:freeOk X.env.scope scope.names=true):(Yd X N scope fp H s).Ok:=by
 have has:∀n,(n,NameKind.free)∈scope.names->∃c,X.env.cells.lookup n=some c:=fun n B=>I.ok.has n (Ym f n B)
 have d:∀x c,(Xz X.env scope.names []).lookup x=some c->X.env.cells.lookup x=some c:=Jb _ _ has fun x c e=>by simp at e
 have fs:∀b∈fp,b∉frs X.stack:=fun b g z=>by
  obtain⟨_,t,u,_⟩:=j b g
  rcases kZ.mp (I.stkSub b z)with e | e
  .exact t e
  .exact u e
 refine⟨I.ok.mod,w,I.ok.glob,I.ok.blt,jK _,fun x y c q v=>I.ok.inj x y c (d x c q) (d y c v),fun x D=>?_,(fun x c h=>nomatch h),I.ok.hd,I.ok.frames,.inl rfl,fun b g=>⟨zW (m b g),fun x c e=>(j b g).2.2.2.2.1 x c (d x c e)⟩,
  I.bs,jQc I.ok.bsz I.sz,fun b o e g=>?_,fs,I.stack,I.stkFree⟩
 ·have l:(scope.names.map fun (n,k)=>if (k == NameKind.free && X.env.scope.kind == .function && X.env.kindOf n == some .cell) then (n,NameKind.cell) else (n,k)).lookup x=some .cell \/
    (scope.names.map fun(n,k)=>if (k == NameKind.free&&X.env.scope.kind == .function&&X.env.kindOf n == some .cell)then(n,NameKind.cell)else(n,k)).lookup x=some .free:=D
  have A:(x,NameKind.free)∈scope.names:=by
   rcases l with e | e
   .obtain⟨C,i,z | z⟩:=Xs e
    .subst z
     exact Y21 rfl (Qco a _ (lookup_mem i))
    .obtain⟨_,z⟩:=z
     subst z
     exact lookup_mem i
   .obtain⟨C,i,z | z⟩:=Xs e
    .subst z
     exact lookup_mem i
    .exact nomatch z.1
  exact jJb.mp (Jc _ _ x (.inr A))
 .obtain⟨_,_,_,r,_⟩:=j b g
  rcases r with z | z
  .exact I.ok.noex b o e z
  .exact Y21 (xZ (yK (I.ok.bs b o e).1) z) (jYd _)
theorem Qnc{m:Z9}(I:Inv X pins σ H s)(U:∀b∈fp,FpOk X pins H b)(F:∀b∈fp,b<s.heap.objs.size)(S:scope.kind=.function)
  (g:(scope.names.all fun p=>p.2 != .cell)=true) (a:freeOk X.env.scope scope.names=true) (f:Kf X scope N cp=true)
  (G:h'.Ns s.heap.objs.size m) (w:∀b o,s.heap.get? b=some o->h'.get? b=some o):Inv (Yd X N scope fp H s) [] (Ke cp σ) H { s with heap:=h',toks:=t' }:=by
 have has:∀n,(n,NameKind.free)∈scope.names->∃c,X.env.cells.lookup n=some c:=fun n Y=>I.ok.has n (Ym a n Y)
 have q:∀x c,(Xz X.env scope.names []).lookup x=some c->X.env.cells.lookup x=some c:=Jb _ _ has fun x c e=>by simp at e
 refine⟨Qld I U F S g a,rfl,I.bare,⟨fun b o e n _ _=>w b o e,fun b o e n _ _=>⟨o.slots,w b o e⟩,fun b o e n _=>n,fun b o e _=>⟨o,w b o e⟩,fun b V e=>e,fun b o V e=>e,fun b ps e=>⟨#[],by rw[Array.append_empty];exact e⟩⟩,⟨m,G,fun i x v O M T=>?_⟩,fun x c e=>?_,I.hok.fresh (jK _),fun x c e=>I.freeC x c (q x c e),(fun p Z=>nomatch Z),I.hok.kept w,?_⟩
 .obtain⟨j,L,Q,D⟩:=Qap f O M
  obtain⟨m',_,R⟩:=I.loc
  have A:=Ym a x (lookup_mem D)
  obtain⟨u,r,l⟩:=R j x v L Q (.inr A)
  rcases l with⟨l,_⟩ | ⟨_,c,W,d⟩
  .rcases A with z | z
   .exact nomatch (Y5 (l.symm.trans z))
   .exact nomatch (Y5 (l.symm.trans z))
  .obtain⟨P,B⟩:=jJb.mp (Jc (env:=X.env) scope.names [] x (.inr (lookup_mem D)))
   have J:=q x P B
   rw[W]at J
   cases J
   refine⟨u,r,.inr ⟨?_,c,B,?_⟩⟩
   .rcases T with z | z | z
    .obtain⟨k0,K,y | y⟩:=Xs (show(scope.names.map fun(n,k)=>if (k == NameKind.free&&X.env.scope.kind == .function&&X.env.kindOf n == some .cell)then(n,NameKind.cell)else(n,k)).lookup x=some .local from z)
     .rw[D]at K;cases K;cases y
     .exact nomatch y.1
    .exact .inl z
    .exact .inr z
   .obtain⟨o,C,E⟩:=d
    exact⟨o,w c o C,E⟩
 .obtain⟨v,o,C,E⟩:=I.cell x c (q x c e)
  exact⟨v,o,w c o C,E⟩
 .show(Ke cp σ).length=N.length
  unfold Ke
  rw[jX]
  exact Qao f
theorem Qhl{σ':St}(I:Inv X pins σ H s)(a:∀b∈fp,FpOk X pins H b)
  (J:Inv (Yd X N scope fp H s) pins' σ' H' s'):Inv X pins σ H' s' :=
 I.call' (ch:=fp) J.os J.base J.hok J.bare fun b c=>⟨(a b c).2.2.2.1,(a b c).2.1,(a b c).2.2.2.2.1,(a b c).2.2.2.2.2⟩
def PF(X:Cx)(ifs:List Expr)(t:TT):Prop :=
 ∀(pins:Z8) (s:Shared) (σ:St) (H:Hp) (Q:Bool->Hp->Prop),Inv X pins σ H s->t σ H Q ->
  wpAny (model X.prog X.w) X.A (forIn ifs true fun c r=>if r=true then do let ok ← isTrue c X.env (eval c X.env);pure (ForInStep.yield ok)else pure (ForInStep.yield r)) (TP X pins σ Q) X.xe s
def tYes:TT:=fun _ H Q=>Q true H
theorem Yr:PF X [] tYes:=fun _ _ _ H _ I h=>wpAny_tests_nil ⟨H,I,h⟩
theorem Zw{c:Expr}{t:TT}(d:PT X c t):PF X [c] t:=fun a s b H Q I h=>wpAny_tests_one (d a s b H Q I h)
def LcW(J:It)(D:Addr)(τ0:St)(H:Hp)(g:TG)(tt:TT)(te:TE)(Q:Addr->Hp->Prop):Prop:=∃W:Nat->Nat->St->List V->Hp->Prop,(∃m,W 0 m τ0 [] (upd H D (.lst [])))/\∀i m τ ys H,W i m τ ys H ->
 H D=some (.lst ys)/\((J.stop i H/\Q D H)\/(J.go i H/\ys.length<sizeLine/\∃(N1:St->V->Hp->Prop) (N2:St->Hp->Prop),(∀τ v H,N1 τ v H->∃m',m'<m/\W (i+1) m' τ (ys++[v]) (upd H D (.lst (ys++[v]))))/\(∀τ H,N2 τ H->∃m',m'<m/\W (i+1) m' τ ys H) /\
  ∀x H',J.yld i H x H'->g x τ H' fun σ2 H2=>tt σ2 H2 fun ok H3=>if ok=true then te σ2 H3 fun v H4=>H4 D=some (.lst ys)/\N1 σ2 v H4 else N2 σ2 H3))
def tLC(cp:List (Option Nat))(wi:TI)(g:TG)(tt:TT)(te:TE)(σ:St)(H:Hp)(Q:Addr->Hp->Prop):Prop:=wi σ H fun J H1=>∀D,H1 D=none->LcW J D (Ke cp σ) H1 g tt te Q
theorem Qje{target:Expr}{Q:Addr->Hp->Prop}
    {tn:Nat->Heap->Prop}  {RR:Value->Addr->Result->Shared->Prop} (hc:X.calm=true) (hk:scope.kind=.function) (j:(scope.names.all fun p=>p.2 != .cell)=true) (O:freeOk X.env.scope scope.names=true) (ac:Kf X scope N cp=true)
  (hg:∀fp H s,PG (Yd X N scope fp H s) target g) (ht:∀fp H s,PF (Yd X N scope fp H s) ifs tt) (he:∀fp H s,PE (Yd X N scope fp H s) elt te)
  (I:Inv X pins σ H s) (T:Turn X.prog X.w X.K target J fp it tn) (st:tn 0 s.heap) (hf:∀b∈fp,FpOk X pins H b)
  (h:∀D,H D=none->LcW J D (Ke cp σ) H g tt te Q)
  (ao:∀D C s' H' m,Inv X pins σ H' s'->FpOk X pins H' C->s'.heap.Ns C m->Q D H'->RR (.ref D) C (.ok .next) s') :
  wpAny (model X.prog X.w) X.A (newList []) (fun acc s3=>wpAny (model X.prog X.w) X.A (newFunctionEnv scope X.env.globals (Xz X.env scope.names []) [] X.env.qual none .none (some X.env)) (fun cenv s4=>
   codeAny (model X.prog X.w) X.A (.compStart (.ListComp elt [⟨target,iter,ifs,0⟩] scope pos) 0 (.ref it) acc { cenv with scope:=relabel scope X.env }) (RR acc cenv.locals) s4) E s3) E s:=by
 have ag:∀b∈fp,b<s.heap.objs.size:=fun b c=>by
  obtain⟨o,e,_⟩:=T.obj _ _ st b c
  exact yK e
 refine Y26 (wpAny_newFunctionEnv (Qco j) (by intro y hy;simp at hy) (fun V z l=>?_) hk)
 dsimp only at z l⊢
 have hD:H s.heap.objs.size=none:=I.hok.fresh (jK _)
 have I3:Inv X pins σ (upd H s.heap.objs.size (.lst [])) { s with heap:=s.heap.push { cls:=.type "list",dict:=none,data:=.seq ([]:List Value).toArray } } :=
  I.laid (t':=s.toks) (fun b u e=>jZ _ e) (jK _) ⟨xW _,[],0,.nil,yY _ rfl⟩
 have P:∀b∈fp,FpOk X pins (upd H s.heap.objs.size (.lst [])) b:=fun b c=>⟨by rw[Qj (zW (ag b c))];exact(hf b c).1,(hf b c).2⟩
 have B:∀b∈fp,b<(s.heap.push { cls:=.type "list",dict:=none,data:=.seq ([]:List Value).toArray }).objs.size:=fun b c=>by rw[jZb];exact jKb (ag b c)
 generalize al:s.heap.push { cls:=.type "list",dict:=none,data:=.seq ([]:List Value).toArray }=H2 at z l I3 B⊢
 generalize Z:({ s with heap:=H2 }:Shared)=s3 at I3
 have f:s3.heap=H2:=by rw[<-Z]
 have M:∀b o,s3.heap.get? b=some o->V.get? b=some o:=fun b o e=>by
  rw[f]at e
  exact l.extBut b o (zW (yK e)) (jZ _ e)
 have J0:Inv (Yd X N scope fp (upd H s.heap.objs.size (.lst [])) s3) [] (Ke cp σ) (upd H s.heap.objs.size (.lst [])) { s3 with heap:=V,toks:=s.toks+([]:List (Str×Value)).length } :=
  Qnc I3 P (by rw[f];exact B) hk j O ac (by rw[f];exact z) M
 have ad:tn 0 V:=T.keep _ _ _ st fun b c o e=>M b o (by rw[f,<-al];exact jZ _ e)
 obtain⟨W,⟨m0,w0⟩,ae⟩:=h s.heap.objs.size hD
 have q:∀{H':Hp},(∀b∈fp,H' b=none)->∀b∈fp,FpOk (Yd X N scope fp (upd H s.heap.objs.size (.lst [])) s3) [] H' b:=fun{H'} hn b c=>
  ⟨hn b c,(J0.ok.exf b c).1,J0.ok.exfs b c,.inl c,(J0.ok.exf b c).2,fun p hp=>nomatch hp⟩
 have G:codeAny (model X.prog X.w) X.A (.compLoop (.ListComp elt [⟨target,iter,ifs,0⟩] scope pos) 0 (.ref it) (.ref s.heap.objs.size) (compEnvC scope (Xz X.env scope.names []) H2.objs.size X.env))
   (RR (.ref s.heap.objs.size) H2.objs.size) { s3 with heap:=V,toks:=s.toks+([]:List (Str×Value)).length }:=by
  have F:compEnvC scope (Xz X.env scope.names []) H2.objs.size X.env=(Yd X N scope fp (upd H s.heap.objs.size (.lst [])) s3).env:=by
   rw[<-f];rfl
  rw[F]
  refine Wq (fun n s'=>∃i R U H',Inv (Yd X N scope fp (upd H s.heap.objs.size (.lst [])) s3) [] R H' s'/\tn i s'.heap/\(∀b∈fp,H' b=none)/\W i n R U H') ?_ m0 ⟨0,Ke cp σ,[],_,J0,ad,fun b c=>(P b c).1,w0⟩
  rintro n s4 ⟨i,R,U,H4,I4,Y,ab,w4⟩
  obtain⟨au,hh⟩:=ae i n R U H4 w4
  rcases hh with⟨af,qn⟩ | ⟨go,aa,N1,N2,ap,aj,step⟩
  .refine thn (T.done (Yd X N scope fp (upd H s.heap.objs.size (.lst [])) s3) rfl rfl rfl hc i [] s4 R H4 _ I4 (q ab) Y af) fun r s5 a=>?_
   obtain⟨hr,I5⟩:=a
   subst hr
   obtain⟨m,hm,_⟩:=I5.loc
   have e5:H2.objs.size=(Yd X N scope fp (upd H s.heap.objs.size (.lst [])) s3).env.locals:=by rw[<-F];rfl
   refine ao _ _ s5 H4 m (Qhl I3 P I5) ?_ (by rw[e5];exact hm) qn
   exact I3.fpOk (by rw[f];exact jK _) (by rw[e5];exact I5.free)
  .refine thn (T.item (Yd X N scope fp (upd H s.heap.objs.size (.lst [])) s3) rfl rfl rfl hc i [] s4 R H4 _ I4 (q ab) Y go) fun r s5 a=>?_
   obtain⟨u,hr,h5⟩:=a
   subst hr
   refine thn h5 fun _ s6 a=>?_
   obtain⟨x,H6,I6,r6,y6,S,ai⟩:=a
   have an:=I6.pinned (q ai) (T.obj _ _ S)
   refine thn (hg fp _ _ _ s6 R H6 x u _ an r6 (step x H6 y6)) fun _ s7 a=>?_
   obtain⟨k,H7,I7,q7⟩:=a
   refine thn (ht fp _ _ _ s7 k H7 _ I7 q7) fun ok s8 a=>?_
   obtain⟨H8,I8,q8⟩:=a
   have L:∀{σ':St} {H':Hp} {s':Shared},Inv (Yd X N scope fp (upd H s.heap.objs.size (.lst [])) s3) ([]++Qcl fp s6.heap) σ' H' s'->Inv (Yd X N scope fp (upd H s.heap.objs.size (.lst [])) s3) [] σ' H' s'/\tn (i+1) s'.heap/\∀b∈fp,H' b=none:=fun{σ' H' s'} I'=>by
    refine⟨I'.unpinned,T.keep _ _ _ S fun b c o e=>(I'.pin (b,o) (yX _ (yX _ (Ja c e)))).1,fun b c=>?_⟩
    obtain⟨o,e,d⟩:=T.obj _ _ S b c
    exact(I'.pin (b,o) (yX _ (yX _ (Ja c e)))).2.1
   cases ok with
   |false=>
    rw[Y20 yQ]at q8⊢
    obtain⟨m',hm,w8⟩:=aj _ _ q8
    obtain⟨b1,b2,b3⟩:=L I8
    exact⟨m',hm,i+1,k,U,H8,b1,b2,b3,w8⟩
   |true=>
    rw[Y22 rfl]at q8⊢
    refine thn (he fp _ _ _ s8 k H8 _ I8 q8) fun y s9 a=>?_
    obtain⟨v,H9,I9,r9,am,n9⟩:=a
    obtain⟨m',hm,w9⟩:=ap _ _ _ n9
    refine thn (Xh _ s9 k H9 (.ref s.heap.objs.size) [v] (.ref s.heap.objs.size) [y] (fun _ H'=>H'=upd H9 s.heap.objs.size (.lst (U++[v]))) I9 rfl (.cons r9 .nil) ⟨_,U,v,rfl,rfl,am,aa,rfl⟩) fun _ aq a=>?_
    obtain⟨_,ar,ah,_,ak⟩:=a
    subst ak
    obtain⟨b1,b2,b3⟩:=L ah
    exact⟨m',hm,i+1,k,_,_,b1,b2,b3,w9⟩
 have e3:({ s with heap:=V,toks:=s.toks+([]:List (Str×Value)).length }:Shared)={ s3 with heap:=V,toks:=s.toks+([]:List (Str×Value)).length }:=by rw[<-Z]
 rw[e3]
 exact codeAny_compStart_list G (T.self _ 0 _ _ _ ad G)
theorem Yu{target:Expr}(N:List Str)(cp:List (Option Nat))(P:X.calm=true)(E:PI X target iter wi)
  (W:∀fp H s,PG (Yd X N scope fp H s) target g) (w:∀fp H s,PF (Yd X N scope fp H s) ifs tt) (he:∀fp H s,PE (Yd X N scope fp H s) elt te)
  (u:autoParam (scope.kind=.function) J1._auto_1) (f:autoParam ((scope.names.all fun p=>p.2 != .cell)=true) J1._auto_1) (a:autoParam (freeOk X.env.scope scope.names=true) J1._auto_1) (j:autoParam (Kf X scope N cp=true) J1._auto_1)
  (d:autoParam ((scope.names.all fun p=>p.2 != .local||scope.names.lookup p.1 == some .local)=true) J1._auto_1) (R:autoParam (∀x,foldedSetIterable iter X.env x=pure x) J4._auto_1) :
  PE X (.ListComp elt [⟨target,iter,ifs,0⟩] scope pos) (fun σ H Q=>tLC cp wi g tt te σ H fun D H'=>Q (.ref D) H'):=by
 intro k s σ H Q I h
 rw[eval_ListComp]
 have has:∀n,(n,NameKind.free)∈scope.names->∃c,X.env.cells.lookup n=some c:=fun n O=>I.ok.has n (Ym a n O)
 refine wpAny_comprehension_free (use:=none) rfl R (Zv has) u (fun x S G=>?_) (thn (E k s σ H _ I h) fun Y s1 v=>thn v fun M Z B=>?_)
 .have:=jXa.mp d x S
  simp only[kZe,bne_iff_ne,beq_iff_eq]at this
  exact this.resolve_left fun z=>z G
 .obtain⟨it,fp,tn,J,H2,e,F,T,r,A,y⟩:=B
  subst e
  refine Qje (N:=N) (cp:=cp) P u f a j W w he F T r A y fun D C U H' m V i K q=>⟨m,K,fun h' l=>?_⟩
  exact⟨.ref D,H',V.turned (t':=U.toks) (fun b o L e=>l.extBut b o L e) i.1 i.2.1 i.2.2.2.1 i.2.2.2.2.1 i.2.2.2.2.2,rfl,q⟩
theorem Qaq{target:Expr}{spos:Pos}(N:List Str)(cp:List (Option Nat))(hc:X.calm=true)(R:X.N.Nodup)(B:X.N[i]?=some x)(L:Loc X.env.scope x)(Y:PI X target iter wi)
  (hg:∀fp H s,PG (Yd X N scope fp H s) target g) (S:∀fp H s,PF (Yd X N scope fp H s) ifs tt) (he:∀fp H s,PE (Yd X N scope fp H s) elt te)
  (E:autoParam (swapsWith (.ListComp elt [⟨target,iter,ifs,0⟩] scope pos) (some (.Name x px)) spos.line X.env=pure true) J1._auto_1)
  (M:autoParam (scope.kind=.function) J1._auto_1) (l:autoParam ((scope.names.all fun p=>p.2 != .cell)=true) J1._auto_1) (d:autoParam (freeOk X.env.scope scope.names=true) J1._auto_1) (u:autoParam (Kf X scope N cp=true) J1._auto_1)
  (f:autoParam ((scope.names.all fun p=>p.2 != .local||scope.names.lookup p.1 == some .local)=true) J1._auto_1) (hs:autoParam (∀x,foldedSetIterable iter X.env x=pure x) J4._auto_1)
  (hf:autoParam (X.fn x=true\/X.env.scope.names.lookup x=some .local) J3._auto_1) :
  PS X (.Assign [.Name x px] (.ListComp elt [⟨target,iter,ifs,0⟩] scope pos) spos) (fun D σ H=>tLC cp wi g tt te σ H fun a H'=>D.nx (σ.set i (some (.ref a))) H'):=by
 intro j s σ H D I h
 have has:∀n,(n,NameKind.free)∈scope.names->∃c,X.env.cells.lookup n=some c:=fun n hn=>I.ok.has n (Ym d n hn)
 rw[exec_Assign_Name_used _ _ _ _ E]
 refine jQ (Y62 (jQ ?_))
 show wpAny _ _ (do let _ ← comprehension (.ListComp elt [⟨target,iter,ifs,0⟩] scope pos) scope X.env _ (newList []) false (eval iter X.env) (some (assign (.Name x px) X.env))) _ _ s
 refine jQ (Y29 (wpAny_comprehension_free (use:=some (assign (.Name x px) X.env)) (Q:=fun _ K=>SP X j D .next K) rfl hs (Zv has) M (fun x L hl=>?_)
  (thn (Y j s σ H _ I h) fun xv s1 P=>thn P fun aa s2 W=>?_)) (fun _ K hq=>jV (jV hq)) fun _ _ e=>e)
 .have:=jXa.mp f x L
  simp only[kZe,bne_iff_ne,beq_iff_eq]at this
  exact this.resolve_left fun z=>z hl
 .obtain⟨it,fp,tn,J,H2,e,Z,T,F,V,U⟩:=W
  subst e
  refine Qje (N:=N) (cp:=cp) hc M l d u hg S he Z T F V U fun O C K H' m I' r hm q=>?_
  show wpAny _ _ (assign (.Name x px) X.env (.ref O)) _ _ _
  refine wpAny_assign_Name (Qae I' R B L (v:=.ref O) rfl (fun A G k=>?_) hf)
  obtain⟨a,k,ha⟩:=k
  have y:C≠a:=by
   rcases ha with e | e
   .rw[e];exact r.2.1
   .exact fun z=>r.2.2.2.2.1 x a e z.symm
  refine⟨m,hm.sameBut k y,fun h' w=>?_⟩
  exact⟨_,H',G.turned (t':=A.toks) (fun b o hb e=>w.extBut b o hb e) r.1 r.2.1 r.2.2.2.1 r.2.2.2.2.1 r.2.2.2.2.2,q⟩
structure Drw(P:Program)(w:World)(it l:Addr)(st:Nat->Heap->Prop)(src:List Value->Heap->Prop):Prop where
 obj:∀i h,st i h->∃o,h.get? it=some o/\∀v,o.data≠.cell v
 keep:∀i h h',st i h->(∀o,h.get? it=some o->h'.get? it=some o)->st i h'
 srck:∀xs h h',src xs h->(∀o,h.get? l=some o->h'.get? l=some o)->src xs h'
 item:∀(A:Around) (E:VP) (s:Shared) (i:Nat) (xs:List Value) (x:Value) (Q:VP),st i s.heap->src xs s.heap->xs[i]?=some x ->
  (∀h',st (i+1) h'->Heap.SameBut it s.heap h'->Q x { s with heap:=h' })->wpAny (model P w) A (Builtin.SmallTypes.nextOf (.ref it)) Q E s
 done:∀(A:Around) (E:VP) (s:Shared) (i:Nat) (xs:List Value) (Q:VP),A.handled=none->st i s.heap->src xs s.heap->xs[i]?=none ->
  (∀h' e,Heap.ExtBut it s.heap h'->(∃o,h'.get? e=some o/\o.cls=.type "StopIteration")->E (.ref e) { s with heap:=h' })->wpAny (model P w) A (Builtin.SmallTypes.nextOf (.ref it)) Q E s
theorem Qrh{w:World}(g l:Addr):Drw P w g l (fun i h=>h.IsListIter g l i) (fun xs h=>h.IsList l xs.toArray) where
 obj:=fun i h a=>by
  obtain⟨o,e,c,d⟩:=a
  exact⟨o,e,fun v z=>by rw[d]at z;cases z⟩
 keep:=fun i h p a k=>a.at k
 srck:=fun xs h p b k=>b.at k
 item:=fun A E s i xs x Q a b f n=>wpAny_nextOf_list_item a b (by simpa using f) n
 done:=fun A E s i xs Q j a b f m=>wpAny_nextOf_list_end j a b (by simpa using f) m
section
variable{w:World}
theorem Qar{t:Addr}{xs:Array Value}{x:Value}{Q:VP}(c:s.heap.IsTupleIter it t i)(e:s.heap.IsTuple t xs)(g:xs[i]?=some x)
  (k:∀h',h'.IsTupleIter it t (i+1)->Heap.SameBut it s.heap h'->Q x { s with heap:=h' }):wpAny (model P w) A (Builtin.SmallTypes.nextOf (.ref it)) Q E s:=by
 obtain⟨l,b,d,a⟩:=id c
 obtain⟨n,j,_,m,f⟩:=e
 unfold Builtin.SmallTypes.nextOf
 refine jQ (wpAny_callSpecial?_slot (name:=Str.ofString "__next__") c.typeIs Y52 (Y25 Y52 c.typeIs F.entry_tuple_iterator_next ?_ (F.args_tuple_iterator_next_1 _)))
 show wpAny _ _ (field (.ref it) 0 >>= _) _ _ s
 refine jQ (Y23 b a (x:=.ref t) rfl ?_)
 show wpAny _ _ (if (Value.ref t == Value.none)=true then _ else _) _ _ s
 rw[Y20 (show ¬((Value.ref t == Value.none)=true)from yQ)]
 show wpAny _ _ (field (.ref it) 1 >>= _) _ _ s
 refine jQ (Y23 b a (x:=.int i 0) rfl ?_)
 show wpAny _ _ (seqItems? (.ref t) >>= _) _ _ s
 refine jQ (wpAny_seqItems j f ?_)
 simp only[jYa,g]
 refine jQ (Y53 b a (by simp) (jV ⟨x,rfl,jV (k _ ?_ (Y67 ..))⟩))
 refine⟨_,jYc _ b (Y61 (Y42 a _)),(Obj.cls_mapFields ..).trans d,?_⟩
 rw[Y42 a];simp[rawInt]
theorem Qcb{t:Addr}{xs:Array Value}{Q:VP}(f:A.handled=none)(d:s.heap.IsTupleIter it t i)(g:s.heap.IsTuple t xs)(k:xs[i]?=none)
  (l:∀h' e,Heap.ExtBut it s.heap h'->(∃o,h'.get? e=some o/\o.cls=.type "StopIteration")->E (.ref e) { s with heap:=h' }):wpAny (model P w) A (Builtin.SmallTypes.nextOf (.ref it)) Q E s:=by
 obtain⟨q,c,p,b⟩:=id d
 obtain⟨u,n,_,r,j⟩:=g
 unfold Builtin.SmallTypes.nextOf
 refine jQ (wpAny_callSpecial?_slot (name:=Str.ofString "__next__") d.typeIs Y52 (Y25 Y52 d.typeIs F.entry_tuple_iterator_next ?_ (F.args_tuple_iterator_next_1 _)))
 show wpAny _ _ (field (.ref it) 0 >>= _) _ _ s
 refine jQ (Y23 c b (x:=.ref t) rfl ?_)
 show wpAny _ _ (if (Value.ref t == Value.none)=true then _ else _) _ _ s
 rw[Y20 (show ¬((Value.ref t == Value.none)=true)from yQ)]
 show wpAny _ _ (field (.ref it) 1 >>= _) _ _ s
 refine jQ (Y23 c b (x:=.int i 0) rfl ?_)
 show wpAny _ _ (seqItems? (.ref t) >>= _) _ _ s
 refine jQ (wpAny_seqItems n j ?_)
 simp only[jYa,k]
 refine jQ (Y58 (jQ (Y53 c b (by simp) ?_)))
 show wpAny _ _ (newExc (.type "StopIteration") [] >>= _) _ _ _
 refine jQ ?_
 simp only[newExc,newTuple]
 refine jQ (Y26 ?_ (by size_fits))
 refine jQ (m:=firstArgMember _ _) (Y32 (a:=Value.none) (by first | rfl | (simp only[firstArgMember];rfl)) ?_)
 refine Y26 ?_ (by size_fits)
 simp only[raiseNew]
 refine jQ (wpAny_handled ?_)
 first | rw[show A.in1.handled=none from f] | rw[f]
 exact jQ (jV (wpAny_throw (l _ _ (((Y67 ..).extBut.push _).push _) ⟨_,yY _ rfl,rfl⟩)))
end
theorem Qvz{w:World}(g l:Addr):Drw P w g l (fun i h=>h.IsTupleIter g l i) (fun xs h=>h.IsTuple l xs.toArray) where
 obj:=fun i h a=>by
  obtain⟨o,e,c,d⟩:=a
  exact⟨o,e,fun v z=>by rw[d]at z;cases z⟩
 keep:=fun i h p a k=>a.at k
 srck:=fun xs h p b k=>b.at k
 item:=fun A E s i xs x Q a b f n=>Qar a b (by simpa using f) n
 done:=fun A E s i xs Q j a b f m=>Qcb j a b (by simpa using f) m
def Jl(n:String)(l:Addr):Obj:={ cls:=.type n,data:=.fields #[.ref l,.int 0 0] }
structure Itr0(n:String)(l:Addr)(pr:Heap->Prop):Prop where
 go:∀(P:Program) (w:World) (A:Around) (E:VP) (s:Shared) (Q:VP),pr s.heap->Q (.ref s.heap.objs.size) { s with heap:=s.heap.push (Jl n l) }->wpAny (model P w) A (pyIter (.ref l)) Q E s
 push:∀h o,pr h->pr (h.push o)
theorem Qnd(l:Addr)(xs:Array Value):Itr0 "list_iterator" l (fun h=>h.IsList l xs):=⟨fun _ _ _ _ _ _ a h=>Y51 a h,fun _ _ a=>a.push _⟩
theorem Qri(l:Addr)(xs:Array Value):Itr0 "tuple_iterator" l (fun h=>h.IsTuple l xs):=⟨fun _ _ _ _ _ _ a h=>wpAny_pyIter_tuple a h,fun _ _ a=>a.push _⟩
def Sq(K:Fg)(m:Bool)(H:Hp)(a:Addr)(xs:List V):Prop:=if m=true then SqL K H a xs else SqT K H a xs
def itN(m:Bool):String:=if m=true then "list_iterator" else "tuple_iterator"
def itSt(m:Bool)(it l:Addr)(i:Nat)(h:Heap):Prop:=if m=true then h.IsListIter it l i else h.IsTupleIter it l i
def Qrj(m:Bool)(l:Addr)(xs:List Value)(h:Heap):Prop:=if m=true then h.IsList l xs.toArray else h.IsTuple l xs.toArray
theorem Jm{w:World}(m:Bool)(a l:Addr):Drw P w a l (itSt m a l) (Qrj m l):=by
 cases m
 .exact Qvz a l
 .exact Qrh a l
theorem Qne(m:Bool)(l:Addr)(xs:List Value):Itr0 (itN m) l (Qrj m l xs):=by
 cases m
 .exact Qri l xs.toArray
 .exact Qnd l xs.toArray
theorem Qjf(m:Bool){h:Heap}(e:h.get? it=some (Jl (itN m) l)):itSt m it l 0 h:=by
 cases m
 .exact⟨_,e,rfl,rfl⟩
 .exact⟨_,e,rfl,rfl⟩
theorem Inv.sq(I:Inv X pins σ H s)(h:Sq X.K m H a xs):∃its:List Value,Vals xs its/\Qrj m a its s.heap/\xs.length<=sizeLine:=by
 cases m
 .obtain⟨its,c,p,b⟩:=I.tuple h
  exact⟨its,c,p,by first | exact b | lia⟩
 .obtain⟨its,c,p,b⟩:=I.list h
  exact⟨its,c,p.isList,by first | exact b | lia⟩
theorem Inv.sq_inj(I:Inv X pins σ H s)(h:Sq X.K m H a xs)(h':Sq X.K m H a ys):xs=ys:=by
 cases m
 .exact I.tuple_inj h h'
 .exact I.list_inj h h'
theorem Inv.tupNew{T:Addr}(I:Inv X pins σ H s)(l:s.heap.objs.size<=T)(r:Vals xs its)(hz:xs.length<=sizeLine)(e:h'.get? T=some { cls:=.type "tuple",data:=.seq its.toArray })
  (f:∀b∈ch,FpOk X pins H b) (k:∀b o,b∉ch->s.heap.get? b=some o->h'.get? b=some o) (A:∀b∈ch,∃o,h'.get? b=some o):Inv X pins σ (upd H T (.tup xs)) { s with heap:=h' }:=by
 have i:H T=none:=I.hok.fresh l
 have j:∀b o,H b=some o->b∉ch:=fun b o e z=>by rw[(f b z).1]at e;cases e
 refine I.step (g':=s.gens) (t':=s.toks) (d':=s.drawn) (ch:=ch) (fun b a=>⟨(f b a).2.2.2.1,(f b a).2.1,(f b a).2.2.2.2.1,(f b a).2.2.2.2.2⟩) (fun b o _ _ hc q _=>k b o hc q) (fun b o _ _ hc q _=>⟨o.slots,k b o hc q⟩) (fun b o _ q n=>?_) (fun b o hc q=>⟨o,k b o hc q⟩)
  (fun b xs q=>?_) (fun b o u q=>?_) (fun b ps q=>⟨#[],?_⟩) (fun m y=>?_) (fun b x q=>?_) I.bare
 .rw[Qj (zW (xZ (yK q) l))];exact n
 .rw[Qj (Qk q i)];exact q
 .rw[Qj (Qk q i)];exact q
 .rw[Qj (Qk q i),Array.append_empty];exact q
 .obtain⟨o,p,w,q,d,r⟩:=y
  exact⟨o,p,w,k _ o (fun z=>(f _ z).2.1 rfl) q,d,r⟩
 .by_cases a:b=T
  .subst a
   rw[Qc]at q;cases q
   exact⟨hz,its,r,_,e,rfl,_,rfl⟩
  .rw[Qj a]at q
   refine(I.hok b x q).stay (fun c v hc r=>k c v ?_ r) (fun c r=>by rw[Qj (Qk r i)];exact r) fun c xs r=>by rw[Qj (Qk r i)];exact r
   rcases hc with rfl | hc
   .exact j _ _ q
   .exact j _ _ hc
theorem Qrk{xs:List Value}{h:Heap}(e:Qrj m a xs h):a<h.objs.size:=by
 cases m
 .obtain⟨o,e,_⟩:=e;exact yK e
 .obtain⟨o,e,_⟩:=e;exact yK e
def isiV(K:Fg)(H:Hp):V->String->Bool->Prop
 |.int _,T,b=>(T="int"/\b=true)\/(T="bool"/\b=false)\/(T="tuple"/\b=false)
 |.bl _,T,b=>(T="int"/\b=true)\/(T="bool"/\b=true)\/(T="tuple"/\b=false)
 |.ref a,T,b=>(∃xs,SqT K H a xs)/\((T="tuple"/\b=true)\/(T="int"/\b=false)\/(T="bool"/\b=false))
 |_,_,_=>False
theorem Qjg:Zy X (.builtin "isinstance") (fun xs H Q=>∃x T b,xs=[x,.ty T]/\isiV X.K H x T b/\Q (.bl b) H):=by
 intro f s m H xs w Q I k h
 obtain⟨x,T,b,rfl,d,q⟩:=h
 obtain⟨u,v,rfl,g,j⟩:=k.two
 cases j
 have fin:∀(i:Nat),EP X f m Q (.bool b) { s with toks:=i }:=fun i=>⟨.bl b,H,I.tok i,rfl,q⟩
 cases x with
 |int n=>
  obtain⟨t,rfl⟩:=g
  rcases d with⟨rfl,rfl⟩ | ⟨rfl,rfl⟩ | ⟨rfl,rfl⟩
  .exact IsiPair.int_int (fin s.toks)
  .exact IsiPair.int_bool (fin _)
  .exact IsiPair.int_tuple (fin _)
 |bl n=>
  cases g
  rcases d with⟨rfl,rfl⟩ | ⟨rfl,rfl⟩ | ⟨rfl,rfl⟩
  .exact IsiPair.bool_int (fin s.toks)
  .exact IsiPair.bool_bool (fin s.toks)
  .exact IsiPair.bool_tuple (fin _)
 |ref a=>
  cases g
  obtain⟨⟨xs,p⟩,d⟩:=d
  obtain⟨l,r,⟨o,e,c,_⟩,_⟩:=I.tuple p
  rcases d with⟨rfl,rfl⟩ | ⟨rfl,rfl⟩ | ⟨rfl,rfl⟩
  .exact IsiPair.tuple_tuple e c (fin s.toks)
  .exact IsiPair.tuple_int e c (fin _)
  .exact IsiPair.tuple_bool e c (fin _)
 |non=>exact d.elim
 |str _=>exact d.elim
 |byt _=>exact d.elim
 |flt _=>exact d.elim
 |ty _=>exact d.elim
def CDivB(i j:Int):Prop:=0<j/\j.natAbs.log2<9000
theorem Qjh:OpR X (binaryOp .FloorDiv) (rI CDivB fun i j=>.int (i / j)):=opI fun i j _ _ _ _ _ a q=>by
 refine floordiv_int (kKd a.1) ?_ (.inl (PyProof.noPylong_of_log2 a.2))
 rw[Int.fdiv_eq_ediv_of_nonneg _ (Int.le_of_lt a.1)]
 exact q
theorem Vm(n:X.calm=true):Zy X (.builtin "sum") (fun xs H Q=>∃(a:Addr) (ns:List Int),xs=[.ref a]/\SqL X.K H a (ns.map V.int)/\Q (.int ns.sum) H):=by
 intro g s w H xs x Q I o h
 obtain⟨a,ns,rfl,l,q⟩:=h
 obtain⟨u,rfl,i⟩:=o.one
 cases i
 obtain⟨b,r,p,z⟩:=I.list l
 have e:IntsAre b.toArray.toList ns:=intsAre_of r
 have c:AllInts b.toArray:=e.allInts
 obtain⟨xs,f⟩:=c.items
 have d:s.heap.IsList a (intItems xs):=f▸p.isList
 refine sum_intListG (I.ok.hd n) d fun y A v m=>?_
 have k:ns=xs.toList.map (·.1):=by
  rw[<-nums_intItems,<-f]
  exact(show numsOf b.toArray.toList=ns from e.numsOf).symm
 have j:preSum (numAt xs) xs.size=ns.sum:=by
  rw[preSum_eq,wQ (by simp),k]
 rw[j]
 exact⟨.int ns.sum,H,I.kept m,⟨_,rfl⟩,q⟩
theorem Qnf{bs:List Bool}(r:Vals (bs.map V.bl) its){v:Value}(h:its[i]?=some v):∃b,bs[i]?=some b/\v=.bool b:=by
 have e:=r.length
 obtain⟨f,_⟩:=kX.mp h
 rw[jX]at e
 have a:bs[i]?=some bs[i]:=gE Om
 obtain⟨u,c,d⟩:=r.get (i:=i) (x:=.bl bs[i]) (by rw[yW,a];rfl)
 rw[h]at c;cases c
 exact⟨_,a,d⟩
theorem Qrl(bs:List Bool):((List.range bs.length).all fun i=>(bs[i]?).getD true)=bs.all id:=by
 rw[jZf]
 simp only[jXa,jKc,id]
 constructor
 .intro h b c
  obtain⟨i,a,e⟩:=yXc c
  have:=h i a
  rw[gE a]at this
  simpa[e]using this
 .intro h i a
  rw[gE a]
  exact h _ (kZb a)
theorem Qrm(bs:List Bool):((List.range bs.length).any fun i=>(bs[i]?).getD false)=bs.any id:=by
 rw[jZf]
 simp only[jXb,jKc,id]
 constructor
 .rintro⟨i,a,h⟩
  rw[gE a]at h
  exact⟨_,kZb a,h⟩
 .rintro⟨b,c,h⟩
  obtain⟨i,a,e⟩:=yXc c
  exact⟨i,a,by rw[gE a];simpa[e]using h⟩
theorem Qng{h:Heap}(a:∀b x,b∉[h.objs.size]->(h.push o).get? b=some x->h'.get? b=some x):∀b x,h.get? b=some x->h'.get? b=some x:=fun b x e=>
 a b x (fun c=>by rw[jW.mp c]at e;exact jYd _ (yK e)) (jZ _ e)
theorem Qnh(o:X.calm=true):Zy X (.builtin "all") (fun xs H Q=>∃(a:Addr) (bs:List Bool),xs=[.ref a]/\SqL X.K H a (bs.map V.bl)/\Q (.bl (bs.all id)) H):=by
 intro g s w H xs y Q I t h
 obtain⟨a,bs,rfl,l,q⟩:=h
 obtain⟨u,rfl,k⟩:=t.one
 cases k
 obtain⟨c,r,p,B⟩:=I.list l
 have d:a<s.heap.objs.size:=by obtain⟨_,e,_⟩:=p.isList;exact yK e
 have f:=r.length
 rw[jX]at f
 refine call_all_walk (Y51 p.isList ?_)
 refine⟨s.heap.objs.size,[s.heap.objs.size,a],[s.heap.objs.size],c.toArray.size,_,_,fun i=>(bs[i]?).getD true,rfl,Walks.list (A:=X.A.in1) (I.ok.hd o) _ a (zW d) c.toArray,⟨⟨_,yY _ rfl,rfl,rfl⟩,p.isList.push _⟩,fun i v F C x m j=>?_,fun z D n=>?_⟩
 .obtain⟨b,e,rfl⟩:=Qnf r (by simpa using m)
  simp only[e,Option.getD_some]at j
  exact Y31 j
 .rw[kY,<-f,Qrl]
  exact⟨.bl (bs.all id),H,I.kept (Qng n),rfl,q⟩
theorem Qni(o:X.calm=true):Zy X (.builtin "any") (fun xs H Q=>∃(a:Addr) (bs:List Bool),xs=[.ref a]/\SqL X.K H a (bs.map V.bl)/\Q (.bl (bs.any id)) H):=by
 intro g s w H xs y Q I t h
 obtain⟨a,bs,rfl,l,q⟩:=h
 obtain⟨u,rfl,k⟩:=t.one
 cases k
 obtain⟨c,r,p,B⟩:=I.list l
 have d:a<s.heap.objs.size:=by obtain⟨_,e,_⟩:=p.isList;exact yK e
 have f:=r.length
 rw[jX]at f
 refine call_any_walk (Y51 p.isList ?_)
 refine⟨s.heap.objs.size,[s.heap.objs.size,a],[s.heap.objs.size],c.toArray.size,_,_,fun i=>(bs[i]?).getD false,rfl,Walks.list (A:=X.A.in1) (I.ok.hd o) _ a (zW d) c.toArray,⟨⟨_,yY _ rfl,rfl,rfl⟩,p.isList.push _⟩,fun i v F C x m j=>?_,fun z D n=>?_⟩
 .obtain⟨b,e,rfl⟩:=Qnf r (by simpa using m)
  simp only[e,Option.getD_some]at j
  exact Y31 j
 .rw[kY,<-f,Qrm]
  exact⟨.bl (bs.any id),H,I.kept (Qng n),rfl,q⟩
theorem Qhm{α:Type}{xs ys:List α}(b:xs.length=ys.length)(h:∀(i:Nat) x y,xs[i]?=some x->ys[i]?=some y->x=y):xs=ys:=by
 refine List.ext_getElem? fun i=>?_
 by_cases a:i<xs.length
 .rw[gE a,gE (by lia:i<ys.length)]
  exact congrArg some (h i _ _ (gE a) (gE Om))
 .rw[yQc Om,yQc Om]
theorem Qdt{n:Nat}{e:Nat->Bool}:(List.range n).all e=true↔∀i,i<n->e i=true:=by simp[jXa]
open PySem.SeqAt Classical in
def Fn(K:Fg)(mg:Z9)(x:Str)(st:Stmt):Prop:=∃f fd,Fun K x x st f fd/\mg x=some (.ref f)
theorem Yo{h:Heap}{kV:Value}(X:K.In h)(G:h.Ns mainGlobals mg)
  (a:PySem.W.nsIn K mainGlobals x=some (some (.ref f))) (l:K.lookup f=some ⟨oc,od,.func (PySem.W.fnOf x x (Qy st) (Qw st) (Qh st) .none kV doc pm an cdv ct),osl⟩) (c:PySem.W.codeIn K cdv x=true) (k:PySem.W.keepIn K (.ref f)=true):Fn K mg x st :=
 ⟨f,_,Kd l c k,PySem.W.mg_of X G a⟩
structure Cal(P:Program)(w:World)(K:Fg)(mg:Z9)(base:Heap)(k:Nat)(x:Str)(ps:List Str)(sp:Sp):Prop where
 ex:∃f fd,FnOk P w K mg base CX0 k f fd ps sp/\mg x=some (.ref f)/\PySem.W.keepIn K (.ref f)=true/\Binds K fd ps []
theorem Xt{w:World}{k:Nat}{ps:List Str}(F:Fn K mg x st)(S:FnScope N ps (Qh st))
  (c:∀(kV doc pm:Value) (an:Option Addr) (cdv ct:Value) (us:List Value),us.length=ps.length->bindArgs (PySem.W.fnOf x x (Qy st) (Qw st) (Qh st) .none kV doc pm an cdv ct) ⟨us,[]⟩=pure (ps.zip us)) (b:∀vs H Q E,sp vs H Q E->vs.length=ps.length)
  (a:∀(f:Addr) (cdv:Value) (A:Around) (outer:List Env) (s:Shared) (H:Hp) (vs:List V) (Q:VK) (E:XK),Room k (A.deeper (envOfC x (Qh st) s.heap.objs.size f cdv))->sp vs H Q E ->
   ∃t,PSs (cxOf CX0 P w K mg base N x (Qh st) f cdv A outer s H E).nox (Qw st) t/\t { nx:=fun _ H'=>Q .non H',rt:=Q } (start N vs) H):Cal P w K mg base (k+1) x ps sp:=by
 obtain⟨f,d,F,m⟩:=F
 exact⟨f,d,F.ok S b (a f),m,F.kp,F.binds c⟩
theorem Xj{k:Nat}{ps:List Str}{t:TA}{p:Pos}(C:Cal X.prog X.w X.K X.mg X.base k x ps sp)(d:Room k X.A)(g:PA X (e::es) t)(i:autoParam (Gl X x) J1._auto_1)
  (c:autoParam ((x == ("__debug__":Str))=false) J2._auto_1) (he:autoParam (starEach (e::es) X.env=(false,eval e X.env)::starEach es X.env) J1._auto_1) (a:autoParam ((backTo pos (starEach es X.env)).any (·.1)=false) J1._auto_1) :
  PE X (.Call (.Name x p) (e::es) [] pos) (Qvu sp [] E0 t):=by
 obtain⟨f,j,F,m,h,b⟩:=C.ex
 exact Qmv F d i m h b .nil Jq g c he a
theorem Qcc{T:String}(e:X.mg x=none)(a:bootBuiltins x=some (.type T))(d:autoParam (Gl X x) J1._auto_1)(b:autoParam (x≠"__name__") J2._auto_1)(c:autoParam ((x == ("__debug__":Str))=false) J2._auto_1):PE X (.Name x pos) (tC (.ty T)) :=
 Qvs d e a (v:=.ty T) rfl b c
def gPair(K:Fg)(i j:Nat):TG:=gTup K 2 (Qks (Vi i) (Qks (Vi j) gNil))
theorem Qas{y:Str}{py:Pos}{k:Nat}(e:X.K=K)(g:X.calm=true)(b:X.N.Nodup)(d:X.N[i]?=some x)(f:X.N[j]?=some y)(a:X.env.scope.names.lookup x=some .local)(c:X.env.scope.names.lookup y=some .local) :
  PG X (.Tuple [.Name x px,.Name y py] k pos) (gPair K i j):=by
 subst e
 exact Qjb g (Zn (Qp b d (.inl a) (.inr a)) (Zn (Qp b f (.inl c) (.inr c)) Qdk))
theorem Ys:bootBuiltins "len"=some (.builtin "len"):=Dk
theorem Qji:bootBuiltins "sum"=some (.builtin "sum"):=Dk
theorem bt_all:bootBuiltins "all"=some (.builtin "all"):=Dk
theorem bt_any:bootBuiltins "any"=some (.builtin "any"):=Dk
theorem Xl:bootBuiltins "isinstance"=some (.builtin "isinstance"):=Dk
theorem Qnj:bootBuiltins "min"=some (.builtin "min"):=Dk
theorem Qnk:bootBuiltins "sorted"=some (.builtin "sorted"):=Dk
theorem Qnl:bootBuiltins "int"=some (.type "int"):=Dk
theorem Qnm:bootBuiltins "bool"=some (.type "bool"):=Dk
theorem Jr:bootBuiltins "tuple"=some (.type "tuple"):=Dk
theorem Qhn:bootBuiltins "list"=some (.type "list"):=Dk
theorem Kv:bootBuiltins "dict"=some (.type "dict"):=Dk
theorem Qfq:bootBuiltins "enumerate"=some (.type "enumerate"):=Dk
theorem Qho:bootBuiltins "reversed"=some (.type "reversed"):=Dk
theorem Qd(h:H p=none)(o:HO):Same H (upd H p o):=fun b u q=>by rw[Qj (Qk q h)];exact q
theorem Same.tup(e:Same H H')(h:SqT K H a xs):SqT K H' a xs:=by
 rcases h with(h | ⟨o,h⟩) | h
 .exact .inl (.inl (e _ _ h))
 .exact .inl (.inr ⟨o,e _ _ h⟩)
 .exact .inr h
theorem Same.sq(e:Same H H')(h:Sq K m H a xs):Sq K m H' a xs:=by
 cases m
 .exact Same.tup e h
 .exact e.seq h
theorem Qz(h:H a=some (.tup xs)):SqT K H a xs:=.inl (.inl h)
theorem Qb(h:H a=some (.lst xs)):SqL K H a xs:=.inl (.inl h)
theorem Ze{n:Nat}{Q:Addr->Hp->Prop}{D:Addr}(a:Nat->St->List V->Hp->Prop)
  (l:a 0 τ0 [] (upd H D (.lst []))) (k:∀i τ ys H,i<=n->a i τ ys H->H D=some (.lst ys)/\ys.length<sizeLine) (j:∀i τ ys H,i<n->a i τ ys H->J.go i H) (c:∀τ ys H,a n τ ys H->J.stop n H)
  (f:∀i τ ys H x H',i<n->a i τ ys H->J.yld i H x H'->g x τ H' fun σ2 H2=>tt σ2 H2 fun ok H3=>if ok=true then te σ2 H3 fun v H4=>H4 D=some (.lst ys)/\a (i+1) σ2 (ys++[v]) (upd H4 D (.lst (ys++[v])))else a (i+1) σ2 ys H3)
  (o:∀τ ys H,a n τ ys H->Q D H) :
  LcW J D τ0 H g tt te Q:=by
 refine⟨fun i m τ ys H=>m=n-i/\i<=n/\a i τ ys H,⟨n,by simp,xW _,l⟩,?_⟩
 rintro i m τ ys H ⟨rfl,h,p⟩
 obtain⟨d,r⟩:=k i τ ys H h p
 refine⟨d,?_⟩
 by_cases b:i<n
 .refine .inr ⟨j i τ ys H b p,r,fun τ v H=>a (i+1) τ (ys++[v]) (upd H D (.lst (ys++[v]))),fun τ H=>a (i+1) τ ys H,fun τ v H q=>⟨n-(i+1),Om,rfl,b,q⟩,fun τ H q=>⟨n-(i+1),Om,rfl,b,q⟩,fun x H' y=>f i τ ys H x H' b p y⟩
 .have e:i=n:=Om
  subst e
  exact .inl ⟨c τ ys H p,o τ ys H p⟩
theorem Z5{n:Nat}{Q:Addr->Hp->Prop}{D:Addr}(us:List V)(k:us.length=n)(a:Nat->St->List V->Hp->Prop)(f:a 0 τ0 [] (upd H D (.lst [])))(b:∀i τ ys H,i<=n->a i τ ys H->(H D=some (.lst ys)/\ys.length<sizeLine)/\SqL K H d us)(e:∀i τ ys H x H',i<n->a i τ ys H->(Itl K d).yld i H x H'->g x τ H' fun σ2 H2=>tt σ2 H2 fun ok H3=>if ok=true then te σ2 H3 fun v H4=>H4 D=some (.lst ys)/\a (i+1) σ2 (ys++[v]) (upd H4 D (.lst (ys++[v])))else a (i+1) σ2 ys H3)
  (j:∀τ ys H,a n τ ys H->Q D H) :LcW (Itl K d) D τ0 H g tt te Q:=Ze a f (fun i τ ys H c h=>(b i τ ys H c h).1) (fun i τ ys H c h=>⟨us,_,(b i τ ys H (Nat.le_of_lt c) h).2,gE Om⟩) (fun τ ys H h=>⟨us,(b n τ ys H (Nat.le_refl _) h).2,Om⟩) e j
theorem Qrn{p:Pos}(g:X.mg "range"=none)(k:PA X [e] ta)(m:autoParam (Gl X "range") J1._auto_1)(j:autoParam (starEach [e] X.env=[(false,eval e X.env)]) J1._auto_1) :
  PE X (.Call (.Name "range" p) [e] [] pos) (fun σ H Q=>ta σ H fun vs H1=>∃n:Int,vs=[.int n]/\∀r,H1 r=none->Q (.ref r) (upd H1 r (.rng 0 n))):=by
 intro a s σ H Q I h
 refine Call_ (Vg I m g boot_range (Y38 (thn (k pos a s σ H _ I h) fun o f c=>?_) j rfl))
 obtain⟨vs,H1,d,l,i⟩:=c
 obtain⟨n,e,q⟩:=i
 subst e
 obtain⟨u,rfl,t,rfl⟩:=l.one
 refine call_range_1 ⟨.ref f.heap.objs.size,upd H1 f.heap.objs.size (.rng 0 n),d.laid (fun b u e=>jZ _ e) (jK _) ⟨_,_,_,yY _ rfl⟩,rfl,q _ (d.hok.fresh (jK _))⟩
theorem Yf(a:X.K=K):IxR X (rIxL K):=by subst a;exact Qn
theorem Wb(a:X.K=K):IxR X (rIxT K):=by subst a;exact Xr
theorem Qdu(a:X.K=K):Zy X (.builtin "len") (fun xs H Q=>∃p ys,xs=[.ref p]/\(SqL K H p ys\/SqT K H p ys)/\Q (.int ys.length) H):=by subst a;exact Qu
theorem Vn(a:X.K=K):Zy X (.type "list") (fun xs H Q=>∃p ys,xs=[.ref p]/\(SqL K H p ys\/SqT K H p ys)/\∀l,H l=none->Q (.ref l) (upd H l (.lst ys))):=by subst a;exact Qfo
theorem Zo(a:X.K=K):Zy X (.type "tuple") (fun xs H Q=>∃p ys,xs=[.ref p]/\((SqL K H p ys/\∀l,H l=none->Q (.ref l) (upd H l (.tup ys)))\/(SqT K H p ys/\Q (.ref p) H))):=by subst a;exact Vl
theorem Qle(a:X.K=K):OpR X (compareOp .In) (rIn K false):=by subst a;exact Vk
theorem Qdv(a:X.K=K):OpR X (compareOp .NotIn) (rIn K true):=by subst a;exact Wp
theorem pe_bmK{o:Expr}{to:TE}{t:TA}{name:Str}{T id:String}{r:V->List V->Hp->VK->Prop}(i:X.K=K)(pa:PlainAttrs T)(c:Slot T name id)(f:typeOf (.builtin id)=pure (.type "method_descriptor"))(k:MtR X id r)(j:PE X o to)(h:PA X (e::es) t)
  (a:autoParam (attributeBase o name X.env (eval o X.env)=eval o X.env) J1._auto_1)
  (d:autoParam (((backTo cpos (starEach (e::es) X.env)).all (fun x=>!x.1)&&(backToKw cpos (keywordEach [] X.env)).all (fun x=>x.1.isSome)&&decide ((e::es).length+([]:List Keyword).length+(if ([]:List Keyword).isEmpty then 0 else 1)<30))=true) J1._auto_1)
  (b:autoParam ((apos.endLine == cpos.line)=true) J1._auto_1) (g:autoParam (starEach (e::es) X.env=(false,eval e X.env)::starEach es X.env) J1._auto_1) (hplain:autoParam ((backTo cpos (starEach es X.env)).any (·.1)=false) J1._auto_1) :
  PE X (.Call (.Attribute o name apos) (e::es) [] cpos) (tBM K T r to t):=by subst i;exact Zh pa c f k j h a d b g hplain
end L2
namespace Nb
open PySem L2
structure Mg(mg:Z9):Prop where
 len:mg "len"=none
 min:mg "min"=none
 max:mg "max"=none
 sum:mg "sum"=none
 all:mg "all"=none
 any:mg "any"=none
 abs:mg "abs"=none
 isinstance:mg "isinstance"=none
 sorted:mg "sorted"=none
 range_:mg "range"=none
 zip_:mg "zip"=none
 tuple_:mg "tuple"=none
 list_:mg "list"=none
 int_:mg "int"=none
 bool_:mg "bool"=none
 dict_:mg "dict"=none
 enumerate_:mg "enumerate"=none
 reversed_:mg "reversed"=none
 ValueError_:mg "ValueError"=none
 set_:mg "set"=none
 str_:mg "str"=none
theorem atNs{ns:List Int}{k:Int}(c:0<=k)(h:k<(((ns.map V.int).length:Nat):Int)):∃v:Int,atI (ns.map V.int) k=some (.int v):=by
 have a:k.toNat<ns.length:=by rw[jX]at h;lia
 have b:k=((k.toNat:Nat):Int):=Om
 have q:atI (ns.map V.int) ((k.toNat:Nat):Int)=some (.int ns[k.toNat]):=Qak (by rw[yW,gE a]<;>rfl)
 rw[<-b]at q
 exact⟨_,q⟩
def Qnn:Sp:=fun vs H Q _=>∃z:Int,vs=[.int z]/\Q (.bl true) H
def Qno(K:Fg):Sp:=fun vs H Q _=>∃(a:Addr) (ns:List Int) (k:Int),vs=[.ref a,.int k]/\SqL K H a (ns.map V.int)/\0<=k/\∀z:Int,Q (.int z) H
def Kw(K:Fg):Sp:=fun vs H Q _=>∃(a:Addr) (ns:List Int) (k:Int),vs=[.ref a,.int k]/\SqL K H a (ns.map V.int)/\0<=k/\k<=1000000/\∀z:Int,0<=z->z<2147483629->Q (.int z) H
theorem mulA(c k:Int)(b:0<=k)(f:k<=1000000)(y:Int):CMul (c % (10:Int) ^ (18:Int).toNat+48271*(k+1)) y:=by
 have e:(10:Int) ^ (18:Int).toNat=1000000000000000000:=Dk
 rw[e]
 have a:=jQe c (show(1000000000000000000:Int)≠0 by decide)
 have d:=wZ c (show(0:Int)<1000000000000000000 by decide)
 exact .inl ⟨Om,Om⟩
theorem mulB(x k:Int)(a:0<=k)(b:k<=1000000)(y:Int):CMul (x % 2147483629+69621*k) y:=.inl ⟨Om,Om⟩
theorem mulC(c y:Int)(b:-(2 ^ 64)<c)(a:c<2 ^ 64):CMul c y:=.inl ⟨b,a⟩
theorem Zi{D:Addr}(b:H D=some (.lst ys))(h:SqT K H a xs):SqT K (upd H D (.lst zs)) a xs:=by
 rcases h with(h | ⟨o,h⟩) | h
 .exact .inl (.inl (by rw[Qj (Yl h b (by intro z;cases z))];exact h))
 .exact .inl (.inr ⟨o,by rw[Qj (Yl h b (by intro z;cases z))];exact h⟩)
 .exact .inr h
theorem at0{x:V}:atI [x,y] 0=some x:=by rfl
theorem at1{x:V}:atI [x,y] 1=some y:=by rfl
theorem Ka{α:Type}{l:List α}{x:α}(h:l[i]?=some x):l.take (i+1)=l.take i++[x]:=by rw[List.take_succ,h];rfl
theorem Kx{α:Type}{xs:List α}{k:Nat}{x:α}(h:xs[k]?=some x):atI xs (k:Int)=some x:=Qak h
def Qro(K:Fg):Sp:=fun vs H Q _=>∃(a:Addr) (ns:List Int),vs=[.ref a]/\SqL K H a (ns.map V.int)/\ns.length<=63/\∀H',Q (.bl true) H'
end Nb
namespace L2
open PySem PySem.Spec PyProof.Rows
section
variable{κ:Type}[DecidableEq κ]
def valV(kvs:List (κ×V))(k:κ):Option V:=(kvs.find? fun kv=>decide (kv.1=k)).map (·.2)
def putK(kvs:List (κ×V))(k:κ)(v:V):List (κ×V) :=
 if (kvs.any fun kv=>decide (kv.1=k))=true then kvs.map (fun kv=>if kv.1=k then(kv.1,v)else kv)else kvs++[(k,v)]
theorem Yv{p:κ×V}{r:List (κ×V)}{k:κ}(e:p.1=k):valV (p::r) k=some p.2:=by simp[valV,kQb,e]
theorem Yw{p:κ×V}{r:List (κ×V)}{k:κ}(e:¬p.1=k):valV (p::r) k=valV r k:=by simp[valV,kQb,e]
theorem Ko(k:κ):∀kvs:List (κ×V),(kvs.any fun kv=>decide (kv.1=k))=(valV kvs k).isSome
 |[]=>rfl
 |p::r=>by
  rw[kZc]
  by_cases e:p.1=k
  .simp only[Yv e,yJ e,Bool.true_or,Option.isSome_some]
  .rw[Yw e,xV e,Bool.false_or];exact Ko k r
theorem Qjj(k j:κ)(y:V):∀kvs:List (κ×V),valV (kvs.map fun kv=>if kv.1=k then(kv.1,y)else kv) j=(valV kvs j).map fun x=>if j=k then y else x
 |[]=>rfl
 |p::r=>by
  have a:=Qjj k j y r
  rw[zX]
  by_cases h:p.1=k
  .rw[Y22 h]
   by_cases e:p.1=j
   .rw[Yv (p:=(p.1,y)) e,Yv e,kYa,Y22 (e.symm.trans h)]
   .rw[Yw (p:=(p.1,y)) e,Yw e,a]
  .rw[Y20 h]
   by_cases e:p.1=j
   .rw[Yv (p:=p) e,Yv e,kYa,Y20 (fun z=>h (e.trans z))]
   .rw[Yw (p:=p) e,Yw e,a]
theorem Qfr(k j:κ)(y:V):∀kvs:List (κ×V),valV kvs k=none->valV (kvs++[(k,y)]) j=if j=k then some y else valV kvs j
 |[],_=>by
  by_cases e:k=j
  .rw[Y22 e.symm];exact Yv (p:=(k,y)) e
  .rw[Y20 (fun z=>e z.symm)];exact Yw (p:=(k,y)) e
 |p::r,hn=>by
  rw[List.cons_append]
  have a:¬p.1=k:=fun z=>by rw[Yv z]at hn;cases hn
  rw[Yw a]at hn
  have b:=Qfr k j y r hn
  by_cases e:p.1=j
  .rw[Yv e,Yv e,Y20 (fun z=>a (e.trans z))]
  .rw[Yw e,Yw e,b]
theorem Kp(kvs:List (κ×V))(k j:κ)(y:V):valV (putK kvs k y) j=if j=k then some y else valV kvs j:=by
 unfold putK
 by_cases a:(kvs.any fun c=>decide (c.1=k))=true
 .rw[Y22 a,Qjj]
  rw[Ko]at a
  by_cases e:j=k
  .obtain⟨x,b⟩:=jJb.mp a
   rw[Y22 e,e,b,kYa,Y22 rfl]
  .rw[Y20 e]
   cases valV kvs j with
   |none=>rfl
   |some x=>rw[kYa,Y20 e]
 .rw[Y20 a]
  refine Qfr k j y kvs ?_
  rw[Ko]at a
  cases q:valV kvs k with
  |none=>rfl
  |some x=>rw[q]at a;exact(a rfl).elim
theorem Zj(kvs:List (κ×V))(k:κ)(v:V):(putK kvs k v).length<=kvs.length+1:=by
 unfold putK
 split
 .rw[jX];lia
 .rw[jJ,yZ,kYb];lia
theorem Qrp{kvs:List (κ×V)}{k:κ}(v:V)(h:valV kvs k=none):putK kvs k v=kvs++[(k,v)]:=by
 unfold putK
 rw[Ko,h]
 exact Y20 Dc
theorem RelO.isSome_eq{o:Option V}{u:Option Value}(r:RelO o u):o.isSome=u.isSome:=by
 cases o with
 |none=>cases u with
  |none=>rfl
  |some _=>exact(show False from r).elim
 |some _=>cases u with
  |none=>exact(show False from r).elim
  |some _=>rfl
theorem RelO.getD{o:Option V}{u:Option Value}{d:V}{d':Value}(r:RelO o u)(a:RelV d d'):RelV (o.getD d) (u.getD d'):=by
 cases o with
 |none=>cases u with
  |none=>exact a
  |some _=>exact(show False from r).elim
 |some _=>cases u with
  |none=>exact(show False from r).elim
  |some _=>exact r
theorem KV.val{kvs:List (κ×V)}{vs:List (κ×Value)}(r:KV kvs vs)(k:κ):RelO (valV kvs k) (valueAt vs k):=by
 unfold KV at r
 induction r with
 |nil=>exact True.intro
 |@cons p q ps qs h t ih=>
  obtain⟨c,d⟩:=h
  by_cases e:p.1=k
  .have a:q.1=k:=c.symm.trans e
   have b:valueAt (q::qs) k=some q.2:=by simp[valueAt,kQb,a]
   rw[Yv e,b];exact d
  .have a:¬q.1=k:=fun z=>e (c.trans z)
   have b:valueAt (q::qs) k=valueAt qs k:=by simp[valueAt,kQb,a]
   rw[Yw e,b];exact ih
theorem KV.any{kvs:List (κ×V)}{vs:List (κ×Value)}(r:KV kvs vs)(k:κ):(kvs.any fun kv=>decide (kv.1=k))=vs.any fun kv=>decide (kv.1=k):=by
 unfold KV at r
 induction r with
 |nil=>rfl
 |cons h t ih=>rw[kZc,kZc,ih,h.1]
theorem KV.repl{kvs:List (κ×V)}{vs:List (κ×Value)}(r:KV kvs vs)(k:κ)(c:RelV y u) :
  KV (kvs.map fun kv=>if kv.1=k then(kv.1,y)else kv) (vs.map fun kv=>if kv.1=k then(kv.1,u)else kv):=by
 unfold KV at r⊢
 induction r with
 |nil=>exact .nil
 |@cons p q ps qs h t ih=>
  rw[zX,zX]
  refine .cons ?_ ih
  obtain⟨a,b⟩:=h
  by_cases e:p.1=k
  .rw[Y22 e,Y22 (a.symm.trans e)];exact⟨a,c⟩
  .rw[Y20 e,Y20 (fun z=>e (a.trans z))];exact⟨a,b⟩
theorem KV.put{kvs:List (κ×V)}{vs:List (κ×Value)}(r:KV kvs vs)(k:κ)(a:RelV y u):KV (putK kvs k y) (stored vs k u):=by
 unfold putK stored
 rw[r.any k]
 by_cases e:(vs.any fun b=>decide (b.1=k))=true
 .rw[Y22 e,Y22 e];exact r.repl k a
 .rw[Y20 e,Y20 e];exact Paired.snoc r ⟨rfl,a⟩
theorem KV.length{kvs:List (κ×V)}{vs:List (κ×Value)}(r:KV kvs vs):kvs.length=vs.length:=Paired.length r
end
theorem Qhp{w:World}{k:Key}(r:RelV (kV k) u):(Xg P w).is k u=true:=by
 cases k with
 |inl i=>obtain⟨t,e⟩:=(show ∃t,u=Value.int i t from r);subst e;exact Qhg P w i t
 |inr x=>obtain⟨t,e⟩:=(show ∃t,u=Value.str x t from r);subst e;exact Qhh P w x t
theorem Qfs{P:Program}{w:World}:∀{ks:List Key} {us:List Value},Vals (ks.map kV) us->ItemsAre (Xg P w) ks us
 |[],_,r=>by rw[kKc]at r;cases r;exact .nil
 |k::ks,_,r=>by
  rw[zX]at r
  cases r with
  |cons h t=>exact .cons (Qhp h) (Qfs t)
abbrev KT(H:Hp):List (List Key×V)->List (List Key×Addr×Value)->Prop:=Paired fun p q=>p.1=q.1/\H q.2.1=some (.tup (p.1.map kV))/\RelV p.2 q.2.2
theorem KT.val{xs:List (List Key×Addr×Value)}(r:KT H kvs xs)(k:List Key):RelO (valV kvs k) ((atKey xs k).map (·.2)):=by
 induction r with
 |nil=>exact True.intro
 |@cons p q ps qs h t ih=>
  obtain⟨c,_,d⟩:=h
  by_cases e:p.1=k
  .have a:q.1=k:=c.symm.trans e
   have b:atKey (q::qs) k=some q.2:=by simp[atKey,kQb,a]
   rw[Yv e,b];exact d
  .have a:¬q.1=k:=fun z=>e (c.trans z)
   have b:atKey (q::qs) k=atKey qs k:=by simp[atKey,kQb,a]
   rw[Yw e,b];exact ih
theorem KT.repl{xs:List (List Key×Addr×Value)}(r:KT H kvs xs)(k:List Key)(c:RelV y u) :
  KT H (kvs.map fun kv=>if kv.1=k then(kv.1,y)else kv) (xs.map (putAt k u)):=by
 induction r with
 |nil=>exact .nil
 |@cons p q ps qs h t ih=>
  rw[zX,zX]
  refine .cons ?_ ih
  obtain⟨a,b,d⟩:=h
  unfold putAt
  by_cases e:p.1=k
  .rw[Y22 e,Y22 (a.symm.trans e)];exact⟨a,b,c⟩
  .rw[Y20 e,Y20 (fun z=>e (a.trans z))];exact⟨a,b,d⟩
theorem KT.put{xs:List (List Key×Addr×Value)}(r:KT H kvs xs)(k:List Key)(d:H b=some (.tup (k.map kV)))(a:RelV y u) :
  KT H (putK kvs k y) (storedH xs k b u):=by
 have e:(kvs.any fun c=>decide (c.1=k))=(atKey xs k).isSome:=by
  rw[Ko,(r.val k).isSome_eq,Option.isSome_map]
 unfold putK storedH
 rw[e]
 by_cases q:(atKey xs k).isSome=true
 .rw[Y22 q,Y22 q];exact r.repl k a
 .rw[Y20 q,Y20 q];exact Paired.snoc r ⟨rfl,d,a⟩
theorem KT.keeps{xs:List (List Key×Addr×Value)}(r:KT H kvs xs)(a:∀b ys,H b=some (.tup ys)->H' b=some (.tup ys)):KT H' kvs xs :=
 Paired.mapP r fun _ _ z=>⟨z.1,a _ _ z.2.1,z.2.2⟩
section
variable{w:World}{h:Heap}
theorem rd_of{u:HO}(ok:HOk P w H h)(e:Rd H a u):ObjOk P w H h a u:=e.ok ok
theorem Qhq{kvs:List (Key×V)}(ok:HOk P w H h)(e:Rd H a (.dK kvs)):kvs.length<=sizeLine/\(a == sysModules)=false/\∃vs,KV kvs vs/\h.DictOf (Xg P w) a vs :=
 show ObjOk P w H h a (.dK kvs)from rd_of ok e
theorem Ky{kvs:List (Key×V)}(ok:HOk P w H h)(e:H a=some (.dK kvs)):kvs.length<=sizeLine/\(a == sysModules)=false/\∃vs,KV kvs vs/\h.DictOf (Xg P w) a vs:=Qhq ok (.inl e)
theorem Qat(ok:HOk P w H h)(e:H a=some (.tup (ks.map kV))):(tupleKind (Xg P w)).is h ks a:=by
 obtain⟨_,b,r,o,c,d,n,f⟩:=(show ObjOk P w H h a (.tup (ks.map kV))from ok a _ e)
 exact⟨o,b.toArray,n,c,d,f,by simpa using Qfs r⟩
theorem Qhr(ok:HOk P w H h)(e:Rd H a (.dT kvs)):kvs.length<=sizeLine/\(a == sysModules)=false /\
  ∃xs,KT H kvs xs/\h.DictOfH (tupleKind (Xg P w)) a xs:=by
 obtain⟨z,y,xs,r,o,i,g,d,b,f,j,c⟩:=(show ObjOk P w H h a (.dT kvs)from rd_of ok e)
 refine⟨z,y,xs,r,o,i,g,d,b,f,j,fun x hx=>?_,c⟩
 have all:∀{l:List (List Key×V)} {m:List (List Key×Addr×Value)},KT H l m->∀x∈m,(tupleKind (Xg P w)).is h x.1 x.2.1:=by
  intro l m q
  induction q with
  |nil=>intro x hx;exact nomatch hx
  |@cons p q ps qs hq t ih=>
   intro x hx
   rcases kZ.mp hx with e | hx
   .subst e
    exact Qat ok (by rw[<-hq.1];exact hq.2.1)
   .exact ih x hx
 exact all r x hx
theorem Qwa(ok:HOk P w H h)(e:H a=some (.dT kvs)):kvs.length<=sizeLine/\(a == sysModules)=false /\
  ∃xs,KT H kvs xs/\h.DictOfH (tupleKind (Xg P w)) a xs:=Qhr ok (.inl e)
end
def DGet(H:Hp)(a:Addr)(y:V)(r:Option V):Prop :=
 (∃kvs k,Rd H a (.dK kvs)/\y=kV k/\r=valV kvs k)\/∃kvs k b,Rd H a (.dT kvs)/\y=.ref b/\H b=some (.tup (k.map kV))/\r=valV kvs k
def DPut(H:Hp)(a:Addr)(y v:V)(H':Hp):Prop :=
 (∃kvs k,H a=some (.dK kvs)/\y=kV k/\kvs.length<sizeLine/\H'=upd H a (.dK (putK kvs k v))) \/
 ∃kvs k b,H a=some (.dT kvs)/\y=.ref b/\H b=some (.tup (k.map kV))/\kvs.length<sizeLine/\H'=upd H a (.dT (putK kvs k v))
theorem DGet.k{kvs:List (Key×V)}{k:Key}(e:H a=some (.dK kvs)):DGet H a (kV k) (valV kvs k):=.inl ⟨kvs,k,.inl e,rfl,rfl⟩
theorem DGet.t{k:List Key}(e:H a=some (.dT kvs))(c:H b=some (.tup (k.map kV))):DGet H a (.ref b) (valV kvs k):=.inr ⟨kvs,k,b,.inl e,rfl,c,rfl⟩
theorem DPut.k{kvs:List (Key×V)}{k:Key}{v:V}(e:H a=some (.dK kvs))(b:kvs.length<sizeLine):DPut H a (kV k) v (upd H a (.dK (putK kvs k v))):=.inl ⟨kvs,k,e,rfl,b,rfl⟩
section
variable{v:V}{r:Value}{o:Option V}
theorem Inv.big(I:Inv X pins σ H s):sysModules<s.heap.objs.size:=by
 have h:mainGlobals<s.heap.objs.size:=(I.mod.glob.keeps I.bk).lt
 exact Nat.lt_trans Dc h
theorem Qnp{Q:VP}(x:A.units+1<cLine)(I:Inv X pins σ H s)(g:DGet H a y (some v))(q:RelV y u)(h:∀w' s',Inv X pins σ H s'->RelV v w'->Q w' s') :
  wpAny (model X.prog X.w) A (getItem (.ref a) u) Q E s:=by
 rcases g with⟨n,k,e,f,l⟩ | ⟨n,k,b,e,f,B,l⟩
 .subst f
  obtain⟨z,D,r,d,j⟩:=Qhq I.hok e
  obtain⟨w',m,c⟩:=RelO.some_of (v:=v) (o:=valueAt r k) (by rw[l];exact d.val k)
  exact wpAny_getItem_of (Qhp q) j.mapOf m (h w' _ (I.tok _) c)
 .subst f
  cases(show u=Value.ref b from q)
  obtain⟨z,D,C,d,j⟩:=Qhr I.hok e
  obtain⟨w',m,c⟩:=RelO.some_of (v:=v) (o:=(atKey C k).map (·.2)) (by rw[l];exact d.val k)
  obtain⟨p,t,i⟩:=jKf.mp m
  refine wpAny_getItem_heap (Y56 x) (Qat I.hok B) j t ?_
  rw[i]
  exact h w' _ (I.tok _) c
theorem d_in{Q:VP}(n:A.units+1<cLine)(I:Inv X pins σ H s)(g:DGet H a y o)(m:RelV y u)(h:∀s',Inv X pins σ H s'->Q (.bool o.isSome) s') :
  wpAny (model X.prog X.w) A (compareOp .In u (.ref a)) Q E s:=by
 rcases g with⟨i,k,e,d,l⟩ | ⟨i,k,b,e,d,p,l⟩
 .subst d
  obtain⟨z,j,r,c,f⟩:=Qhq I.hok e
  refine wpAny_in_of (Qhp m) j f.mapOf ?_
  rw[<-(c.val k).isSome_eq,<-l]
  exact h _ (I.tok _)
 .subst d
  cases(show u=Value.ref b from m)
  obtain⟨z,j,t,c,f⟩:=Qhr I.hok e
  refine wpAny_in_heap (Y56 n) (Qat I.hok p) j f ?_
  have q:=(c.val k).isSome_eq
  rw[Option.isSome_map]at q
  rw[<-q,<-l]
  exact h _ (I.tok _)
theorem Kg{ob:HO}(I:Inv X pins σ H s)(g:Mut (H a))(d:Heap.SameBut a s.heap h')(he:∃q,h'.get? a=some q)(c:ObjOk X.prog X.w (upd H a ob) h' a ob) :
  Inv X pins σ (upd H a ob) { s with heap:=h',toks:=t' } :=
 I.write (x:=a) (e:=a) g (.inl rfl) (fun b q f z=>(d.2 b f).trans z) he c
theorem Qjk{w:World}{kvs:List (Key×V)}{vs:List (Key×Value)}(z:kvs.length<=sizeLine)(d:(a == sysModules)=false)(b:KV kvs vs)(c:h'.DictOf (Xg P w) a vs) :
  ObjOk P w H' h' a (.dK kvs):=⟨z,d,vs,b,c⟩
theorem Qnq{Q:Unit->Shared->Prop}(P:A.units+1<cLine)(I:Inv X pins σ H s)(g:DPut H a y v H')(C:RelV y u)(G:RelV v r)(h:∀s',Inv X pins σ H' s'->Q () s') :
  wpAny (model X.prog X.w) A (setItem (.ref a) u r) Q E s:=by
 rcases g with⟨f,k,e,m,l,o⟩ | ⟨f,k,b,e,m,J,l,o⟩
 .subst m o
  obtain⟨z,x,N,d,n⟩:=Ky I.hok e
  have t:N.length<=sizeLine:=by rw[<-d.length];exact z
  have p:(putK f k v).length<=sizeLine:=by have:=Zj f k v;lia
  refine wpAny_setItem_pairs (hsz:=t) (Qhp C) n fun D i B=>h _ ?_
  have K:∃q,D.get? a=some q:=let ⟨q,_,_,j,_⟩:=i;⟨q,j⟩
  exact Kg I (by rw[e];exact True.intro) B K (Qjk p x (d.put k G) i)
 .subst m o
  cases(show u=Value.ref b from C)
  obtain⟨z,x,T,d,n⟩:=Qwa I.hok e
  have t:T.length<=sizeLine:=by rw[<-Paired.length d];exact z
  have p:(putK f k v).length<=sizeLine:=by have:=Zj f k v;lia
  refine wpAny_setItem_heap (hsz:=t) (Y56 P) (Qat I.hok J) n fun D i B=>h _ ?_
  obtain⟨q,R,L,j,M,O,U,_,S⟩:=i
  refine Kg I (by rw[e];exact True.intro) B ⟨q,j⟩ ⟨p,x,_,(d.put k J G).keeps fun c V F=>?_,q,R,L,j,M,O,U,S⟩
  rw[Qj (Yl F e (fun z=>nomatch z))]
  exact F
end
section
variable{kvs:List (Key×V)}
theorem Qwb{Q:VP}(I:Inv X pins σ H s)(e:H a=some (.dK kvs))(h:∀s',Inv X pins σ (upd H a (.dK [])) s'->Q .none s'):wpAny (model X.prog X.w) A (call (.builtin "dict.clear") [.ref a]) Q E s:=by
 obtain⟨z,j,i,c,d⟩:=Ky I.hok e
 refine Y50 PySem.F.slot_dict_clear d.typeIs PySem.F.entry_dict_clear (PySem.F.args_dict_clear_1 _) (meets_dict_clear (Xg X.prog X.w) a) ⟨i,d,by rw[<-c.length];exact z,fun k b g=>h _ ?_⟩
 have f:∃q,k.get? a=some q:=let ⟨q,_,_,hq,_⟩:=b;⟨q,hq⟩
 exact Kg (t':=s.toks) I (by rw[e];exact True.intro) g f (Qjk (xW _) j .nil b)
end
def NoSl(i:Expr):Prop:=∀ov iv,subscripted i false ov iv=operate [ov,iv] (getItem ov iv)
theorem Qwc{w:World}{env:Env}{value slice:Expr}{T id:String}{Q:VP}
  (g:typeLookup (.type T) "__getitem__"=pure (some (.builtin id))) (f:NoSl slice)
  (h:wpAny (model prog w) A (eval value env) (fun o s₁=>wpAny (model prog w) A (eval slice env) (fun i s₂=>s₂.TypeIs o T/\wpAny (model prog w) A (getItem o i) Q E s₂) E s₁) E s) :
  wpAny (model prog w) A (eval (.Subscript value slice pos) env) Q E s:=by
 refine Subscript_ (Y29 h (fun o s₁ d=>Y29 d (fun i s₂ a=>?_) fun _ _ x=>x) fun _ _ x=>x)
 obtain⟨e,a⟩:=a
 unfold subscriptTail
 refine jQ ?_
 rw[getitemInPython_of_ne e.not_modules]
 refine jQ (Y64 e g ?_)
 have fin:wpAny (model prog w) A (subscripted slice false o i) (fun r b=>wpAny (model prog w) A (letTemporaryGo value o r >>= fun _=>pure r) Q E b) E s₂:=by
  rw[f o i]
  exact wpAny_operating (Y29 a (fun r b c=>jQ (wpAny_letTemporaryGo (jV c))) fun _ _ x=>x)
 first
  |exact jV (jQ fin)
  |exact jQ (jV (jQ fin))
  |exact jQ fin
theorem Qhs{o:Option V}(I:Inv X pins σ H s)(g:DGet H a y o):s.TypeIs (.ref a) "dict":=by
 rcases g with⟨d,k,e,_,_⟩ | ⟨d,k,b,e,_,_,_⟩
 .obtain⟨_,_,f,_,c⟩:=Qhq I.hok e
  exact c.typeIs
 .obtain⟨_,_,h,_,c⟩:=Qhr I.hok e
  exact c.typeIs
def tDGet(td ty:TE):TE:=fun σ H Q=>td σ H fun x H1=>ty σ H1 fun y H2=>∃a v,x=.ref a/\DGet H2 a y (some v)/\Q v H2
def tDIn(ty td:TE):TE:=fun σ H Q=>ty σ H fun y H1=>td σ H1 fun x H2=>∃a o,x=.ref a/\DGet H2 a y o/\Q (.bl o.isSome) H2
def sDPut(td ty tv:TE):TS:=fun D σ H=>tv σ H fun v H1=>td σ H1 fun x H2=>ty σ H2 fun y H3=>∃a H4,x=.ref a/\DPut H3 a y v H4/\D.nx σ H4
section
variable{o i value:Expr}{ty tv:TE}
theorem Kz(l:X.A.units+1<cLine)(p:PE X o td)(m:PE X i ty)(j:NoSl i):PE X (.Subscript o i pos) (tDGet td ty):=by
 intro b s f H Q I h
 refine Qwc PySem.F.slot_dict_getitem.lookup j (thn (p b s f H _ I h) fun u s1 ⟨x,H1,I1,rx,q1⟩=>thn (m b s1 f H1 _ I1 q1) fun z C d=>?_)
 obtain⟨y,n,e,k,a,v,ex,g,r⟩:=d
 subst ex
 obtain rfl:u=Value.ref a:=rx
 exact⟨Qhs e g,Qnp l e g k fun B t q c=>⟨v,n,q,c,r⟩⟩
theorem pc_din(f:X.A.units+1<cLine)(j:PE X i ty)(n:PE X o td):PC X .In i o (tDIn ty td):=by
 intro b s d H Q I h
 refine thn (j b s d H _ I h) fun iv s1 ⟨y,H1,I1,ry,q1⟩=>thn (n b s1 d H1 _ I1 q1) fun u t c=>?_
 obtain⟨x,m,k,e,a,l,ex,g,q⟩:=c
 subst ex
 obtain rfl:u=Value.ref a:=e
 exact d_in f k g ry fun r p=>⟨.bl l.isSome,m,p,rfl,q⟩
theorem Qwd(l:X.A.units+1<cLine)(q:PE X o td)(m:PE X i ty)(p:PE X value tv)(k:swapsWith value (some (.Subscript o i pos')) pos.line X.env=pure false) :
  PS X (.Assign [.Subscript o i pos'] value pos) (sDPut td ty tv):=by
 intro b s c H D I h
 refine wpAny_Assign_Subscript (thn (p b s c H _ I h) fun r s1 ⟨v,H1,I1,rv,q1⟩=>thn (q b s1 c H1 _ I1 q1) fun u s2 ⟨x,H2,I2,rx,q2⟩=>thn (m b s2 c H2 _ I2 q2) fun B w d=>?_) k
 obtain⟨y,z,t,f,a,e,ex,g,n⟩:=d
 subst ex
 obtain rfl:u=Value.ref a:=rx
 exact Qnq l t g f rv fun C j=>⟨c,e,j,n⟩
end
theorem Qdw{w:World}(h:Heap)(a:sysModules<h.objs.size):ObjOk P w H (h.push { cls:=.type "dict",data:=.dict #[] }) h.objs.size (.dK []) :=
 ⟨xW _,beq_eq_false_iff_ne.mpr (Ne.symm (zW a)),[],.nil,Heap.DictOf.new h⟩
theorem Qrq{w:World}(h:Heap)(a:sysModules<h.objs.size):ObjOk P w H (h.push { cls:=.type "dict",data:=.dict #[] }) h.objs.size (.dT []) :=
 ⟨xW _,beq_eq_false_iff_ne.mpr (Ne.symm (zW a)),[],.nil,_,#[],0,yY _ rfl,⟨rfl,rfl,rfl⟩,rfl,rfl,List.nodup_nil⟩
def tDNewK:TE:=fun _ H Q=>∀p,H p=none->Q (.ref p) (upd H p (.dK []))
theorem Qrr:PE X (.Dict [] [] pos) tDNewK:=fun b s c H Q I h=>
 wpAny_Dict_empty ⟨.ref s.heap.objs.size,_,I.laid (a:=s.heap.objs.size) (o:=.dK []) (t':=s.toks) (fun _ _ q=>jZ _ q) (jK _) (Qdw s.heap I.big),rfl,h _ (I.hok.fresh (jK _))⟩
structure M1(X:Cx)(o:Expr)(m:Str)(apos:Pos)(e:Expr)(cpos:Pos):Prop where
 base:attributeBase o m X.env (eval o X.env)=eval o X.env
 few:((backTo cpos (starEach [e] X.env)).all (fun x=>!x.1)&&(backToKw cpos (keywordEach [] X.env)).all (fun x=>x.1.isSome)
  && decide (([e]:List Expr).length+([]:List Keyword).length+(if ([]:List Keyword).isEmpty then 0 else 1)<30))=true
 line:(apos.endLine == cpos.line)=true
 trees:backTo cpos (starEach [e] X.env)=[(false,eval e X.env)]
structure M2(X:Cx)(o:Expr)(m:Str)(apos:Pos)(e f:Expr)(cpos:Pos):Prop where
 base:attributeBase o m X.env (eval o X.env)=eval o X.env
 few:((backTo cpos (starEach [e,f] X.env)).all (fun x=>!x.1)&&(backToKw cpos (keywordEach [] X.env)).all (fun x=>x.1.isSome)
  && decide (([e,f]:List Expr).length+([]:List Keyword).length+(if ([]:List Keyword).isEmpty then 0 else 1)<30))=true
 line:(apos.endLine == cpos.line)=true
 trees:backTo cpos (starEach [e,f] X.env)=[(false,eval e X.env),(false,eval f X.env)]
def IsD(H:Hp)(a:Addr):Prop:=(∃kvs,Rd H a (.dK kvs))\/∃kvs,Rd H a (.dT kvs)
theorem Qjl(I:Inv X pins σ H s)(d:IsD H a) :
  s.TypeIs (.ref a) "dict"/\(∀b,Value.ref a=.ref b->∃ob,s.heap.get? b=some ob/\ob.dict=none)/\(a == sysModules)=false:=by
 rcases d with⟨h,e⟩ | ⟨h,e⟩
 .obtain⟨_,i,j,_,c⟩:=Qhq I.hok e
  refine⟨c.typeIs,fun b q=>?_,i⟩
  cases q
  obtain⟨ob,_,_,g,f,_⟩:=c
  exact⟨ob,g,f.2.1⟩
 .obtain⟨_,i,k,_,c⟩:=Qhr I.hok e
  refine⟨c.typeIs,fun b q=>?_,i⟩
  cases q
  obtain⟨ob,_,_,g,f,_⟩:=c
  exact⟨ob,g,f.2.1⟩
section
variable{d:V}{r:Value}{o:Option V}
theorem d_get1{Q:VP}(n:A.units+1<cLine)(I:Inv X pins σ H s)(g:DGet H a y o)(m:RelV y u)(h:∀w' s',Inv X pins σ H s'->RelV (o.getD .non) w'->Q w' s') :
  wpAny (model X.prog X.w) A (call (.builtin "dict.get") [.ref a,u]) Q E s:=by
 rcases g with⟨i,k,e,f,l⟩ | ⟨i,k,b,e,f,p,l⟩
 .subst f
  obtain⟨z,j,r,c,d⟩:=Qhq I.hok e
  refine Y50 PySem.F.slot_dict_get d.typeIs PySem.F.entry_dict_get (PySem.F.args_dict_get_2 _ _) (meets_dict_get (Xg X.prog X.w) a (Qhp m) j) ⟨_,d.mapOf,h _ _ (I.tok _) ?_⟩
  rw[l]
  exact(c.val k).getD rfl
 .subst f
  cases(show u=Value.ref b from m)
  obtain⟨z,j,q,c,d⟩:=Qhr I.hok e
  refine Y50 PySem.F.slot_dict_get d.typeIs PySem.F.entry_dict_get (PySem.F.args_dict_get_2 _ _) (meetsH_dict_get (tupleKind (Xg X.prog X.w)) a b j) ⟨Y56 n,k,q,Qat I.hok p,d,h _ _ (I.tok _) ?_⟩
  rw[l]
  exact(c.val k).getD rfl
theorem d_get2{Q:VP}(q:A.units+1<cLine)(I:Inv X pins σ H s)(g:DGet H a y o)(n:RelV y u)(p:RelV d r)(h:∀w' s',Inv X pins σ H s'->RelV (o.getD d) w'->Q w' s') :
  wpAny (model X.prog X.w) A (call (.builtin "dict.get") [.ref a,u,r]) Q E s:=by
 rcases g with⟨j,k,e,i,l⟩ | ⟨j,k,b,e,i,t,l⟩
 .subst i
  obtain⟨z,m,x,c,f⟩:=Qhq I.hok e
  refine Y50 PySem.F.slot_dict_get f.typeIs PySem.F.entry_dict_get (PySem.F.args_dict_get_3 _ _ _) (meets_dict_get_default (Xg X.prog X.w) a (Qhp n) m r) ⟨_,f.mapOf,h _ _ (I.tok _) ?_⟩
  rw[l]
  exact(c.val k).getD p
 .subst i
  cases(show u=Value.ref b from n)
  obtain⟨z,m,v,c,f⟩:=Qhr I.hok e
  refine Y50 PySem.F.slot_dict_get f.typeIs PySem.F.entry_dict_get (PySem.F.args_dict_get_3 _ _ _) (meetsH_dict_get_default (tupleKind (Xg X.prog X.w)) a b m r) ⟨Y56 q,k,v,Qat I.hok t,f,h _ _ (I.tok _) ?_⟩
  rw[l]
  exact(c.val k).getD p
end
def tDGet1(td ty:TE):TE:=fun σ H Q=>td σ H fun x H1=>∃a,x=.ref a/\IsD H1 a/\ty σ H1 fun y H2=>∃o,DGet H2 a y o/\Q (o.getD .non) H2
def tDGet2(td ty tx:TE):TE:=fun σ H Q=>td σ H fun x H1=>∃a,x=.ref a/\IsD H1 a/\ty σ H1 fun y H2=>tx σ H2 fun z H3=>∃o,DGet H3 a y o/\Q (o.getD z) H3
section
variable{o f:Expr}{ty tx:TE}
theorem Qjm(n:X.A.units+1<cLine)(r:PE X o td)(he:PE X e ty)(m:M1 X o "get" apos e cpos):PE X (.Call (.Attribute o "get" apos) [e] [] cpos) (tDGet1 td ty):=by
 intro b s j H Q I h
 refine wpAny_Call_method m.base m.few m.line PySem.F.plainAttrs_dict PySem.F.slot_dict_get PySem.F.type_dict_get (thn (r b s j H _ I h) fun u z f=>?_)
 obtain⟨x,p,i,l,a,ex,d,k⟩:=f
 subst ex
 obtain rfl:u=Value.ref a:=l
 obtain⟨q,v,_⟩:=Qjl i d
 refine⟨q,v,?_⟩
 rw[m.trees]
 refine Y39 rfl (Calls.evalArgs_plain (Y57 (thn (he b z j p _ i k) fun iv s2 ⟨y,H2,I2,ry,ov,g,q2⟩=>Calls.spliced_nil ?_)))
 exact d_get1 n I2 g ry fun C B t c=>⟨_,H2,t,c,q2⟩
theorem Qrs(q:X.A.units+1<cLine)(v:PE X o td)(he:PE X e ty)(t:PE X f tx)(m:M2 X o "get" apos e f cpos):PE X (.Call (.Attribute o "get" apos) [e,f] [] cpos) (tDGet2 td ty tx):=by
 intro b s j H Q I h
 refine wpAny_Call_method m.base m.few m.line PySem.F.plainAttrs_dict PySem.F.slot_dict_get PySem.F.type_dict_get (thn (v b s j H _ I h) fun u D i=>?_)
 obtain⟨x,B,k,n,a,ex,d,l⟩:=i
 subst ex
 obtain rfl:u=Value.ref a:=n
 obtain⟨r,C,_⟩:=Qjl k d
 refine⟨r,C,?_⟩
 rw[m.trees]
 refine Y39 rfl (Calls.evalArgs_plain (Y57 (thn (he b D j B _ k l) fun iv s2 ⟨y,H2,I2,ry,q2⟩=>
  Y57 (thn (t b s2 j H2 _ I2 q2) fun fv s3 ⟨z,H3,I3,rz,ov,g,q3⟩=>Calls.spliced_nil ?_))))
 exact d_get2 q I3 g ry rz fun G E p c=>⟨_,H3,p,c,q3⟩
end
end L2
namespace Att
open PySem PySem.W PySem.Calls PyProof.Rows
end Att
namespace L2
open PySem PySem.Spec PyProof.Rows
section
variable{κ:Type}[DecidableEq κ]
theorem Qwe{kvs:List (κ×V)}{k:κ}{v:V}(h:valV kvs k=some v):k∈kvs.map (·.1):=by
 have q:(kvs.any fun b=>decide (b.1=k))=true:=by
  rw[Ko,h]
  all_goals rfl
 obtain⟨p,a,e⟩:=jXb.mp q
 exact zV.mpr ⟨p,a,kK e⟩
end
theorem Qft:typeLookup (.type "list") "keys"=pure none:=by rw[typeLookup_type,Y60];kernel_rfl
section
variable{w:World}
theorem Vo{xs:Array Value}{k:Nat}(p:s.heap.get? a=some { cls:=.type "list",dict:=none,data:=.seq xs k,slots:=sl })(r:A.handled=none)
  (h:∀h' tk,(∀b o,s.heap.get? b=some o->h'.get? b=some o)->Q none { s with heap:=h',toks:=tk }):wpAny (model prog w) A (getAttr? (.ref a) "keys") Q E s:=by
 obtain⟨v,g,d,tk,l⟩:=s
 have m:∀f,(⟨v,g,d,f,l⟩:Shared).TypeIs (.ref a) "list":=fun _=>⟨_,p,rfl⟩
 have z:=sub_AttributeError
 have y:=F.slot_list_getattribute.lookup
 have x:=F.slot_list_getattribute.bind (.ref a)
 have D:=am_list_getattr_none
 have c:(["__module__","__name__","__qualname__","__doc__","__annotations__"]:List Str).contains "keys"=false:=Dk
 unfold getAttr? getAttrBy? getAttrBy
 repeat (any_goals (first | assumption | exact m _ | ((with_reducible show wpAny _ _ (call (Value.builtin "list.__getattribute__") _ _) _ _ _);refine Y63 F.slot_list_getattribute (m _) am_entry_list_getattribute (F.args_list_getattribute_2 _ _) (meets_getattribute_miss_list a xs k sl "keys" _ Qft c Dk) ⟨p,r,fun h' f e j=>?_⟩) | wp_step))
 have i:=j.of
 obtain⟨⟨H,G,B,u⟩,C,q,n,_,_⟩:=i.there
 simp only at n
 subst n
 have t:∀tk2,(⟨h',g,d,tk2,l⟩:Shared).TypeIs (.ref e) "AttributeError":=fun _=>⟨_,q,rfl⟩
 show wpAny _ _ (getattributeRaised _ _ _ _ _ _ _) _ _ _
 unfold getattributeRaised
 repeat (any_goals (first | assumption | exact t _ | wp_step))
 all_goals exact h _ _ i.keeps
end
def Vp:entryFor table "dict.update.loop"=some Builtin.«dict.update.loop»:=entryFor_of_tree (by kernel_rfl)
theorem Zr:plainId "dict.update.loop"=true:=Dk
section
variable{w:World}{e:Addr}{st:Nat->Heap->Prop}{src:List Value->Heap->Prop}{xs:List Value}{old:Value}
theorem Qdx{x:Value}(U:Drw P w it l st src)(N:IsEnum s.heap e it i old)(hI:st i s.heap)(hl:src xs s.heap)(hx:xs[i]?=some x)(t:e≠it)
  (hQ:∀h',IsEnumOut h' e it ((i:Int)+1) x s.heap.objs.size->st (i+1) h'->h'.get? s.heap.objs.size=some { cls:=.type "tuple",data:=.seq #[.int i s.toks,x] } ->
   (∀b o,b≠e->b≠it->s.heap.get? b=some o->h'.get? b=some o)->Q (some (.ref s.heap.objs.size)) { s with heap:=h',toks:=s.toks+1 }):wpAny (model P w) A (pyNext (.ref e)) Q E s:=by
 have L:s.TypeIs (.ref e) "enumerate":=⟨_,N,rfl⟩
 unfold pyNext
 refine jQ (Y55 (wpAny_callSpecial?_slot (name:=Str.ofString "__next__") L Y36 (Y25 Y36 L Y47 ?_ (Y45 _))))
 obtain⟨r,g,d,a,k⟩:=s
 show wpAny _ _ (field (.ref e) 2 >>= _) _ _ _
 refine jQ (Y23 N rfl (x:=.ref it) rfl ?_)
 refine jQ (U.item _ _ ⟨r,g,d,a,k⟩ i xs x _ hI hl hx fun D K I=>?_)
 replace I:Heap.SameBut it r D:=I
 have j:IsEnum D e it i old:=(I.2 e t).trans N
 show wpAny _ _ (field (.ref e) 3 >>= _) _ _ ⟨D,g,d,a,k⟩
 refine jQ (Y23 j rfl (x:=rawInt i) rfl ?_)
 show wpAny _ _ (field (.ref e) 4 >>= _) _ _ ⟨D,g,d,a,k⟩
 refine jQ (Y23 j rfl (x:=.none) rfl ?_)
 show wpAny _ _ (mkInt i >>= _) _ _ ⟨D,g,d,a,k⟩
 refine jQ (wpAny_mkInt ?_)
 show wpAny _ _ (setField (.ref e) 3 (rawInt ((i:Int)+1)) >>= _) _ _ ⟨D,g,d,a+1,k⟩
 refine jQ (Y24 j (by simp) fun M n H=>?_)
 replace H:Heap.SameBut e D M:=H
 replace n:IsEnum M e it ((i:Int)+1) old:=n
 show wpAny _ _ (setField (.ref e) 4 .none >>= _) _ _ ⟨M,g,d,a+1,k⟩
 refine jQ (Y24 n (by simp) fun G f J=>?_)
 replace J:Heap.SameBut e M G:=J
 replace f:IsEnum G e it ((i:Int)+1) old:=f
 show wpAny _ _ (newTuple [.int i a,x] >>= _) _ _ ⟨G,g,d,a+1,k⟩
 refine jQ (wpAny_newTuple ?_)
 have m:IsEnum (G.push { cls:=.type "tuple",data:=.seq #[.int i a,x] }) e it ((i:Int)+1) old:=jZ _ f
 generalize p:G.push { cls:=.type "tuple",data:=.seq #[.int i a,x] }=g4 at m
 have B:G.objs.size=r.objs.size:=by rw[J.1,H.1,I.1]
 have S:e<r.objs.size:=yK N
 have T:g4.get? r.objs.size=some { cls:=.type "tuple",data:=.seq #[.int i a,x] }:=by rw[<-p,<-B];exact yY _ rfl
 have W:∀b o,b≠e->b≠it->r.get? b=some o->g4.get? b=some o:=fun b o c C y=>by
  rw[<-p];exact jZ _ (J.extBut b o c (H.extBut b o c (I.extBut b o C y)))
 have V:st (i+1) g4:=U.keep _ _ _ K fun q z=>by rw[<-p];exact jZ _ (J.extBut _ _ t.symm (H.extBut _ _ t.symm z))
 show wpAny _ _ (Builtin.SmallTypes.ownedTupleIsFree (.ref e) >>= _) _ _ ⟨g4,g,d,a+1,k⟩
 rw[B]
 clear p f J n H j I K B
 refine jQ ?_
 unfold Builtin.SmallTypes.ownedTupleIsFree
 refine jQ (Y23 m rfl (x:=.none) rfl (jV ?_))
 simp only[if_true]
 refine jQ (Y58 (jQ (Y23 m rfl (x:=old) rfl (jQ (Y24 m (by simp) fun O u e5=>?_)))))
 replace e5:Heap.SameBut e g4 O:=e5
 replace u:IsEnum O e it ((i:Int)+1) x:=u
 show wpAny _ _ (Builtin.SmallTypes.ownedTupleHandOut (.ref e) (.ref r.objs.size) >>= _) _ _ ⟨O,g,d,a+1,k⟩
 refine jQ ?_
 unfold Builtin.SmallTypes.ownedTupleHandOut
 refine jQ (Y24 u (by simp) fun Y v X=>?_)
 replace X:Heap.SameBut e O Y:=X
 replace v:IsEnumOut Y e it ((i:Int)+1) x r.objs.size:=v
 refine Y24 v (by simp) fun R F e7=>?_
 replace e7:Heap.SameBut e Y R:=e7
 replace F:IsEnumOut R e it ((i:Int)+1) x r.objs.size:=F
 have Z:∀b o,b≠e->g4.get? b=some o->R.get? b=some o:=fun b o y z=>e7.extBut b o y (X.extBut b o y (e5.extBut b o y z))
 refine jQ (wpAny_letGo (jV ⟨_,rfl,jV (hQ R F ?_ ?_ ?_)⟩))
 .exact U.keep _ _ _ V fun q z=>Z _ _ t.symm z
 .exact Z _ _ (kQf S) T
 .exact fun b o c C y=>Z b o c (W b o c C y)
theorem Qfu(f:A.handled=none)(k:Drw P w it l st src)(d:IsEnum s.heap e it i old)(p:st i s.heap)(q:src xs s.heap)(g:xs[i]?=none)
  (n:∀h',Heap.ExtBut it s.heap h'->Q none { s with heap:=h' }):wpAny (model P w) A (pyNext (.ref e)) Q E s:=by
 have a:s.TypeIs (.ref e) "enumerate":=⟨_,d,rfl⟩
 unfold pyNext
 refine jQ (Y55 (wpAny_callSpecial?_slot (name:=Str.ofString "__next__") a Y36 (Y25 Y36 a Y47 ?_ (Y45 _))))
 show wpAny _ _ (field (.ref e) 2 >>= _) _ _ _
 refine jQ (Y23 d rfl (x:=.ref it) rfl ?_)
 refine jQ (k.done _ _ s i xs _ f p q g fun h' x j c=>?_)
 obtain⟨o,m,r⟩:=c
 refine jQ (wpAny_isInstance (T:="StopIteration") (b:=true) ⟨o,m,r⟩ isSubtype_stop (jV (n _ j)))
end
theorem Qlf{n:String}{p:Heap->Prop}(I:Itr0 n l p) :
  Meets (Builtin.«enumerate.__new__» ⟨[.type "enumerate",.ref l],[]⟩) (fun _ R s=>p s.heap/\R (.ok (.ret (.ref (s.heap.push (Jl n l)).objs.size))) { s with heap:=(s.heap.push (Jl n l)).push { cls:=.type "enumerate",data:=.fields #[.none,.bool false,.ref s.heap.objs.size,rawInt 0,.none,.none] } }) :=
 .of_wp fun a w A R s h=>by
  obtain⟨i,g,d,k,f⟩:=s
  obtain⟨q,h⟩:=h
  have e:=sub_enumerate
  have b:=fun(A:Around) (E:VP) (Q:VP)=>I.go a w A E ⟨i,g,d,k,f⟩ Q q
  wp_walk
  refine wpAny_stack_any fun j=>jV ?_
  split
  .rename_i c _ _ _ _ _
   cases(c == Value.type "enumerate")
   .wp_walk using b _ _ _
    exact⟨_,rfl,h⟩
   .wp_walk using b _ _ _
    exact⟨_,rfl,h⟩
  .wp_walk using b _ _ _
   exact⟨_,rfl,h⟩
def Ite(K:Fg)(m:Bool)(a:Addr):It :=
  ⟨fun i H=>∃xs x,Sq K m H a xs/\xs[i]?=some x,
   fun i H v H'=>∃T x,v=.ref T/\H T=none/\H'=upd H T (.tup [.int (i:Nat),x])/\(∀xs,Sq K m H a xs->xs[i]?=some x),
   fun i H=>∃xs,Sq K m H a xs/\xs.length<=i⟩
def eTn(m:Bool)(e it a:Addr)(i:Nat)(h:Heap):Prop:=(∃old,IsEnum h e it i old)/\itSt m it a i h
theorem X0(n:Nat)(h:n<sizeLine:=by decide):n<sizeLine:=h
theorem Z1(n:Nat)(h:n<=sizeLine:=by decide):n<=sizeLine:=h
theorem Qnr{w:World}{e:Addr}(u:e≠it)(ac:a≠e)(ab:a≠it) :
  Turn P w K (.Tuple es kk tp) (Ite K m a) [e,it] e (eTn m e it a) where
 mem:=by simp
 obj:=fun i h j c d=>by
  obtain⟨⟨f,n⟩,l⟩:=j
  simp only[kZ,jQa,or_false]at d
  rcases d with rfl | rfl
  .exact⟨_,n,fun v z=>by cases z⟩
  .exact(Jm (P:=P) (w:=w) m c a).obj i h l
 keep:=fun i h h' j k=>by
  obtain⟨⟨f,n⟩,l⟩:=j
  exact⟨⟨f,k e (by simp) _ n⟩,(Jm (P:=P) (w:=w) m it a).keep i h h' l (k it (by simp))⟩
 item:=by
  intro X N F O d i g s G H E I r j W
  subst N F O
  obtain⟨xs,x,A,U⟩:=W
  obtain⟨R,Q,S,z1⟩:=I.sq A
  obtain⟨v1,e1,L⟩:=Q.get U
  obtain⟨⟨f,y⟩,B⟩:=j
  refine Qdx (Jm m it a) y B S e1 u fun h' Z a2 a3 a4=>⟨_,rfl,?_⟩
  have kk:∀c q,c∉[e,it]->s.heap.get? c=some q->h'.get? c=some q:=fun c q d e=>by
   simp only[kZ,jQa,or_false,not_or]at d
   exact a4 c q d.1 d.2 e
  have I1:Inv X g G (upd H s.heap.objs.size (.tup [.int (i:Nat),x])) { s with heap:=h' }:=I.tupNew (ch:=[e,it]) (its:=[.int i s.toks,v1]) (jK _) (.cons ⟨_,rfl⟩ (.cons L .nil)) (Z1 2) a3 r kk (fun c d=>by
   simp only[kZ,jQa,or_false]at d
   rcases d with rfl | rfl
   .exact⟨_,Z⟩
   .obtain⟨q,z,_⟩:=(Jm (P:=X.prog) (w:=X.w) m c a).obj _ _ a2;exact⟨q,z⟩)
  refine wpAny_letOwnedTupleGo_enum (s:={ s with heap:=h',toks:=s.toks+1 }) Z fun l g1 Y=>?_
  obtain⟨T,J,f2,D,C,M⟩:=r e (by simp)
  have p:e<s.heap.objs.size:=yK y
  have I2:Inv X g G (upd H s.heap.objs.size (.tup [.int (i:Nat),x])) { s with heap:=l,toks:=s.toks+1 }:=I1.turned (h':=l) (t':=s.toks+1) (fun c q d z=>Y.extBut c q d z) (by rw[Qj (zW p)];exact T) J D C M
  refine⟨.ref s.heap.objs.size,_,I2,rfl,⟨_,x,rfl,I.hok.fresh (jK _),rfl,fun aa hq=>by rw[I.sq_inj hq A];exact U⟩,⟨⟨_,by exact_mod_cast g1⟩,(Jm (P:=X.prog) (w:=X.w) m it a).keep _ _ _ a2 fun q z=>Y.extBut _ _ u.symm z⟩,fun c d=>?_⟩
  have V:c≠s.heap.objs.size:=by
   simp only[kZ,jQa,or_false]at d
   rcases d with rfl | rfl
   .exact zW p
   .obtain⟨q,z,_⟩:=(Jm (P:=X.prog) (w:=X.w) m c a).obj _ _ B;exact zW (yK z)
  rw[Qj V]
  exact(r c d).1
 done:=by
  intro X N F O d i g s G H E I r j W
  subst N F O
  obtain⟨xs,A,U⟩:=W
  obtain⟨R,Q,S,z1⟩:=I.sq A
  obtain⟨⟨f,y⟩,B⟩:=j
  have l1:=Q.length
  obtain⟨T,J,f2,D,C,M⟩:=r it (by simp)
  exact Qfu (I.ok.hd d) (Jm m it a) y B S (kXd.mpr Om) fun h' eb=>⟨rfl,I.turned (t':=s.toks) (fun b o hb z=>eb b o hb z) T J D C M⟩
 self:=fun _ _ _ _ _ j h=>by
  obtain⟨⟨f,n⟩,_⟩:=j
  exact wpAny_pyIter_enum n h
def iEnum(K:Fg)(m:Bool)(ta:TA):TI:=fun σ H R=>ta σ H fun vs H1=>∃a,vs=[.ref a]/\(∃xs,Sq K m H1 a xs)/\R (Ite K m a) H1
theorem Qns{a:Expr}{p:Pos}(m:Bool)(O:Gl X "enumerate")(L:X.mg "enumerate"=none)(N:PA X [a] ta)(M:autoParam (starEach [a] X.env=[(false,eval a X.env)]) J1._auto_1) :
  PI X (.Tuple es kk tp) (.Call (.Name "enumerate" p) [a] [] pos) (iEnum X.K m ta):=by
 intro g s w H R I h
 refine Call_ (Vg I O L Qfq (Y38 (thn (N pos g s w H _ I h) fun T d u=>?_) M rfl))
 obtain⟨S,E,l,y,n⟩:=u
 obtain⟨f,e,⟨U,n⟩,q⟩:=n
 subst e
 obtain⟨Q,rfl,G⟩:=y.one
 cases G
 obtain⟨v,y,A,P⟩:=l.sq n
 refine callType_new F.called_enumerate Dc (F.typeCall_enumerate_1 _) (F.newCall_enumerate_1 _) (fun r=>F.args_object_init_2 r _) F.entry_enumerate_new (Qlf (Qne m f v)) ⟨A,?_⟩
 have C:(d.heap.push (Jl (itN m) f)).objs.size=d.heap.objs.size+1:=jZb ..
 have j:((d.heap.push (Jl (itN m) f)).push { cls:=.type "enumerate",data:=.fields #[.none,.bool false,.ref d.heap.objs.size,rawInt 0,.none,.none] }).get? (d.heap.push (Jl (itN m) f)).objs.size=some { cls:=.type "enumerate",data:=.fields #[.none,.bool false,.ref d.heap.objs.size,rawInt 0,.none,.none] }:=yY _ rfl
 have D:((d.heap.push (Jl (itN m) f)).push { cls:=.type "enumerate",data:=.fields #[.none,.bool false,.ref d.heap.objs.size,rawInt 0,.none,.none] }).get? d.heap.objs.size=some (Jl (itN m) f):=jZ _ (yY _ rfl)
 rw[C]at j
 show _/\_
 rw[C]
 have x:∀b o,d.heap.get? b=some o->((d.heap.push (Jl (itN m) f)).push { cls:=.type "enumerate",data:=.fields #[.none,.bool false,.ref d.heap.objs.size,rawInt 0,.none,.none] }).get? b=some o:=fun b o z=>jZ _ (jZ _ z)
 generalize (d.heap.push (Jl (itN m) f)).push { cls:=.type "enumerate",data:=.fields #[.none,.bool false,.ref d.heap.objs.size,rawInt 0,.none,.none] }=h' at D j x
 have J:Inv X g w E { d with heap:=h' }:=l.kept (t':=d.toks) x
 have i:f<d.heap.objs.size:=Qrk A
 refine⟨⟨_,j,rfl⟩,wpAny_pyIter_enum (s:={ d with heap:=h' }) j ⟨_,[d.heap.objs.size+1,d.heap.objs.size],_,_,E,rfl,J,Qnr (m:=m) (a:=f) (Nat.succ_ne_self _) (zW (jKb i)) (zW i),⟨⟨_,j⟩,Qjf m D⟩,fun c B=>?_,q⟩⟩
 have k:d.heap.objs.size<=c:=by
  simp only[kZ,jQa,or_false]at B
  rcases B with rfl | rfl
  .exact Nat.le_add_right _ _
  .exact jK _
 exact l.fpOk k (l.hok.fresh k)
theorem Qjn(b:Nat->St->Hp->Prop)(o:b 0 σ H)(q:∀i σ H,i<=xs.length->b i σ H->Sq K m H a xs)
  (h:∀i x σ H T,xs[i]?=some x->b i σ H->H T=none->g (.ref T) σ (upd H T (.tup [.int (i:Nat),x])) fun σ2 H2=>tb { D with nx:=b (i+1),ct:=b (i+1),bk:=D.nx } σ2 H2) (r:∀σ H,b xs.length σ H->D.nx σ H) :
  ∃W:Nat->Nat->St->Hp->Prop,(∃m,W 0 m σ H)/\∀i n σ H,W i n σ H ->
   ((Ite K m a).stop i H/\D.nx σ H)\/((Ite K m a).go i H/\∃N:St->Hp->Prop,(∀σ' H',N σ' H'->∃m',m'<n/\W (i+1) m' σ' H')/\∀x H',(Ite K m a).yld i H x H'->g x σ H' fun σ2 H2=>tb { D with nx:=N,ct:=N,bk:=D.nx } σ2 H2):=by
 refine⟨fun i n σ H=>n=xs.length-i/\i<=xs.length/\b i σ H,⟨_,rfl,xW _,o⟩,?_⟩
 rintro i n σ H ⟨rfl,k,p⟩
 have d:=q i σ H k p
 by_cases c:i<xs.length
 .refine .inr ⟨⟨xs,xs[i],d,by simp[c]⟩,b (i+1),fun σ' H' f=>⟨xs.length-(i+1),Om,rfl,c,f⟩,fun x H' y=>?_⟩
  obtain⟨T,u,rfl,j,rfl,l⟩:=y
  exact h i u σ H T (l xs d) p j
 .have e:i=xs.length:=Om
  subst e
  exact .inl ⟨⟨xs,d,jK _⟩,r σ H p⟩
section
variable{w:World}
theorem alive_{Q:Option Obj->Shared->Prop}(h:Q (s.heap.get? a) s):wpAny (model P w) A (loadIfAlive a) Q E s:=fun _ _ _=>h
end
theorem FpOk.upd{T:Addr}{ob:HO}(h:FpOk X pins H b)(n:b≠T):FpOk X pins (upd H T ob) b:=⟨by rw[Qj n];exact h.1,h.2⟩
def Itr3(lo c:Int)(n:Nat):It:=⟨fun i _=>i<n,fun i H x H'=>H'=H/\x=.int (lo+(i:Nat)*c),fun i _=>n<=i⟩
theorem Qht{w:World}(d:Addr)(lo c:Int)(n:Nat):Turn P w K tg (Itr3 lo c n) [d] d (fun i h=>IsRangeIter h d (lo+(i:Nat)*c) ((n:Int)-(i:Nat)) c) where
 mem:=by simp
 obj:=fun i h a b g=>by
  have e:b=d:=by simpa using g
  subst e
  exact⟨_,a,fun v z=>by
   have O:Data.fields _=Data.cell v:=z
   cases O⟩
 keep:=fun i h l a k=>k d (by simp) _ a
 item:=by
  intro X y r A B i f s F H E I m a D
  subst y r A
  obtain⟨C,u,L,q,p,x⟩:=m d (by simp)
  have W:=Walks.range (prog:=X.prog) (w:=X.w) (I.ok.hd B) d lo c n
  refine W.item i s _ _ D a fun v l G M j J=>?_
  obtain⟨t,rfl⟩:=M
  have N:Inv X f F H { s with heap:=l,toks:=G }:=I.turned (fun b o g e=>J b o (by simpa using g) e) C u q p x
  exact⟨_,rfl,Qkt (s:={ s with heap:=l,toks:=G }) (n:="range_iterator") j rfl rfl Dc ⟨.int (lo+(i:Nat)*c),H,N,⟨t,rfl⟩,⟨rfl,rfl⟩,j,fun b g=>(m b g).1⟩⟩
 done:=by
  intro X y r A B i f s F H E I m a D
  subst y r A
  obtain⟨C,u,L,q,p,x⟩:=m d (by simp)
  exact wpAny_pyNext_range_end (I.ok.hd B) a (by have:n<=i:=D;lia) fun l Q=>⟨rfl,I.turned (t':=s.toks) (fun b o g e=>Q b o g e) C u q p x⟩
 self:=fun _ _ _ _ _ a h=>wpAny_pyIter_rangeiter a h
theorem Qlg{lo:Int}{n:Nat}(a:Nat->St->Hp->Prop)(f:a 0 σ H)
  (d:∀i σ H,i<n->a i σ H->g (.int (lo+(i:Nat)*c)) σ H fun σ2 H2=>tb { D with nx:=a (i+1),ct:=a (i+1),bk:=D.nx } σ2 H2) (j:∀σ H,a n σ H->D.nx σ H) :
  ∃W:Nat->Nat->St->Hp->Prop,(∃m,W 0 m σ H)/\∀i m σ H,W i m σ H ->
   ((Itr3 lo c n).stop i H/\D.nx σ H)\/((Itr3 lo c n).go i H/\∃N:St->Hp->Prop,(∀σ' H',N σ' H'->∃m',m'<m/\W (i+1) m' σ' H')/\∀x H',(Itr3 lo c n).yld i H x H'->g x σ H' fun σ2 H2=>tb { D with nx:=N,ct:=N,bk:=D.nx } σ2 H2):=by
 refine⟨fun i m σ H=>m=n-i/\i<=n/\a i σ H,⟨n,by simp,xW _,f⟩,?_⟩
 rintro i m σ H ⟨rfl,k,p⟩
 by_cases b:i<n
 .refine .inr ⟨b,a (i+1),fun σ' H' h=>⟨n-(i+1),Om,rfl,b,h⟩,fun x H' y=>?_⟩
  obtain⟨e,y⟩:=y
  subst e y
  exact d i σ _ b p
 .have e:i=n:=Om
  subst e
  exact .inl ⟨jK _,j σ H p⟩
def gTrip(K:Fg)(i j l:Nat):TG:=gTup K 3 (Qks (Vi i) (Qks (Vi j) (Qks (Vi l) gNil)))
theorem Qnt{l:Nat}{y z:Str}{py pz:Pos}{k:Nat}(d:X.K=K)(h:X.calm=true)(a:X.N.Nodup)(e:X.N[i]?=some x)(f:X.N[j]?=some y)(g:X.N[l]?=some z)(b:X.env.scope.names.lookup x=some .local)(c:X.env.scope.names.lookup y=some .local)(hz:X.env.scope.names.lookup z=some .local) :
  PG X (.Tuple [.Name x px,.Name y py,.Name z pz] k pos) (gTrip K i j l):=by
 subst d
 exact Qjb h (Zn (Qp a e (.inl b) (.inr b)) (Zn (Qp a f (.inl c) (.inr c)) (Zn (Qp a g (.inl hz) (.inr hz)) Qdk)))
end L2
namespace L2
open PySem PySem.Spec PyProof.Rows PySem.SeqAt
theorem Qv{α β:Type}{R:α->β->Prop}{xs:List α}{ys:List β}(h:Paired R xs ys):∀{i:Nat} {x:α},xs[i]?=some x->∃y,ys[i]?=some y/\R x y:=by
 induction h with
 |nil=>intro i x e;exact nomatch e
 |cons z _ ih=>
  intro i x e
  match i with
  |0=>cases e;exact⟨_,rfl,z⟩
  |i+1=>exact ih (show _=some x from e)
theorem Qdy(k:Key):Wv (kV k)=true:=by cases k<;>rfl
theorem Qnu(a b:Key):eqV (kV a) (kV b)=true↔a=b:=by
 cases a with
 |inl i=>
  cases b with
  |inl j=>show(i == j)=true↔_;rw[beq_iff_eq];exact⟨fun z=>(by rw[z]),fun z=>(by cases z;rfl)⟩
  |inr y=>exact⟨fun z=>(nomatch z),fun z=>(nomatch z)⟩
 |inr x=>
  cases b with
  |inl j=>exact⟨fun z=>(nomatch z),fun z=>(nomatch z)⟩
  |inr y=>show(x == y)=true↔_;rw[beq_iff_eq];exact⟨fun z=>(by rw[z]),fun z=>(by cases z;rfl)⟩
def Qhu(H:Hp):List V->List (List Key)->Prop:=Paired fun v r=>∃l,v=.ref l/\H l=some (.lst (r.map kV))
def PlanAt(K:Fg)(H:Hp)(d:Addr)(pl:Z7):Prop:=∃kvs:List (Key×V),H d=some (.dK kvs)/\Paired (fun(p:Key×V) (q:Str×Str×Int)=>p.1=inr q.1/\∃t,p.2=.ref t/\SqT K H t [.str q.2.1,.int q.2.2]) kvs pl
theorem Qhv(r:Vals (ks.map kV) its)(c:Vals (ls.map kV) its') :
  ∀j (h1:j<its.toArray.size) (h2:j<its'.toArray.size),EqAt A s its.toArray[j] its'.toArray[j] (decide (ks[j]?=ls[j]?)):=fun j h1 h2=>by
 have l:=r.length
 have o:=c.length
 rw[jX]at l o
 rw[kY]at h1 h2
 have d:j<ks.length:=Om
 have h:j<ls.length:=Om
 obtain⟨n,g,a⟩:=r.get (i:=j) (x:=kV ks[j]) (by rw[yW,gE d];rfl)
 obtain⟨m,f,b⟩:=c.get (i:=j) (x:=kV ls[j]) (by rw[yW,gE h];rfl)
 have k:its.toArray[j]=n:=by rw[gE Om]at g;simpa using g
 have p:its'.toArray[j]=m:=by rw[gE Om]at f;simpa using f
 rw[k,p]
 have e:decide (ks[j]?=ls[j]?)=eqV (kV ks[j]) (kV ls[j]):=by
  rw[jZf,decide_eq_true_iff,Qnu,gE d,gE h]
  exact⟨fun z=>Y5 z,fun z=>congrArg some z⟩
 rw[e]
 exact Quo a b (Qdy _) (Qdy _)
theorem Qau(m:A.units<cLine)(I:Inv X pins σ H s)(t:SqL X.K H a (ks.map kV))(q:SqL X.K H b (ls.map kV)) :
  ∃c:Bool,(c=true↔ks=ls)/\EqAt A s (.ref a) (.ref b) c/\RcAt A s (.ref a) (.ref b) c/\RcNeAt A s (.ref a) (.ref b) (!c):=by
 obtain⟨k,r,pt,_⟩:=I.list t
 obtain⟨h,p,d,_⟩:=I.list q
 have B:=r.length
 have C:=p.length
 rw[jX]at B C
 have key:=Qhv (A:=A.in1) (s:=s) r p
 have inj:a=b->ks=ls:=fun z=>by
  subst z
  have:=I.list_inj t q
  refine Qhm (by rw[<-jX (f:=kV),this,jX]) fun i x y ex o=>?_
  have u:(ks.map kV)[i]?=(ls.map kV)[i]?:=by rw[this]
  rw[yW,yW,ex,o]at u
  have v:kV x=kV y:=Y5 u
  exact(Qnu x y).mp (by
   rw[v]
   exact(Qnu y y).mpr rfl)
 by_cases e:k.toArray.size=h.toArray.size
 .have n:((List.range k.toArray.size).all (fun j=>decide (ks[j]?=ls[j]?)))=true↔ks=ls:=by
   rw[kY,kY]at e
   rw[Qdt,kY]
   constructor
   .intro w
    refine Qhm Om fun i x y ex o=>?_
    have D:=(kX.mp ex).1
    have:=kK (w i Om)
    rw[ex,o]at this
    exact Y5 this
   .intro z
    subst z
    exact fun i _=>yJ rfl
  refine⟨_,n,?_,RcAt.lists pt.isList d.isList e m key,RcNeAt.lists pt.isList d.isList e m key⟩
  by_cases g:a=b
  .rw[n.mpr (inj g)]
   subst g
   exact EqAt.same _
  .exact EqAt.of_refs g (RcAt.lists pt.isList d.isList e m key)
 .have l:(k.toArray.size != h.toArray.size)=true:=by simpa using e
  rw[kY,kY]at e
  have n:false=true↔ks=ls:=⟨fun z=>(nomatch z),fun z=>(by subst z;lia)⟩
  refine⟨false,n,?_,RcAt.lists_lengths pt.isList d.isList l m,RcNeAt.lists_lengths pt.isList d.isList l m⟩
  by_cases g:a=b
  .exact Y21 (n.mpr (inj g)) Dc
  .exact EqAt.of_refs g (RcAt.lists_lengths pt.isList d.isList l m)
theorem Qjo{n:Nat}(k:X.K=K)(m:X.A.units+n<cLine):OpR X (compareOp .Eq) (fun x y H Q=>∃(a b:Addr) (ks ls:List Key),x=.ref a/\y=.ref b/\SqL K H a (ks.map kV)/\SqL K H b (ls.map kV)/\∀c:Bool,(c=true↔ks=ls)->Q (.bl c) H):=by
 subst k
 intro d s o H x y v u Q I i f h
 obtain⟨a,b,ks,ls,rfl,rfl,j,e,q⟩:=h
 cases i
 cases f
 obtain⟨c,l,_,g,_⟩:=Qau (A:=X.A) Om I j e
 exact g _ _ _ _ ⟨.bl c,H,I,rfl,q c l⟩
theorem op_neK{n:Nat}(k:X.K=K)(m:X.A.units+n<cLine):OpR X (compareOp .NotEq) (fun x y H Q=>∃(a b:Addr) (ks ls:List Key),x=.ref a/\y=.ref b/\SqL K H a (ks.map kV)/\SqL K H b (ls.map kV)/\∀c:Bool,(c=true↔ks=ls)->Q (.bl (!c)) H):=by
 subst k
 intro d s o H x y v u Q I i f h
 obtain⟨a,b,ks,ls,rfl,rfl,j,e,q⟩:=h
 cases i
 cases f
 obtain⟨c,l,_,_,g⟩:=Qau (A:=X.A) Om I j e
 exact g _ _ _ _ ⟨.bl (!c),H,I,rfl,q c l⟩
theorem Qur(g:A.units<cLine)(I:Inv X pins σ H s)(h:SqL X.K H a xs)(i:SqL X.K H b []):RcAt A s (.ref a) (.ref b) xs.isEmpty/\RcNeAt A s (.ref a) (.ref b) (!xs.isEmpty):=by
 obtain⟨e,r,pt,_⟩:=I.list h
 obtain⟨d,m,c,_⟩:=I.list i
 have k:=r.length
 have l:=m.length
 cases xs with
 |nil=>
  have o:e=[]:=jYb k.symm
  have n:d=[]:=jYb l.symm
  subst o n
  have key:∀j (h:j<([]:List Value).toArray.size) (i:j<([]:List Value).toArray.size),EqAt A.in1 s ([]:List Value).toArray[j] ([]:List Value).toArray[j] ((fun _=>true) j):=fun j h _=>Y21 h (by simp)
  exact⟨RcAt.lists pt.isList c.isList rfl g key,RcNeAt.lists pt.isList c.isList rfl g key⟩
 |cons x xs=>
  have f:(e.toArray.size != d.toArray.size)=true:=by
   rw[kY,kY,<-k,<-l]
   simp
  exact⟨RcAt.lists_lengths pt.isList c.isList f g,RcNeAt.lists_lengths pt.isList c.isList f g⟩
theorem Qjp{n:Nat}(i:X.K=K)(j:X.A.units+n<cLine):OpR X (compareOp .Eq) (fun x y H Q=>∃(a b:Addr) (xs:List V),x=.ref a/\y=.ref b/\SqL K H a xs/\SqL K H b []/\Q (.bl xs.isEmpty) H):=by
 subst i
 intro c s k H x y v u Q I f e h
 obtain⟨a,b,xs,rfl,rfl,g,d,q⟩:=h
 cases f
 cases e
 exact(Qur (A:=X.A) Om I g d).1 _ _ _ _ ⟨.bl _,H,I,rfl,q⟩
theorem Qrt{n:Nat}(i:X.K=K)(j:X.A.units+n<cLine):OpR X (compareOp .NotEq) (fun x y H Q=>∃(a b:Addr) (xs:List V),x=.ref a/\y=.ref b/\SqL K H a xs/\SqL K H b []/\Q (.bl (!xs.isEmpty)) H):=by
 subst i
 intro c s k H x y v u Q I f e h
 obtain⟨a,b,xs,rfl,rfl,g,d,q⟩:=h
 cases f
 cases e
 exact(Qur (A:=X.A) Om I g d).2 _ _ _ _ ⟨.bl _,H,I,rfl,q⟩
theorem all_tt(n:Nat):(List.range n).all (fun _=>true)=true:=by simp
theorem Qfv{us:List V}{bk:List (List Key)}(D:A.units+1<cLine)(I:Inv X pins σ H s)(i:SqL X.K H a us)(k:SqL X.K H b vs)(t:Qhu H us bk)(u:Qhu H vs bk):EqAt A s (.ref a) (.ref b) true:=by
 by_cases g:a=b
 .subst g
  exact EqAt.same _
 obtain⟨e,r,pt,_⟩:=I.list i
 obtain⟨d,v,l,_⟩:=I.list k
 have T:=r.length
 have S:=v.length
 have U:=Paired.length t
 have Q:=Paired.length u
 have key:∀j (i:j<e.toArray.size) (k:j<d.toArray.size),EqAt A.in1 s e.toArray[j] d.toArray[j] ((fun _=>true) j):=fun j i k=>by
  rw[kY]at i k
  have n:j<us.length:=Om
  have q:j<vs.length:=Om
  obtain⟨R,p,h⟩:=r.get (gE n)
  obtain⟨P,o,f⟩:=v.get (gE q)
  obtain⟨C,F,x,z,M⟩:=Qv t (gE n)
  obtain⟨E,G,N,B,y⟩:=Qv u (gE q)
  have O:C=E:=Y5 (F.symm.trans G)
  subst O
  rw[z]at h
  rw[B]at f
  cases h
  cases f
  have w:e.toArray[j]=.ref x:=by rw[gE Om]at p;simpa using p
  have L:d.toArray[j]=.ref N:=by rw[gE Om]at o;simpa using o
  rw[w,L]
  obtain⟨c,J,m,_⟩:=Qau (A:=A.in1) (by show A.units+1<cLine;exact D) I (.of M) (.of y)
  rw[J.mpr rfl]at m
  exact m
 have:=RcAt.lists pt.isList l.isList (by rw[kY,kY];lia) Om key
 rw[all_tt]at this
 exact EqAt.of_refs g this
theorem Qfw(l:A.units<cLine)(I:Inv X pins σ H s)(m:SqT X.K H a (ks.map kV))(k:SqT X.K H b (ks.map kV)):EqAt A s (.ref a) (.ref b) true:=by
 by_cases f:a=b
 .subst f
  exact EqAt.same _
 obtain⟨d,r,pt,_⟩:=I.tuple m
 obtain⟨c,h,g,_⟩:=I.tuple k
 have n:=r.length
 have o:=h.length
 have key:=Qhv (A:=A.in1) (s:=s) r h
 have:=RcAt.tuples pt g l key
 have e:((List.range (min d.toArray.size c.toArray.size)).all (fun j=>decide (ks[j]?=ks[j]?))&&d.toArray.size == c.toArray.size)=true:=by
  rw[wV,Qdt,kY,kY,beq_iff_eq]
  exact⟨fun i _=>yJ rfl,Om⟩
 rw[e]at this
 exact EqAt.of_refs f this
theorem Qfx{κ:Type}[DecidableEq κ]:∀{kvs:List (κ×V)} {i:Nat} {k:κ} {v:V},(kvs.map (·.1)).Nodup->kvs[i]?=some (k,v)->valV kvs k=some v
 |[],i,k,v,_,e=>nomatch e
 |p::r,0,k,v,_,e=>by
  cases e
  unfold valV
  rw[List.find?_cons_of_pos (by simp)]
  rfl
 |p::r,i+1,k,v,n,e=>by
  have c:(p.1::r.map (·.1)).Nodup:=n
  obtain⟨f,d⟩:=kQa.mp c
  have a:r[i]?=some (k,v):=e
  have b:¬p.1=k:=fun z=>f (by rw[z];exact zV.mpr ⟨(k,v),kW a,rfl⟩)
  have:=Qfx d a
  unfold valV at this⊢
  rw[List.find?_cons_of_neg (by simpa using b)]
  exact this
theorem Qhw{kvs:List (Key×V)}{vs:List (Key×Value)}(h:KV kvs vs):kvs.map (·.1)=vs.map (·.1):=by
 induction h with
 |nil=>rfl
 |cons h _ ih=>rw[zX,zX,ih,h.1]
def EqW(prog:Program)(w:World)(A:Around)(s:Shared)(y x:Value)(b:Bool):Prop:=∀(E:VP) (Q:Bool->Shared->Prop),Q b s->wpAny (model prog w) A (eqBool y x) Q E s
theorem Qru{w:World}{k:Bool}(a:l≠b)(h:∀(E:VP) (Q:VP),Q (.bool k) s->wpAny (model prog w) A (richCompare .Eq (.ref l) (.ref b)) Q E s):EqW prog w A s (.ref l) (.ref b) k:=fun E Q c=>by
 unfold eqBool
 try with_reducible refine Y30 ?_
 show wpAny _ _ (if (Value.ref l == Value.ref b)=true then _ else _) Q E s
 rw[Y20 (fun z=>a (by have:=eq_of_beq z;injection this))]
 exact jQ (h _ _ (Y31 c))
open PySem.MeetsSeq PySem.MeetsSeq2 PySem.MeetsSeq3 in
theorem Qrv{w:World}(l b:Addr)(c a:Array Value)(n x:Nat)(v u:Option Addr)(E t:Array (Option Value))(hsz:c.size=a.size)(k:Nat) :
  ∀i:Nat,c.size-i=k->MeetsIn prog w (Builtin.«list.__eq__.loop» ⟨[.ref l,.ref b,rawInt i,rawInt 3],[]⟩)
   (fun A R s=>s.heap.get? l=some { cls:=.type "list",dict:=v,data:=.seq c n,slots:=E }/\s.heap.get? b=some { cls:=.type "list",dict:=u,data:=.seq a x,slots:=t } /\
    (∀j (h1:j<c.size) (h2:j<a.size),EqW prog w A.in1 s c[j] a[j] true)/\R (.ok (.ret (.bool false))) s):=by
 induction k with
 |zero=>
  intro i z A R s h
  obtain⟨D,g,d,B,y⟩:=s;obtain⟨o,p,r,h⟩:=h
  wp_walk using Y34 o,Y34 p
  have f:c[((i:Nat):Int).toNat]?=none:=by simp;lia
  have m:a[((i:Nat):Int).toNat]?=none:=by simp;lia
  rw[f,m]
  wp_walk using Y34 o,Y34 p
  show R (.ok (.ret (.bool (c.size != a.size)))) _
  rw[hsz]
  simpa using h
 |succ k ih=>
  intro i z A R s h
  obtain⟨D,g,d,B,y⟩:=s;obtain⟨o,p,r,h⟩:=h
  wp_walk using Y34 o,Y34 p
  have q:i<c.size:=Om
  have e:i<a.size:=Om
  have f:c[((i:Nat):Int).toNat]?=some c[i]:=by simp[q]
  have m:a[((i:Nat):Int).toNat]?=some a[i]:=by simp[e]
  have C:((i:Int)+1)=((i+1:Nat):Int):=by push_cast;rfl
  rw[f,m]
  refine jQ (r i q e _ _ ?_)
  wp_walk
  rw[C]
  exact⟨jJc plain_eq_loop _,Y28 entry_eq_loop (by
   rw[Y35 plain_eq_loop _]
   exact ih (i+1) Om A R _ ⟨o,p,r,h⟩)⟩
open PySem.MeetsSeq PySem.MeetsSeq2 PySem.MeetsSeq3 in
theorem Qrw{w:World}(l b:Addr)(c a:Array Value)(n k:Nat)(m f:Option Addr)(p e:Array (Option Value))(hsz:c.size=a.size) :
  MeetsIn prog w (Builtin.«list.__ne__» ⟨[.ref l,.ref b],[]⟩)
   (fun A R s=>s.heap.get? l=some { cls:=.type "list",dict:=m,data:=.seq c n,slots:=p }/\s.heap.get? b=some { cls:=.type "list",dict:=f,data:=.seq a k,slots:=e } /\
    (∀j (h1:j<c.size) (h2:j<a.size),EqW prog w A.in1 s c[j] a[j] true)/\R (.ok (.ret (.bool false))) s):=by
 intro A R s h
 obtain⟨u,g,d,x,t⟩:=s;obtain⟨o,i,q,h⟩:=h
 have v:=AutoSeq1.sub_list_list
 have r:¬(c.size != a.size)=true:=by simp[hsz]
 wp_walk using Y34 o,Y34 i
 exact⟨jJc plain_eq_loop _,Y28 entry_eq_loop (by
  rw[Y35 plain_eq_loop _]
  exact Qrv l b c a n k m f p e hsz _ 0 rfl A R _ ⟨o,i,q,h⟩)⟩
theorem Qfy(hu:A.units+1<cLine)(I:Inv X pins σ H s)(U:PlanAt X.K H a pl)(h2:PlanAt X.K H b pl):EqW X.prog X.w A s (.ref a) (.ref b) true:=by
 by_cases m:a=b
 .subst m
  exact fun E Q h=>EqAt.same _ _ _ _ _ h
 obtain⟨r,Z,O⟩:=U
 obtain⟨f,Y,R⟩:=h2
 obtain⟨z1,B,c,g,u⟩:=Ky I.hok Z
 obtain⟨z2,z,j,d,p⟩:=Ky I.hok Y
 have G:(f.map (·.1)).Nodup:=by
  obtain⟨_,_,_,_,_,_,_,_,n⟩:=id p
  rw[Qhw d];exact n
 have l1:=Paired.length O
 have l2:=Paired.length R
 have l3:=g.length
 have l4:=d.length
 have l:∀i,i<=c.length->PySem.W.KeqHits A.in1 s j (c.drop i) true:=by
  intro i hi
  obtain⟨n,hn⟩:∃n,c.length-i=n:=⟨_,rfl⟩
  induction n generalizing i with
  |zero=>rw[kYd Om];exact .nil
  |succ n ih=>
   have L:i<c.length:=Om
   rw[kJc L]
   obtain⟨q,S,h⟩:=Qv g (i:=i) (x:=r[i]'Om) (gE _)
   obtain⟨k,J,f1,F,g1,k1⟩:=Qv O (i:=i) (x:=r[i]'Om) (gE _)
   obtain⟨m2,t,f2,P,V,k2⟩:=Qv R (i:=i) (x:=f[i]'Om) (gE _)
   have em:k=m2:=Y5 (J.symm.trans t)
   subst em
   have C:c[i]=q:=by rw[gE L]at S;exact Y5 S
   have ev:valV f (inr k.1)=some (.ref P):=Qfx (i:=i) G (by
    rw[gE Om]
    exact congrArg some (Prod.ext f2 V))
   obtain⟨y,hy,T⟩:=RelO.some_of (v:=.ref P) (o:=valueAt j (inr k.1)) (by rw[<-ev];exact d.val _)
   cases T
   have er:q.2=.ref F:=by
    have N:=h.2
    rw[g1]at N
    exact(show q.2=Value.ref F from N)
   rw[C]
   obtain⟨qk,qv⟩:=q
   have ek:qk=inr k.1:=h.1.symm.trans f1
   have D:qv=.ref F:=er
   subst ek D
   exact PySem.W.KeqHits.hit (e:=true) (b:=true) hy (Qfw (ks:=[inr k.2.1,Sum.inl k.2.2]) (by show A.units+1<cLine;exact hu) I k1 k2) (ih (i+1) Om Om)
 have M:=l 0 (xW _)
 rw[jZc]at M
 intro E Q h
 show wpAny _ _ (eqBool (.ref a) (.ref b)) _ _ _
 exact Qru m (fun E Q h=>PySem.W.keq_eq (knd:=Xg X.prog X.w) B z u p Om (fun _=>M) (by
  have e5:(c.length == j.length&&true)=true:=by rw[Bool.and_true,beq_iff_eq];lia
  rw[e5]
  exact h)) E Q h
theorem Qwf{n:Nat}(hn:3<=n)(hu:X.A.units+n<cLine):OpR X (compareOp .NotEq) (fun x y H Q=>∃(a b l1 l2 d1 d2:Addr) (us vs:List V) (bk:List (List Key)) (pl:Z7),x=.ref a/\y=.ref b/\SqL X.K H a [.ref l1,.ref d1]/\SqL X.K H b [.ref l2,.ref d2]/\SqL X.K H l1 us/\Qhu H us bk/\SqL X.K H l2 vs/\Qhu H vs bk/\PlanAt X.K H d1 pl/\PlanAt X.K H d2 pl/\Q (.bl false) H):=by
 intro M s σ H x y v u Q I rx N h
 obtain⟨a,b,l1,l2,d1,d2,us,vs,bk,pl,rfl,rfl,c,k,S,h4,h5,P,Y,h8,q⟩:=h
 cases rx
 cases N
 obtain⟨U,r,pt,_⟩:=I.list c
 obtain⟨C,r',o,_⟩:=I.list k
 obtain⟨u1,u2,rfl,z,m⟩:=r.two
 obtain⟨w1,w2,rfl,l,g⟩:=r'.two
 cases z
 cases m
 cases l
 cases g
 have k0:EqAt X.A.in1 s (.ref l1) (.ref l2) true:=Qfv (A:=X.A.in1) (by show X.A.units+1+1<cLine;lia) I S h5 h4 P
 have W:EqW X.prog X.w X.A.in1 s (.ref d1) (.ref d2) true:=Qfy (A:=X.A.in1) (by show X.A.units+1+1<cLine;lia) I Y h8
 have key:∀j (c:j < [Value.ref l1,.ref d1].toArray.size) (k:j < [Value.ref l2,.ref d2].toArray.size),EqW X.prog X.w X.A.in1 s [Value.ref l1,.ref d1].toArray[j] [Value.ref l2,.ref d2].toArray[j] true:=fun j c k=>by
  match j,c with
  |0,_=>exact fun E Q Z=>k0 _ _ E Q Z
  |1,_=>exact W
  |j+2,c=>exact Y21 c (by simp)
 obtain⟨⟨T,R,G,sl⟩,i,L,O,J⟩:=id pt.isList
 obtain⟨⟨D,t,B,p⟩,d,e,m2,f⟩:=id o.isList
 simp only at L J e f
 subst L J e f
 exact wpAny_richCompare_same_room (op:=.NotEq) ⟨_,i,rfl⟩ ⟨_,d,rfl⟩ F.slot_list_ne (Y50 F.slot_list_ne ⟨_,i,rfl⟩ F.entry_list_ne (F.args_list_ne_2 _ _) (Qrw a b [Value.ref l1,.ref d1].toArray [Value.ref l2,.ref d2].toArray O m2 R t sl p rfl)
  ⟨i,d,key,⟨(fun x=>nomatch x),⟨.bl false,H,I,rfl,q⟩⟩⟩) Om
def Qnv(K:Fg)(H:Hp):List V->List (List Key×V)->Prop:=Paired fun v p=>∃t b,v=.ref t/\SqT K H t [.ref b,p.2]/\H b=some (.tup (p.1.map kV))
def Xk(ps:List (List Key×V)):List (List Key×V):=ps.foldl (fun d p=>putK d p.1 p.2) []
theorem Jh{ps:List (List Key×V)}{p:List Key×V}(h:ps[i]?=some p):Xk (ps.take (i+1))=putK (Xk (ps.take i)) p.1 p.2:=by
 unfold Xk
 rw[List.take_add_one,h,List.foldl_append]
 rfl
theorem Qav(ps:List (List Key×V)):(Xk ps).length<=ps.length:=by
 have key:∀(l:List (List Key×V)) (a:List (List Key×V)),(l.foldl (fun d p=>putK d p.1 p.2) a).length<=a.length+l.length:=by
  intro l
  induction l with
  |nil=>intro a;exact jK _
  |cons p t ih=>
   intro a
   have c:=ih (putK a p.1 p.2)
   have b:=Zj a p.1 p.2
   rw[kKe,yZ]
   lia
 have:=key ps []
 rwa [kYb,Nat.zero_add]at this
theorem Qnw{ps:List (List Key×V)}(hh:A.handled=none)(G:A.units+1<cLine)(hd:H d=none)(hl:SqL X.K H l vs)(U:Qnv X.K H vs ps)(hz:ps.length<sizeLine)
  (hR:∀s',Inv X pins σ (upd H d (.dT (Xk ps))) s'->R (.ok (.ret .none)) s') :
  ∀(k i:Nat) (s:Shared),ps.length-i=k->i<=ps.length->Inv X pins σ (upd H d (.dT (Xk (ps.take i)))) s->s.heap.IsListIter it l i->FpOk X pins (upd H d (.dT (Xk (ps.take i)))) it ->
   codeAny (model X.prog X.w) A (.builtin "dict.update.loop" ⟨[.ref d,.ref it,rawInt i,.none],[]⟩) R s:=by
 intro k
 induction k with
 |zero=>
  intro i s hk hi I S f
  have L:i=ps.length:=Om
  subst L
  rw[yV]at I f
  have v:Same H (upd H d (.dT (Xk ps))):=Qd hd _
  obtain⟨J,r,p,_⟩:=I.list (v.seq hl)
  have lv:=Paired.length U
  have lr:=r.length
  refine Y28 Vp ?_
  rw[Y35 Zr _]
  show wpAny _ A.in1 (pyNext (.ref it) >>= _) _ _ s
  refine jQ (wpAny_pyNext_list_end (A:=A.in1) hh S p.isList (by simp;lia) fun P D=>?_)
  refine jQ (jV (jV ?_))
  exact hR _ (I.turned (t':=s.toks) (fun b o y e=>D b o y e) f.1 f.2.1 f.2.2.2.1 f.2.2.2.2.1 f.2.2.2.2.2)
 |succ k ih=>
  intro i s hk hi I S f
  have v:Same H (upd H d (.dT (Xk (ps.take i)))):=Qd hd _
  obtain⟨J,r,p,_⟩:=I.list (v.seq hl)
  have lv:=Paired.length U
  have B:i<vs.length:=Om
  obtain⟨g,ep,t,b,ev,hT,y⟩:=Qv U (gE B)
  obtain⟨u,O,ru⟩:=r.get (gE B)
  rw[ev]at ru
  cases ru
  refine Y28 Vp ?_
  rw[Y35 Zr _]
  show wpAny _ A.in1 (pyNext (.ref it) >>= _) _ _ s
  refine jQ (wpAny_pyNext_list_item S p.isList (x:=.ref t) (by simpa using O) fun P N sb=>?_)
  have C:Inv X pins σ (upd H d (.dT (Xk (ps.take i)))) { s with heap:=P }:=I.turned (t':=s.toks) (fun b o y e=>(sb.2 b y).trans e) f.1 f.2.1 f.2.2.2.1 f.2.2.2.2.1 f.2.2.2.2.2
  obtain⟨aa,r2,⟨ot,gt,ct,nt,dt⟩,_⟩:=C.tuple (v.tup hT)
  obtain⟨u1,Z,rfl,W,M⟩:=r2.two
  cases W
  refine jQ (Y30 ?_)
  refine jQ (wpAny_tryCatch ?_)
  unfold Builtin.Dict.pairItems
  refine jQ (Y40 (T:="tuple") ⟨ot,gt,ct⟩ ?_)
  rw[Y22 (by simp)]
  refine jQ (wpAny_seqItems gt dt (jV ?_))
  show wpAny _ _ (holding [Value.ref b,Z] (dictSet d (Value.ref b) Z)) _ _ _
  obtain⟨z,Y,xs,m,dd⟩:=Qwa C.hok (Qc (H:=H) (a:=d) (o:=.dT (Xk (ps.take i))))
  have l1:=Qav (ps.take i)
  rw[xJ]at l1
  have E:xs.length<=sizeLine:=by rw[<-Paired.length m];exact z
  have D:=v _ _ y
  refine Y30 (wpAny_dictSet_heap (hsz:=E) (knd:=tupleKind (Xg X.prog X.w)) (k:=g.1) (by first | exact G | exact Nat.lt_of_succ_lt G | (show A.units+1<cLine;exact G)) (Qat C.hok D) dd fun h2 Q n=>?_)
  obtain⟨q,es,F,hq,q2,q3,q4,_,q5⟩:=Q
  have l2:=Zj (Xk (ps.take i)) g.1 g.2
  have I2:Inv X pins σ (upd (upd H d (.dT (Xk (ps.take i)))) d (.dT (putK (Xk (ps.take i)) g.1 g.2))) { s with heap:=h2,toks:=s.toks+(tupleKind (Xg X.prog X.w)).draws g.1 } :=
   Kg (s:={ s with heap:=P }) C (by rw[Qc];exact True.intro) n ⟨q,hq⟩ ⟨Om,Y,_,(m.put g.1 D M).keeps fun c ys ec=>(by
    rw[Qj (Yl ec (Qc (H:=H) (a:=d) (o:=.dT (Xk (ps.take i)))) (fun z=>nomatch z))]
    exact ec),q,es,F,hq,q2,q3,q4,q5⟩
  rw[Qdh,<-Jh ep]at I2
  have j:it≠d:=fun e=>by have:=f.1;rw[e,Qc]at this;cases this
  refine jV ⟨jJc Zr _,?_⟩
  have L:rawInt ((i:Int)+1)=rawInt ((i+1:Nat):Int):=by push_cast;rfl
  rw[L]
  refine ih (i+1) _ Om Om I2 (N.at fun o e=>n.extBut _ _ j e) ⟨?_,f.2⟩
  have:=f.1
  rw[Qj j]at this⊢
  exact this
theorem Qdz{n:Nat}(hn:2<=n)(hu:X.A.units+n<cLine)(D:X.calm=true):Zy X (.type "dict") (fun xs H Q=>∃(l:Addr) (vs:List V) (ps:List (List Key×V)),xs=[.ref l]/\SqL X.K H l vs/\Qnv X.K H vs ps/\ps.length<sizeLine/\∀d,H d=none->Q (.ref d) (upd H d (.dT (Xk ps)))):=by
 intro pins s σ H xs us Q I U h
 obtain⟨l,vs,ps,rfl,m,S,R,q⟩:=h
 obtain⟨u,rfl,M⟩:=U.one
 cases M
 refine callType_codes (Q₁:=fun g B=>g=.ref s.heap.objs.size/\B={ s with heap:=s.heap.push { cls:=.type "dict",data:=.dict #[] } }) F.kt_called_dict (F.kt_typeCall_dict_1 _) F.entry_dict_init (kt_code_dict_new _ ⟨rfl,rfl⟩) ?_
 rintro g B ⟨rfl,rfl⟩
 have v:H s.heap.objs.size=none:=I.hok.fresh (jK _)
 have w:Inv X pins σ (upd H s.heap.objs.size (.dT [])) { s with heap:=s.heap.push { cls:=.type "dict",data:=.dict #[] } }:=I.laid (t':=s.toks) (fun _ _ q=>jZ _ q) (jK _) (Qrq s.heap I.big)
 have y:Same H (upd H s.heap.objs.size (.dT [])):=Qd v _
 obtain⟨z,Z,kv,L,x⟩:=Qwa w.hok (Qc (H:=H) (a:=s.heap.objs.size) (o:=.dT []))
 refine⟨x.typeIs,F.args_dict_init_2 _ _,?_⟩
 unfold Builtin.«dict.__init__»
 refine jQ ?_
 unfold Builtin.Dict.selfAndRest
 refine jQ (Y59 x.typeIs ?_)
 show wpAny _ _ (pure (s.heap.objs.size,[Value.ref l])) _ _ _
 refine jV ?_
 show wpAny _ _ (Builtin.Dict.updateFrom "dict.__init__" s.heap.objs.size (.ref l) [] .none) _ _ _
 unfold Builtin.Dict.updateFrom
 obtain⟨O,r,⟨o,n5,e,c,E,G⟩,_⟩:=w.list (y.seq m)
 obtain⟨cls,P,J,N⟩:=o
 simp only at c E G
 subst c E G
 refine jQ (Y40 (T:="list") ⟨_,e,rfl⟩ ?_)
 rw[Y22 Dc]
 refine jQ (Vo (s:={ s with heap:=s.heap.push { cls:=.type "dict",data:=.dict #[] } }) e (by exact I.ok.hd D) fun i f p=>?_)
 have j:Inv X pins σ (upd H s.heap.objs.size (.dT [])) { s with heap:=i,toks:=f }:=w.kept p
 rw[Y22 (by rfl)]
 refine jQ (Y58 (jQ ?_))
 obtain⟨C,r2,W,_⟩:=j.list (y.seq m)
 refine Y51 (s:={ s with heap:=i,toks:=f }) W.isList ?_
 refine jV ⟨jJc Zr _,?_⟩
 have I3:Inv X pins σ (upd H s.heap.objs.size (.dT [])) { s with heap:=i.push { cls:=.type "list_iterator",data:=.fields #[.ref l,.int 0 0] },toks:=f }:=j.kept (t':=f) fun b o e=>jZ _ e
 have k:=j.hok.fresh (a:=i.objs.size) (jK _)
 refine Qnw (X:=X) (pins:=pins) (σ:=σ) (H:=H) (vs:=vs) (ps:=ps) (A:=X.A.in1) (by exact I.ok.hd D) (by show X.A.units+1+1<cLine;lia) v m S R (fun s' Y=>⟨rfl,.ref s.heap.objs.size,_,Y,rfl,q _ v⟩) ps.length 0 _ Om (xW _) I3 ⟨_,yY _ rfl,rfl,rfl⟩ (j.fpOk (jK _) k)
theorem Qlh:Zy X (.type "dict") (fun xs H Q=>∃(a:Addr) (kvs:List (Key×V)),xs=[.ref a]/\H a=some (.dK kvs)/\kvs.length<sizeLine/\∀d,H d=none->Q (.ref d) (upd H d (.dK kvs))):=by
 intro e s w H xs K Q I G h
 obtain⟨a,kvs,rfl,A,M,q⟩:=h
 obtain⟨u,rfl,B⟩:=G.one
 cases B
 refine callType_codes (Q₁:=fun g y=>g=.ref s.heap.objs.size/\y={ s with heap:=s.heap.push { cls:=.type "dict",data:=.dict #[] } }) F.kt_called_dict (F.kt_typeCall_dict_1 _) F.entry_dict_init (kt_code_dict_new _ ⟨rfl,rfl⟩) ?_
 rintro g y ⟨rfl,rfl⟩
 have i:H s.heap.objs.size=none:=I.hok.fresh (jK _)
 have p:Inv X e w (upd H s.heap.objs.size (.dK [])) { s with heap:=s.heap.push { cls:=.type "dict",data:=.dict #[] } }:=I.laid (t':=s.toks) (fun _ _ q=>jZ _ q) (jK _) (Qdw s.heap I.big)
 have J:s.heap.objs.size≠a:=fun z=>by rw[z,A]at i;cases i
 obtain⟨z,v,N,j,k⟩:=Ky p.hok (Qc (H:=H) (a:=s.heap.objs.size) (o:=.dK []))
 cases j
 obtain⟨O,m,r,c,b⟩:=Ky p.hok (Qd i (.dK []) a _ A)
 refine⟨k.typeIs,F.args_dict_init_2 _ _,?_⟩
 unfold Builtin.«dict.__init__»
 refine jQ ?_
 unfold Builtin.Dict.selfAndRest
 refine jQ (Y59 k.typeIs ?_)
 show wpAny _ _ (pure (s.heap.objs.size,[Value.ref a])) _ _ _
 refine jV ?_
 show wpAny _ _ (Builtin.Dict.updateFrom "dict.__init__" s.heap.objs.size (.ref a) [] .none) _ _ _
 unfold Builtin.Dict.updateFrom
 refine jQ (Y40 b.typeIs ?_)
 rw[Y20 Dc]
 refine jQ ?_
 unfold Builtin.Dict.merge
 refine jQ ?_
 unfold Builtin.Dict.readDirectly
 refine jQ (wpAny_isInstance b.typeIs PySem.F.sub_dict_dict ?_)
 simp only[Bool.not_true,jJa,if_false]
 refine jQ (Y64 b.typeIs F.slot_dict_iter.lookup (jV ?_))
 simp only[beq_self_eq_true,if_true]
 refine jQ (jV ?_)
 have L:=c.length
 refine wpAny_mergeDict (hsz:=by rw[kYb];lia) J m k b fun D f C l=>?_
 show wpAny _ _ (Builtin.Dict.addKeywords s.heap.objs.size [] >>= _) _ _ _
 have nd:(r.map (·.1)).Nodup:=by
  obtain⟨_,_,_,_,_,_,_,_,n⟩:=id b
  exact n
 rw[merged_nil_of_nodup _ nd]at f
 have x:Inv X e w (upd (upd H s.heap.objs.size (.dK [])) s.heap.objs.size (.dK kvs)) { s with heap:=D } :=
  Kg (s:={ s with heap:=s.heap.push { cls:=.type "dict",data:=.dict #[] } }) (t':=s.toks) p (by rw[Qc];exact True.intro) l (let ⟨q,_,_,E,_⟩:=f;⟨q,E⟩) (Qjk Om v c f)
 rw[Qdh]at x
 exact jQ (jV (jV ⟨rfl,.ref s.heap.objs.size,_,x,rfl,q _ i⟩))
end L2
namespace L2
open PySem PySem.Spec PyProof.Rows PySem.W
inductive IsT:String->Prop
 |int:IsT "int"
 |bool:IsT "bool"
 |tuple:IsT "tuple"
 |list:IsT "list"
 |str:IsT "str"
def isiW(K:Fg)(H:Hp):V->String->Bool->Prop
 |.non,_,b=>b=false
 |.int _,T,b=>b=decide (T="int")
 |.bl _,T,b=>b=decide (T="int"\/T="bool")
 |.str _,T,b=>b=decide (T="str")
 |.ref a,T,b=>((∃xs,SqT K H a xs)/\b=decide (T="tuple"))\/((∃xs,SqL K H a xs)/\b=decide (T="list"))
 |_,_,_=>False
theorem Jd:Zy X (.builtin "isinstance") (fun xs H Q=>∃x T b,xs=[x,.ty T]/\IsT T/\isiW X.K H x T b/\Q (.bl b) H):=by
 intro i s y H xs z Q I w h
 obtain⟨x,T,b,rfl,f,d,q⟩:=h
 obtain⟨u,v,rfl,g,m⟩:=w.two
 cases m
 have fin:∀(k:Nat),EP X i y Q (.bool b) { s with toks:=k }:=fun k=>⟨.bl b,H,I.tok k,rfl,q⟩
 cases x with
 |int n=>
  obtain⟨t,rfl⟩:=g
  cases f<;>(subst d)
  .exact IsiPair.int_int (fin s.toks)
  .exact IsiPair.int_bool (fin _)
  .exact IsiPair.int_tuple (fin _)
  .exact IsiPair.int_list (fin _)
  .exact IsiPair.int_str (fin _)
 |bl n=>
  cases g
  cases f<;>(subst d)
  .exact IsiPair.bool_int (fin s.toks)
  .exact IsiPair.bool_bool (fin s.toks)
  .exact IsiPair.bool_tuple (fin _)
  .exact IsiPair.bool_list (fin _)
  .exact IsiPair.bool_str (fin _)
 |str n=>
  obtain⟨t,rfl⟩:=g
  cases f<;>(subst d)
  .exact IsiPair.str_int (fin _)
  .exact IsiPair.str_bool (fin _)
  .exact IsiPair.str_tuple (fin _)
  .exact IsiPair.str_list (fin _)
  .exact IsiPair.str_str (fin s.toks)
 |non=>
  cases g
  cases f<;>(subst d)
  .exact IsiPair.NoneType_int (fin _)
  .exact IsiPair.NoneType_bool (fin _)
  .exact IsiPair.NoneType_tuple (fin _)
  .exact IsiPair.NoneType_list (fin _)
  .exact IsiPair.NoneType_str (fin _)
 |ref a=>
  cases g
  rcases d with⟨⟨xs,l⟩,d⟩ | ⟨⟨xs,l⟩,d⟩
  .obtain⟨j,r,⟨o,e,c,_⟩,_⟩:=I.tuple l
   cases f<;>(subst d)
   .exact IsiPair.tuple_int e c (fin _)
   .exact IsiPair.tuple_bool e c (fin _)
   .exact IsiPair.tuple_tuple e c (fin s.toks)
   .exact IsiPair.tuple_list e c (fin _)
   .exact IsiPair.tuple_str e c (fin _)
  .obtain⟨j,r,p,_⟩:=I.list l
   obtain⟨o,e,c,_⟩:=p.isList
   cases f<;>(subst d)
   .exact IsiPair.list_int e c (fin _)
   .exact IsiPair.list_bool e c (fin _)
   .exact IsiPair.list_tuple e c (fin _)
   .exact IsiPair.list_list e c (fin s.toks)
   .exact IsiPair.list_str e c (fin _)
 |byt _=>exact d.elim
 |flt _=>exact d.elim
 |ty _=>exact d.elim
end L2
namespace L2
open PySem PySem.Spec PySem.Calls PyProof.Rows PySem.W
theorem ObjOk.ex{w:World}{h:Heap}{o:HO}(x:ObjOk P w H h a o):∃ob,h.get? a=some ob:=by
 cases o with
 |lst xs=>obtain⟨_,_,_,_,e⟩:=x;exact⟨_,e⟩
 |tup xs=>obtain⟨_,_,_,ob,e,_⟩:=x;exact⟨_,e⟩
 |dK kvs=>obtain⟨_,_,_,_,o,_,_,e,_⟩:=x;exact⟨_,e⟩
 |dT kvs=>obtain⟨_,_,_,_,o,_,_,e,_⟩:=x;exact⟨_,e⟩
 |set S n=>obtain⟨o,_,_,_,e,_⟩:=x;exact⟨_,e⟩
 |ins C dx fs=>obtain⟨_,_,_,e,_⟩:=x;exact⟨_,e⟩
 |own y=>exact x
 |xd fs=>obtain⟨_,⟨_,_,_,e,_⟩,_⟩:=x;exact⟨_,e⟩
 |rng lo hi=>obtain⟨_,_,_,e⟩:=x;exact⟨_,e⟩
 |frz ob u=>exact⟨_,x.1⟩
 |tbl ps=>exact⟨_,x⟩
 |met f y=>exact⟨_,x⟩
 |ext φ=>exact x.2.1
theorem Qrx{fs:List Addr}{h h1 h2 B:Heap}(u:Un fs [] H H' h h1)(c:∀b,b∉fs->((∃o,h.get? b=some o)\/H' b≠none)->∃o,B.get? b=some o)(r:B.StaysIn h1)(m:B.StaysIn h2)(p:h1.UpToSlots h2)
  (q:∀b∈fs,∃o,h1.get? b=some o/\∀vs,o.data≠.fields vs):Un fs [] H H' h h2 where
 keep:=fun b o e n a i=>by
  have j:=u.keep b o e n a i
  obtain⟨d,g⟩:=c b a (.inl ⟨o,e⟩)
  have f:=r b d g
  rw[j]at f
  cases f
  exact m b o g
 slot:=fun b o e n a i=>by
  obtain⟨s,j⟩:=u.slot b o e n a i
  obtain⟨d,k,nf⟩:=q b a
  rw[j]at k
  cases k
  obtain⟨l,f⟩:=p b _ j nf
  exact⟨l,f⟩
 free:=u.free
 there:=fun b o e i=>by
  by_cases a:b∈fs
  .obtain⟨d,k,nf⟩:=q b a
   obtain⟨s,f⟩:=p b _ k nf
   exact⟨_,f⟩
  .obtain⟨d,g⟩:=c b a (.inl ⟨o,e⟩)
   exact⟨d,m b d g⟩
 tups:=u.tups
 frzs:=u.frzs
 tbls:=u.tbls
theorem Qjq{w:World}{fs:List Addr}{h h1 h2 B:Heap}(x:HOk P w H' h1)(c:∀b,b∉fs->((∃o,h.get? b=some o)\/H' b≠none)->∃o,B.get? b=some o)(i:B.StaysIn h1)(j:B.StaysIn h2)(m:∀b∈fs,H' b=none):HOk P w H' h2:=fun b l e=>by
 refine(x b l e).stay (fun d u hd q=>?_) (fun _ q=>q) fun _ _ q=>q
 have g:H' d≠none:=by
  rcases hd with rfl | hd
  .rw[e];exact fun z=>nomatch z
  .rw[hd];exact fun z=>nomatch z
 obtain⟨k,a⟩:=c d (fun z=>g (m d z)) (.inr g)
 have f:=i d k a
 rw[q]at f
 cases f
 exact j d u a
theorem Yj{h B:Heap}{l:List Env}(f:h.FunFrames B l):∀b∈frs l,∃o,h.get? b=some o/\∀vs,o.data≠.fields vs:=fun b a=>(f.mem a).2
abbrev Cx.suite(X:Cx)(e:Addr):Cx:={ X with A:=X.A.mark (some (.ref e)),calm:=false,xe:=fun _ _=>False }
theorem Cx.Ok.suite(ok:X.Ok)(e:Addr):(X.suite e).Ok :=
 ⟨ok.mod,ok.kind,ok.glob,ok.blt,ok.above,ok.inj,ok.has,ok.cab,(fun z=>nomatch z),ok.frames,ok.stk,ok.exf,ok.bs,ok.bsz,ok.noex,ok.exfs,ok.funs,ok.frf⟩
section
variable{e:Addr}
theorem Inv.suite(I:Inv X pins σ H s)(e:Addr):Inv (X.suite e) pins σ H s:=⟨I.ok.suite e,I.os,I.bare,I.base,I.loc,I.cell,I.free,I.freeC,I.pin,I.hok,I.len⟩
theorem Inv.unsuite(ok:X.Ok)(I:Inv (X.suite e) pins σ H s):Inv X pins σ H s:=⟨ok,I.os,I.bare,I.base,I.loc,I.cell,I.free,I.freeC,I.pin,I.hok,I.len⟩
theorem Un.track{fs:List Addr}{h:Heap}{o:HO}(u:Un fs [] H H' h h')(i:h.get? e=none)(he:H' e=none):Un fs [] H (upd H' e o) h h' where
 keep:=u.keep
 slot:=u.slot
 free:=fun b a q n f=>by
  have d:b≠e:=fun z=>by rw[z,i]at q;cases q
  rw[Qj d]
  exact u.free b a q n f
 there:=u.there
 tups:=fun b g q=>by have:=u.tups b g q;rw[Qj (Qk this he)];exact this
 frzs:=fun b a v q=>by have:=u.frzs b a v q;rw[Qj (Qk this he)];exact this
 tbls:=fun b ps q=>by
  obtain⟨m,c⟩:=u.tbls b ps q
  exact⟨m,by rw[Qj (Qk c he)];exact c⟩
theorem HOk.track{w:World}{h:Heap}{o:HO}(x:HOk P w H' h)(he:H' e=none)(a:ObjOk P w (upd H' e o) h e o):HOk P w (upd H' e o) h:=fun b u q=>by
 by_cases d:b=e
 .subst d;rw[Qc]at q;cases q;exact a
 .rw[Qj d]at q
  exact(x b u q).stay (fun _ _ _ q=>q) (fun c q=>by rw[Qj (Qk q he)];exact q) fun c f q=>by rw[Qj (Qk q he)];exact q
theorem Qnx{v:V}{Q:Unit->Shared->Prop}(I:Inv X pins σ H s)(W:X.N.Nodup)(K:X.N[i]?=some x)(G:X.env.scope.names.lookup x=some .local)(Z:σ[i]?=some (some v))
  (h:∀s',Inv X pins (σ.set i none) H s'->Q () s'):wpAny M A (unbindName X.env x) Q E s:=by
 obtain⟨m,U,S⟩:=id I.loc
 have B:(X.env.scope.kind == .class||(X.env.scope.kind == .module&&X.env.locals != X.env.globals))=false:=by rw[I.ok.kind];rfl
 have cne:=I.cne
 obtain⟨u,_,Y⟩:=S i x v K Z (.inl G)
 have hm:m x=some u:=by
  rcases Y with⟨_,z⟩ | ⟨z,_⟩
  .exact z
  .rcases z with z | z
   .have:=(show X.env.scope.names.lookup x=some .cell from z);rw[G]at this;cases this
   .have:=(show X.env.scope.names.lookup x=some .free from z);rw[G]at this;cases this
 have t:i<σ.length:=by rw[I.len];exact(kX.mp K).1
 have f:∀{a:Addr} {F:Heap},(∃o,s.heap.get? a=some o/\H a=none)->Heap.SameBut a s.heap F->HOk X.prog X.w H F:=fun{a F} ha g=>HOk.but I.hok ha.choose_spec.2 g
 refine wpAny_unbindName_local G U hm B fun F u' J g=>?_
 obtain⟨oL,_,_,O,_⟩:=id U
 refine h _ ⟨I.ok,I.os,I.bare,⟨fun b o e n P C=>?_,fun b o e n P C=>?_,I.base.free,fun b o e C=>?_,I.base.tups,I.base.frzs,I.base.tbls⟩,⟨_,J,fun j y v' l D e3=>?_⟩,fun y c e=>?_,I.free,I.freeC,fun p hp=>?_,f ⟨oL,O,I.free⟩ g,by simpa using I.len⟩
 .exact(g.2 b (zW (xZ (yK e) I.ok.above))).trans (I.base.keep b o e n P C)
 .obtain⟨sl,l⟩:=I.base.slot b o e n P C
  exact⟨sl,(g.2 b (zW (xZ (yK e) I.ok.above))).trans l⟩
 .obtain⟨o',l⟩:=I.base.there b o e C
  exact⟨o',(g.2 b (zW (xZ (yK e) I.ok.above))).trans l⟩
 .by_cases L:j=i
  .subst L
   rw[jKe t]at D
   cases D
  .rw[yXa (Ne.symm L)]at D
   obtain⟨R,r',q⟩:=S j y v' l D e3
   refine⟨R,r',?_⟩
   rcases q with⟨k,e⟩ | ⟨k,c,e,z⟩
   .refine .inl ⟨k,?_⟩
    have:y≠x:=fun e=>L (Qdi W l (e▸K))
    simp[this,e]
   .exact .inr ⟨k,c,e,z.sameBut g (cne y c e)⟩
 .obtain⟨R,z⟩:=I.cell y c e
  exact⟨R,z.sameBut g (cne y c e)⟩
 .obtain⟨e,n,T,nf,d⟩:=I.pin p hp
  exact⟨(g.2 p.1 T).trans e,n,T,nf,d⟩
end
def IsA(K:Fg)(C D:Addr):Prop:=∀(M:Model) (A:Around) (E:VP) (s:Shared) (e:Addr) (ob:Obj) (Q:Bool->Shared->Prop),K.In s.heap->s.heap.get? e=some ob->ob.cls=.ref C->Q true s->wpAny M A (excMatches (.ref e) (.ref D)) Q E s
structure ExcIn(K:Frag)(C:Addr):Prop where
 ga:findIn K (.ref C) "__getattribute__"=some (some (.builtin "BaseException.__getattribute__"))
 gn:findIn K (.ref C) "__getattr__"=some none
 cl:findIn K (.ref C) "__class__"=some (some (.builtin "object.__class__"))
 mo:mroIn K C (.type "object")=some true
 mb:mroIn K C (.type "BaseException")=some true
section
variable{w:World}{h:Heap}{g:Array GenState}{d:Drawn}{t:Nat}{os:OsState}{K:Frag}
theorem Js(b:h.get? a=some o)(c:o.cls=.ref C):Looks M h (typeOf (.ref a)) (.ref C):=c▸(Looks.ld b).andThen .now
open Builtin Builtin.ObjectAttr Builtin.Getset_descriptor in
theorem ex_get{tp:Value}(X:K.In h)(Z:ExcIn K C)(b:h.get? a=some o)(c:o.cls=.ref C)(e:R (.ok (.ret (.ref C))) ⟨h,g,d,t,os⟩) :
  codeAny (model prog w) A (.call (.builtin "getset_descriptor.__get__") ⟨[.builtin "object.__class__",.ref a,tp],[]⟩) R ⟨h,g,d,t,os⟩:=by
 have i:=Js (M:=model prog w) b c
 have f:=looks_mroIn (M:=model prog w) X Z.mo
 refine Y43 KF.slot_gs.plain KF.entry_gs (KF.slot_gs.check _ _ _ _ _ _ _ _ KF.type_class (KF.args_gs _ _ _) ?_)
 unfold Builtin.«getset_descriptor.__get__» descrGet
 rw[dga_obj]
 refine jQ (jV ?_)
 unfold descrGetter descrCheckInstance descrNameAndClass isInstance
 simp only[KF.owner_class]
 repeat lk
 refine⟨Code.quiet_builtin _ Dk,Y28 KF.entry_class ?_⟩
 unfold Builtin.«object.__class__» shownTypeOf
 repeat lk
 exact e
theorem Qry{Q:Fin->Shared->Prop}(X:K.In h)(Z:ExcIn K C)(b:h.get? a=some o)(c:o.cls=.ref C)(m:Q (.done (.ret (.ref C))) ⟨h,g,d,t,os⟩) :
  wpAny (model prog w) A (Builtin.«object.__getattribute__» ⟨[.ref a,.str "__class__" tk],[]⟩) Q E ⟨h,g,d,t,os⟩:=by
 have j:=Js (M:=model prog w) b c
 have f:=looks_findIn (M:=model prog w) X Z.cl
 have e:(⟨h,g,d,t,os⟩:Shared).TypeIs (.builtin "object.__class__") "getset_descriptor":=F.typeOf_object_class
 have k:=F.typeOf_object_class
 have i:=F.slot_gs_get.lookup
 have l:=F.slot_gs_set.lookup
 repeat (any_goals (first | assumption | (with_reducible refine Y27 b ?_;rw[c]) | with_reducible refine Looks.at (by assumption) ?_ | wp_step))
 refine ex_get X Z b c ?_
 repeat (any_goals (first | assumption | wp_step))
theorem Qwg(X:K.In h)(Z:ExcIn K C)(b:h.get? a=some o)(c:o.cls=.ref C)(l:R (.ok (.ret (.ref C))) ⟨h,g,d,t,os⟩) :
  codeAny (model prog w) A (.call (.builtin "BaseException.__getattribute__") ⟨[.ref a,.str "__class__" tk],[]⟩) R ⟨h,g,d,t,os⟩:=by
 refine Y43 F.excAttr_ValueError.ga.plain F.entry_bexc_ga ?_
 have e:builtinKind "BaseException.__getattribute__"=some .slot:=Dk
 have i:splitId "BaseException.__getattribute__"=some ("BaseException","__getattribute__"):=Dk
 have m:=F.args_bexc_ga (.ref a) (.str "__class__" tk)
 have j:=Js (M:=model prog w) b c
 have f:=looks_mroIn (M:=model prog w) X Z.mb
 have k:Looks (model prog w) h (isInstance (.ref a) (.type "BaseException")) true:=j.andThen f
 simp only[checkBuiltinCall,e,i]
 refine jQ (k.at ?_)
 repeat (first | exact Qry X Z b c l | wp_step)
theorem ex_by{fill:Bool}{Q:VP}(X:K.In h)(Z:ExcIn K C)(c:h.get? a=some o)(e:o.cls=.ref C)(n:Q (.ref C) ⟨h,g,d,t,os⟩) :
  wpAny (model prog w) A (getAttrBy (.ref a) (.str "__class__" tk) fill expr) Q E ⟨h,g,d,t,os⟩:=by
 have l:=Js (M:=model prog w) c e
 have j:=looks_findIn (M:=model prog w) X Z.ga
 have m:=looks_findIn (M:=model prog w) X Z.gn
 have k:=F.excAttr_ValueError.ga.bind (.ref a)
 have i:(expr&&onTheHeap (Value.builtin "BaseException.__getattribute__"))=false:=by cases expr<;>rfl
 have b:(Value.builtin "BaseException.__getattribute__" == Value.builtin "object.__getattribute__")=false:=Dk
 have f:(onTheHeap (Value.ref C)&&Value.builtin "BaseException.__getattribute__" == Value.builtin "object.__getattribute__")=false:=by rw[b];rfl
 repeat (any_goals (first | assumption | with_reducible refine Looks.at (by assumption) ?_ | wp_step))
 refine Qwg X Z c e ?_
 repeat (any_goals (first | assumption | wp_step))
theorem Qwh(X:K.In s.heap)(Z:ExcIn K C)(b:s.heap.get? a=some o)(c:o.cls=.ref C)(f:Q (some (.ref C)) { s with toks:=s.toks+1 }) :
  wpAny (model prog w) A (getAttr? (.ref a) "__class__") Q E s:=by
 obtain⟨h,g,d,t,e⟩:=s
 unfold getAttr? getAttrBy?
 repeat (any_goals (first | assumption | with_reducible refine ex_by X Z b c ?_ | wp_step))
end
abbrev vErr:List Value:=[.type "ValueError",.type "Exception",.type "BaseException",.type "object"]
theorem Qaw{K:Frag}{b:Value}{r:Bool}(e:mroIn K C b=some r):∃c d cd sl,K.lookup C=some ⟨c,d,.cls cd,sl⟩:=by
 obtain⟨cd,a,_⟩:=Option.bind_eq_some_iff.mp e
 unfold clsIn at a
 split at a
 .rename_i c d f sl g
  exact⟨c,d,f,sl,g⟩
 .cases a
theorem Qea{K:Frag}(Z:ExcIn K C):KitX K (.ref a) (.ref C) (fun h=>∃o,h.get? a=some o/\o.cls=.ref C) where
 ty:=fun M h X ⟨o,hx,hc⟩=>Js hx hc
 it:=fun M h X _=>by
  obtain⟨c,d,f,j,b⟩:=Qaw Z.mo
  intro A Q E s k q
  unfold isType loadHead
  exact jQ (wpAny_loadPart (k _ _ (X _ _ b)) (jV q))
 ne:=fun h p m g n j X e=>by
  obtain⟨c,d,f,i,b⟩:=Qaw Z.mo
  have l:=X _ _ b
  refine beq_eq_false_iff_ne.mpr fun z=>?_
  cases z
  rw[l]at e
  cases e
 ca:=fun X ⟨o,hx,hc⟩ q=>Qwh X Z hx hc q
theorem Qny:∀{Ds:List Addr} {its:List Value},Vals (Ds.map V.ref) its->its=Ds.map Value.ref
 |[],_,.nil=>rfl
 |D::r,_,.cons a b=>by cases a;rw[zX,Qny b]
def Big(i:Int):Prop:=i.natAbs<2 ^ 4000
theorem Qrz:OpR X (binaryOp .FloorDiv) (rI (fun _ j=>j≠0/\Big j) fun i j=>.int (i.fdiv j)):=opI fun i j _ _ _ _ _ a q=>floordiv_int a.1 q (.inl (PyProof.noPylong_of_log2 (xZ ((Nat.log2_lt (by have:=a.1;lia)).mpr a.2) Dc)))
theorem isA_of{K:Frag}{D:Addr}(b:mroIn K C (.ref D)=some true)(a:mroIn K D (.type "BaseException")=some true)(f:typeIn K (.ref D)=some (.type "type")):IsA K C D:=by
 intro M A E s e t Q X g l q
 have u:=Js (M:=M) g l
 have n:=looks_mroIn (M:=M) X b
 have v:=looks_mroIn (M:=M) X a
 have m:=looks_typeIn (M:=M) X f
 have j:Looks M s.heap (isSubtype (.type "type") (.type "tuple")) false:=Looks.of_pure tc_notTuple
 have i:Looks M s.heap (isInstance (.ref D) (.type "tuple")) false:=m.andThen j
 have o:Looks M s.heap (isType (.ref D)) true:=by
  obtain⟨c,d,p,w,h⟩:=Qaw a
  intro A Q E r k q
  unfold isType loadHead
  exact jQ (wpAny_loadPart (k _ _ (X _ _ h)) (jV q))
 unfold excMatches
 refine jQ (i.at ?_)
 unfold isExcClass
 repeat (any_goals (first | exact q | with_reducible refine Looks.at (by assumption) ?_ | wp_step))
theorem Qax:∀(names:List (Str×NameKind)) (n:Nat) (acc:List (Str×Addr)) {x:Str} {c:Addr},(cellsFrom n names acc).lookup x=some c->((x,NameKind.cell)∈names/\n<=c)\/acc.lookup x=some c
 |[],n,acc,x,c,h=>.inr h
 |(y,k)::r,n,acc,x,c,h=>by
  unfold cellsFrom at h
  by_cases a:(k == NameKind.cell)=true
  .rw[Y22 a]at h
   rcases Qax r (n+1) ((y,n)::acc) h with⟨b,e⟩ | h
   .exact .inl ⟨kQ _ b,Om⟩
   .rw[wW]at h
    cases d:x == y with
    |true=>
     rw[d]at h
     have g:x=y:=by simpa using d
     have i:n=c:=Y5 h
     have f:k=.cell:=by simpa using a
     subst g f
     exact .inl ⟨jY,Om⟩
    |false=>rw[d]at h;exact .inr h
  .rw[Y20 a]at h
   rcases Qax r n acc h with⟨b,e⟩ | h
   .exact .inl ⟨kQ _ b,e⟩
   .exact .inr h
theorem Qnz:∀(names:List (Str×NameKind)) (n:Nat) (acc:List (Str×Addr)),(∀x c,acc.lookup x=some c->c<n)->(∀x y c,acc.lookup x=some c->acc.lookup y=some c->x=y)->∀x y c,(cellsFrom n names acc).lookup x=some c->(cellsFrom n names acc).lookup y=some c->x=y
 |[],n,acc,_,hi=>hi
 |(z,k)::r,n,acc,hl,hi=>by
  unfold cellsFrom
  by_cases b:(k == NameKind.cell)=true
  .rw[Y22 b]
   have look:∀x c,((z,n)::acc).lookup x=some c->(x=z/\c=n)\/acc.lookup x=some c:=fun x c h=>by
    rw[wW]at h
    cases a:x == z with
    |true=>rw[a]at h;exact .inl ⟨by simpa using a,(Y5 h).symm⟩
    |false=>rw[a]at h;exact .inr h
   refine Qnz r (n+1) ((z,n)::acc) (fun x c h=>?_) fun x y c h1 h2=>?_
   .rcases look x c h with⟨_,e⟩ | h
    .rw[e];exact Nat.lt_succ_self _
    .exact jKb (hl x c h)
   .rcases look x c h1 with⟨i,g⟩ | h1<;>rcases look y c h2 with⟨d,f⟩ | h2
    .rw[i,d]
    .exact Y21 (hl y c h2) (by rw[g];exact jYd _)
    .exact Y21 (hl x c h1) (by rw[f];exact jYd _)
    .exact hi x y c h1 h2
  .rw[Y20 b]
   exact Qnz r n acc hl hi
theorem Qoa:∀(names:List (Str×NameKind)) (n:Nat) (acc:List (Str×Addr)) {x:Str},(x,NameKind.cell)∉names->(cellsFrom n names acc).lookup x=acc.lookup x
 |[],n,acc,x,h=>rfl
 |(y,k)::r,n,acc,x,h=>by
  unfold cellsFrom
  by_cases a:(k == NameKind.cell)=true
  .rw[Y22 a,Qoa r (n+1) _ fun z=>h (kQ _ z),wW]
   have b:k=.cell:=by simpa using a
   subst b
   cases d:x == y with
   |true=>
    have c:x=y:=by simpa using d
    subst c
    exact Y21 jY h
   |false=>rfl
  .rw[Y20 a]
   exact Qoa r n acc fun z=>h (kQ _ z)
theorem Qus{env:Env}:∀(l:List (Str×NameKind)) (cs:List (Str×Addr)) {x:Str} {c:Addr},(Xz env l cs).lookup x=some c->(x,NameKind.free)∈l\/cs.lookup x=some c
 |[],cs,x,c,h=>.inr h
 |(n,k)::r,cs,x,c,h=>by
  unfold Xz at h
  rcases Qus r _ h with h | h
  .exact .inl (kQ _ h)
  .by_cases a:k=.free
   .rw[Y22 a,wW]at h
    cases b:x == n with
    |true=>
     have d:x=n:=by simpa using b
     subst d a
     exact .inl jY
    |false=>rw[b]at h;exact .inr h
   .rw[Y20 a]at h
    exact .inr h
theorem Qsa(names:List (Str×NameKind)):∀(h:Heap) (acc:List (Str×Addr)) {x:Str} {c:Addr},(cellsFrom h.objs.size names acc).lookup x=some c->acc.lookup x=some c\/(pushCells h names).IsCell c none:=by
 induction names with
 |nil=>intro h acc x c e;exact .inl e
 |cons p r ih=>
  obtain⟨y,k⟩:=p
  intro h acc x c e
  unfold cellsFrom at e
  unfold pushCells
  by_cases a:(k == NameKind.cell)=true
  .rw[Y22 a]at e⊢
   have:=ih (h.push { cls:=.type "cell",data:=.cell none }) ((y,h.objs.size)::acc) (x:=x) (c:=c) (by rw[jZb];exact e)
   rcases this with e2 | e2
   .rw[wW]at e2
    cases b:x == y with
    |true=>
     rw[b]at e2
     have d:h.objs.size=c:=Y5 e2
     subst d
     exact .inr ⟨_,pushCells_keeps r _ _ _ (yY _ rfl),rfl⟩
    |false=>rw[b]at e2;exact .inl e2
   .exact .inr e2
  .rw[Y20 a]at e⊢
   exact ih h acc e
theorem Qli{globals:Addr}{closure:List (Str×Addr)}{env:Env}{Q:Env->Shared->Prop}
  (c:Q { scope:=scope,locals:=s.heap.objs.size,globals:=globals,cells:=cellsFrom (s.heap.objs.size+1) scope.names closure,qual:=qual,func:=none,code:=env.code,frame:=env.frame,builtins:=env.builtins } { s with heap:=pushCells (s.heap.push { cls:=.type "dict",data:=.dict #[] }) scope.names }) :
  wpAny M A (newFunctionEnv scope globals closure [] qual none .none (some env)) Q E s:=by
 simp only[newFunctionEnv,Option.isSome_some,if_true]
 refine jQ (wpAny_alloc ?_)
 refine jQ (wpAny_layCells _ (fun b kind cells=>by cases a:kind == NameKind.cell<;>simp[a]) _ _ _ _ ?_)
 rw[show({ s with heap:=s.heap.push { cls:=.type "dict",data:=.dict #[] } }:Shared).heap.objs.size=s.heap.objs.size+1 from jZb ..]
 refine jQ ?_
 rw[List.forIn_nil]
 exact jV (jV c)
def Qay(scope:Scope):Bool:=scope.names.all fun p=>scope.names.lookup p.1 == some p.2
theorem Qaz(h:Qay scope=true){k:NameKind}(a:(x,k)∈scope.names):scope.names.lookup x=some k:=by
 have:=jXa.mp h _ a
 simpa using this
def Qba(X:Cx)(scope:Scope)(L:Addr):List (Str×Addr):=cellsFrom (L+1) scope.names (Xz X.env scope.names [])
def Xx(X:Cx)(N:List Str)(scope:Scope)(fp:List Addr)(H:Hp)(s:Shared):Cx :=
 { X with N:=N,s₀:=s,H₀:=H,env:=compEnvC scope (Qba X scope s.heap.objs.size) s.heap.objs.size X.env,outer:=X.stack,stack:=X.stack,ex:=fp,fn:=fun y=>scope.names.lookup y == some .cell,pn:=[],xe:=fun _ _=>False }
theorem Qhx(I:Inv X pins σ H s)(l:∀b∈fp,FpOk X pins H b)(i:∀b∈fp,b<s.heap.objs.size)(D:scope.kind=.function)
  (g:Qay scope=true) (f:freeOk X.env.scope scope.names=true):(Xx X N scope fp H s).Ok:=by
 have has:∀n,(n,NameKind.free)∈scope.names->∃c,X.env.cells.lookup n=some c:=fun n F=>I.ok.has n (Ym f n F)
 have a:∀x c,(Xz X.env scope.names []).lookup x=some c->X.env.cells.lookup x=some c:=Jb _ _ has fun x c e=>by simp at e
 have p:∀x c,(Xz X.env scope.names []).lookup x=some c->c<s.heap.objs.size:=fun x c e=>by obtain⟨v,z⟩:=I.cell x c (a x c e);exact z.lt
 have fs:∀b∈fp,b∉frs X.stack:=fun b d z=>by
  obtain⟨_,A,B,_⟩:=l b d
  rcases kZ.mp (I.stkSub b z)with e | e
  .exact A e
  .exact B e
 refine⟨I.ok.mod,D,I.ok.glob,I.ok.blt,jK _,fun x y c r C=>?_,fun x J=>?_,fun x c h e=>?_,I.ok.hd,I.ok.frames,.inl rfl,fun b d=>⟨zW (i b d),fun x c e=>?_⟩,
  I.bs,jQc I.ok.bsz I.sz,fun b o e d=>?_,fs,I.stack,I.stkFree⟩
 .exact Qnz scope.names (s.heap.objs.size+1) _ (fun x c e=>jKb (p x c e)) (fun x y c u t=>I.ok.inj x y c (a x c u) (a y c t)) x y c r C
 ·have m:(scope.names.map fun (n,k)=>if (k == NameKind.free && X.env.scope.kind == .function && X.env.kindOf n == some .cell) then (n,NameKind.cell) else (n,k)).lookup x=some .cell \/
    (scope.names.map fun(n,k)=>if (k == NameKind.free&&X.env.scope.kind == .function&&X.env.kindOf n == some .cell)then(n,NameKind.cell)else(n,k)).lookup x=some .free:=J
  have E:scope.names.lookup x=some .cell\/(x,NameKind.free)∈scope.names:=by
   rcases m with e | e
   .obtain⟨G,j,z | z⟩:=Xs e
    .subst z
     exact .inl j
    .obtain⟨_,z⟩:=z
     subst z
     exact .inr (lookup_mem j)
   .obtain⟨G,j,z | z⟩:=Xs e
    .subst z
     exact .inr (lookup_mem j)
    .exact nomatch z.1
  refine jJb.mp (PySem.W.cellsFrom_some scope.names _ _ ?_)
  rcases E with e | e
  .exact .inl e
  .exact .inr (Jc _ _ x (.inr e))
 .have q:scope.names.lookup x=some .cell:=by simpa using(show(scope.names.lookup x == some .cell)=true from h)
  rcases Qax scope.names _ _ e with⟨_,z⟩ | z
  .exact Nat.le_of_succ_le z
  .rcases Qus _ _ z with z | z
   .rw[Qaz g z]at q;cases q
   .simp at z
 .rcases Qax scope.names _ _ e with⟨_,z⟩ | z
  .exact fun y=>Y21 (i b d) (by rw[<-y];exact Nat.not_lt.mpr (Nat.le_of_succ_le z))
  .exact(l b d).2.2.2.2.1 x c (a x c z)
 .obtain⟨_,_,_,w,_⟩:=l b d
  rcases w with z | z
  .exact I.ok.noex b o e z
  .exact Y21 (xZ (yK (I.ok.bs b o e).1) z) (jYd _)
theorem Qlj{m:Z9}(I:Inv X pins σ H s)(W:∀b∈fp,FpOk X pins H b)(J:∀b∈fp,b<s.heap.objs.size)(U:scope.kind=.function)
  (f:Qay scope=true) (a:freeOk X.env.scope scope.names=true) (g:Kf X scope N cp=true)
  (K:h'.Ns s.heap.objs.size m) (w:∀b o,s.heap.get? b=some o->h'.get? b=some o) (D:∀x c,(Qba X scope s.heap.objs.size).lookup x=some c->(Xz X.env scope.names []).lookup x=some c\/h'.IsCell c none):Inv (Xx X N scope fp H s) [] (Ke cp σ) H { s with heap:=h',toks:=t' }:=by
 have has:∀n,(n,NameKind.free)∈scope.names->∃c,X.env.cells.lookup n=some c:=fun n hn=>I.ok.has n (Ym a n hn)
 have q:∀x c,(Xz X.env scope.names []).lookup x=some c->X.env.cells.lookup x=some c:=Jb _ _ has fun x c e=>by simp at e
 refine⟨Qhx I W J U f a,rfl,I.bare,⟨fun b o e n _ _=>w b o e,fun b o e n _ _=>⟨o.slots,w b o e⟩,fun b o e n _=>n,fun b o e _=>⟨o,w b o e⟩,fun b Y e=>e,fun b o Y e=>e,fun b ps e=>⟨#[],by rw[Array.append_empty];exact e⟩⟩,⟨m,K,fun i x v Q P V=>?_⟩,fun x c e=>?_,I.hok.fresh (jK _),fun x c e=>?_,(fun p hp=>nomatch hp),I.hok.kept w,?_⟩
 .obtain⟨j,O,S,C⟩:=Qap g Q P
  obtain⟨m',_,T⟩:=I.loc
  have A:=Ym a x (lookup_mem C)
  obtain⟨u,r,l⟩:=T j x v O S (.inr A)
  rcases l with⟨l,_⟩ | ⟨_,c,Z,d⟩
  .rcases A with z | z
   .exact nomatch (Y5 (l.symm.trans z))
   .exact nomatch (Y5 (l.symm.trans z))
  .obtain⟨R,B⟩:=jJb.mp (Jc (env:=X.env) scope.names [] x (.inr (lookup_mem C)))
   have L:=q x R B
   rw[Z]at L
   cases L
   have G:(Qba X scope s.heap.objs.size).lookup x=some c:=by
    unfold Qba
    rw[Qoa scope.names _ _ fun z=>?_]
    .exact B
    .rw[Qaz f z]at C;cases C
   refine⟨u,r,.inr ⟨?_,c,G,?_⟩⟩
   .rcases V with z | z | z
    .obtain⟨k0,M,y | y⟩:=Xs (show(scope.names.map fun(n,k)=>if (k == NameKind.free&&X.env.scope.kind == .function&&X.env.kindOf n == some .cell)then(n,NameKind.cell)else(n,k)).lookup x=some .local from z)
     .rw[C]at M;cases M;cases y
     .exact nomatch y.1
    .exact .inl z
    .exact .inr z
   .obtain⟨o,E,F⟩:=d
    exact⟨o,w c o E,F⟩
 .rcases D x c e with z | z
  .obtain⟨v,o,E,F⟩:=I.cell x c (q x c z)
   exact⟨v,o,w c o E,F⟩
  .exact⟨none,z⟩
 .rcases Qax scope.names _ _ e with⟨_,z⟩ | z
  .exact I.hok.fresh (Nat.le_of_succ_le z)
  .exact I.freeC x c (q x c z)
 .show(Ke cp σ).length=N.length
  unfold Ke
  rw[jX]
  exact Qao g
theorem Qfz{σ':St}(I:Inv X pins σ H s)(a:∀b∈fp,FpOk X pins H b)
  (J:Inv (Xx X N scope fp H s) pins' σ' H' s'):Inv X pins σ H' s' :=
 I.call' (ch:=fp) J.os J.base J.hok J.bare fun b c=>⟨(a b c).2.2.2.1,(a b c).2.1,(a b c).2.2.2.2.1,(a b c).2.2.2.2.2⟩
theorem Qob{target:Expr}{Q:Addr->Hp->Prop}
    {tn:Nat->Heap->Prop}  {RR:Value->Addr->Result->Shared->Prop} (hc:X.calm=true) (hk:scope.kind=.function) (ab:Qay scope=true) (O:freeOk X.env.scope scope.names=true) (ac:Kf X scope N cp=true)
  (hg:∀fp H s,PG (Xx X N scope fp H s) target g) (ht:∀fp H s,PF (Xx X N scope fp H s) ifs tt) (he:∀fp H s,PE (Xx X N scope fp H s) elt te)
  (I:Inv X pins σ H s) (T:Turn X.prog X.w X.K target J fp it tn) (st:tn 0 s.heap) (hf:∀b∈fp,FpOk X pins H b)
  (h:∀D,H D=none->LcW J D (Ke cp σ) H g tt te Q)
  (ao:∀D C s' H' m,Inv X pins σ H' s'->FpOk X pins H' C->s'.heap.Ns C m->Q D H'->RR (.ref D) C (.ok .next) s') :
  wpAny (model X.prog X.w) X.A (newList []) (fun acc s3=>wpAny (model X.prog X.w) X.A (newFunctionEnv scope X.env.globals (Xz X.env scope.names []) [] X.env.qual none .none (some X.env)) (fun cenv s4=>
   codeAny (model X.prog X.w) X.A (.compStart (.ListComp elt [⟨target,iter,ifs,0⟩] scope pos) 0 (.ref it) acc { cenv with scope:=relabel scope X.env }) (RR acc cenv.locals) s4) E s3) E s:=by
 have ag:∀b∈fp,b<s.heap.objs.size:=fun b j=>by
  obtain⟨o,e,_⟩:=T.obj _ _ st b j
  exact yK e
 refine Y26 (Qli ?_)
 have hD:H s.heap.objs.size=none:=I.hok.fresh (jK _)
 have I3:Inv X pins σ (upd H s.heap.objs.size (.lst [])) { s with heap:=s.heap.push { cls:=.type "list",dict:=none,data:=.seq ([]:List Value).toArray } } :=
  I.laid (t':=s.toks) (fun b u e=>jZ _ e) (jK _) ⟨xW _,[],0,.nil,yY _ rfl⟩
 have P:∀b∈fp,FpOk X pins (upd H s.heap.objs.size (.lst [])) b:=fun b j=>⟨by rw[Qj (zW (ag b j))];exact(hf b j).1,(hf b j).2⟩
 have z:∀b∈fp,b<(s.heap.push { cls:=.type "list",dict:=none,data:=.seq ([]:List Value).toArray }).objs.size:=fun b j=>by rw[jZb];exact jKb (ag b j)
 generalize al:s.heap.push { cls:=.type "list",dict:=none,data:=.seq ([]:List Value).toArray }=H2 at I3 z⊢
 generalize Y:({ s with heap:=H2 }:Shared)=s3 at I3
 have f:s3.heap=H2:=by rw[<-Y]
 have M:(pushCells (H2.push { cls:=.type "dict",data:=.dict #[] }) scope.names).Ns H2.objs.size (fun _=>none):=(Heap.Ns.new H2 (.type "dict")).keeps (pushCells_keeps _ _)
 have G:∀x c,(Qba X scope s3.heap.objs.size).lookup x=some c->(Xz X.env scope.names []).lookup x=some c\/(pushCells (H2.push { cls:=.type "dict",data:=.dict #[] }) scope.names).IsCell c none:=fun x c e=>by
  rw[f]at e
  exact Qsa scope.names (H2.push { cls:=.type "dict",data:=.dict #[] }) _ (by rw[jZb];exact e)
 have q:∀b o,s3.heap.get? b=some o->(pushCells (H2.push { cls:=.type "dict",data:=.dict #[] }) scope.names).get? b=some o:=fun b o e=>by
  rw[f]at e
  exact pushCells_keeps _ _ _ _ (jZ _ e)
 generalize aq:pushCells (H2.push { cls:=.type "dict",data:=.dict #[] }) scope.names=h1 at M G q
 have J0:Inv (Xx X N scope fp (upd H s.heap.objs.size (.lst [])) s3) [] (Ke cp σ) (upd H s.heap.objs.size (.lst [])) { s3 with heap:=h1,toks:=s.toks } :=
  Qlj I3 P (by rw[f];exact z) hk ab O ac (by rw[f];exact M) q G
 have ad:tn 0 h1:=T.keep _ _ _ st fun b j o e=>q b o (by rw[f,<-al];exact jZ _ e)
 obtain⟨W,⟨m0,w0⟩,ae⟩:=h s.heap.objs.size hD
 have l:∀{H':Hp},(∀b∈fp,H' b=none)->∀b∈fp,FpOk (Xx X N scope fp (upd H s.heap.objs.size (.lst [])) s3) [] H' b:=fun{H'} hn b j=>
  ⟨hn b j,(J0.ok.exf b j).1,J0.ok.exfs b j,.inl j,(J0.ok.exf b j).2,fun p hp=>nomatch hp⟩
 have F:codeAny (model X.prog X.w) X.A (.compLoop (.ListComp elt [⟨target,iter,ifs,0⟩] scope pos) 0 (.ref it) (.ref s.heap.objs.size) (compEnvC scope (Qba X scope H2.objs.size) H2.objs.size X.env))
   (RR (.ref s.heap.objs.size) H2.objs.size) { s3 with heap:=h1,toks:=s.toks }:=by
  have B:compEnvC scope (Qba X scope H2.objs.size) H2.objs.size X.env=(Xx X N scope fp (upd H s.heap.objs.size (.lst [])) s3).env:=by
   rw[<-f];rfl
  rw[B]
  refine Wq (fun n s'=>∃i R U H',Inv (Xx X N scope fp (upd H s.heap.objs.size (.lst [])) s3) [] R H' s'/\tn i s'.heap/\(∀b∈fp,H' b=none)/\W i n R U H') ?_ m0 ⟨0,Ke cp σ,[],_,J0,ad,fun b j=>(P b j).1,w0⟩
  rintro n s4 ⟨i,R,U,H4,I4,V,aa,w4⟩
  obtain⟨av,hh⟩:=ae i n R U H4 w4
  rcases hh with⟨af,qn⟩ | ⟨go,Z,N1,N2,ap,aj,step⟩
  .refine thn (T.done (Xx X N scope fp (upd H s.heap.objs.size (.lst [])) s3) rfl rfl rfl hc i [] s4 R H4 _ I4 (l aa) V af) fun r s5 a=>?_
   obtain⟨hr,I5⟩:=a
   subst hr
   obtain⟨m,hm,_⟩:=I5.loc
   have e5:H2.objs.size=(Xx X N scope fp (upd H s.heap.objs.size (.lst [])) s3).env.locals:=by rw[<-B];rfl
   refine ao _ _ s5 H4 m (Qfz I3 P I5) ?_ (by rw[e5];exact hm) qn
   exact I3.fpOk (by rw[f];exact jK _) (by rw[e5];exact I5.free)
  .refine thn (T.item (Xx X N scope fp (upd H s.heap.objs.size (.lst [])) s3) rfl rfl rfl hc i [] s4 R H4 _ I4 (l aa) V go) fun r s5 a=>?_
   obtain⟨u,hr,h5⟩:=a
   subst hr
   refine thn h5 fun _ s6 a=>?_
   obtain⟨x,H6,I6,r6,y6,S,ai⟩:=a
   have an:=I6.pinned (l ai) (T.obj _ _ S)
   refine thn (hg fp _ _ _ s6 R H6 x u _ an r6 (step x H6 y6)) fun _ s7 a=>?_
   obtain⟨k,H7,I7,q7⟩:=a
   refine thn (ht fp _ _ _ s7 k H7 _ I7 q7) fun ok s8 a=>?_
   obtain⟨H8,I8,q8⟩:=a
   have L:∀{σ':St} {H':Hp} {s':Shared},Inv (Xx X N scope fp (upd H s.heap.objs.size (.lst [])) s3) ([]++Qcl fp s6.heap) σ' H' s'->Inv (Xx X N scope fp (upd H s.heap.objs.size (.lst [])) s3) [] σ' H' s'/\tn (i+1) s'.heap/\∀b∈fp,H' b=none:=fun{σ' H' s'} I'=>by
    refine⟨I'.unpinned,T.keep _ _ _ S fun b j o e=>(I'.pin (b,o) (yX _ (yX _ (Ja j e)))).1,fun b j=>?_⟩
    obtain⟨o,e,d⟩:=T.obj _ _ S b j
    exact(I'.pin (b,o) (yX _ (yX _ (Ja j e)))).2.1
   cases ok with
   |false=>
    rw[Y20 yQ]at q8⊢
    obtain⟨m',hm,w8⟩:=aj _ _ q8
    obtain⟨b1,b2,b3⟩:=L I8
    exact⟨m',hm,i+1,k,U,H8,b1,b2,b3,w8⟩
   |true=>
    rw[Y22 rfl]at q8⊢
    refine thn (he fp _ _ _ s8 k H8 _ I8 q8) fun y s9 a=>?_
    obtain⟨v,H9,I9,r9,am,n9⟩:=a
    obtain⟨m',hm,w9⟩:=ap _ _ _ n9
    refine thn (Xh _ s9 k H9 (.ref s.heap.objs.size) [v] (.ref s.heap.objs.size) [y] (fun _ H'=>H'=upd H9 s.heap.objs.size (.lst (U++[v]))) I9 rfl (.cons r9 .nil) ⟨_,U,v,rfl,rfl,am,Z,rfl⟩) fun _ ar a=>?_
    obtain⟨_,au,ah,_,ak⟩:=a
    subst ak
    obtain⟨b1,b2,b3⟩:=L ah
    exact⟨m',hm,i+1,k,_,_,b1,b2,b3,w9⟩
 subst Y
 subst aq
 exact codeAny_compStart_list F (T.self _ 0 _ _ _ ad F)
theorem Qsb{target:Expr}{spos:Pos}(N:List Str)(cp:List (Option Nat))(hc:X.calm=true)(R:X.N.Nodup)(B:X.N[i]?=some x)(L:Loc X.env.scope x)(Y:PI X target iter wi)
  (hg:∀fp H s,PG (Xx X N scope fp H s) target g) (S:∀fp H s,PF (Xx X N scope fp H s) ifs tt) (he:∀fp H s,PE (Xx X N scope fp H s) elt te)
  (E:autoParam (swapsWith (.ListComp elt [⟨target,iter,ifs,0⟩] scope pos) (some (.Name x px)) spos.line X.env=pure true) J1._auto_1)
  (M:autoParam (scope.kind=.function) J1._auto_1) (r:autoParam (Qay scope=true) J1._auto_1) (d:autoParam (freeOk X.env.scope scope.names=true) J1._auto_1) (u:autoParam (Kf X scope N cp=true) J1._auto_1)
  (f:autoParam ((scope.names.all fun p=>p.2 != .local||scope.names.lookup p.1 == some .local)=true) J1._auto_1) (hs:autoParam (∀x,foldedSetIterable iter X.env x=pure x) J4._auto_1)
  (hf:autoParam (X.fn x=true\/X.env.scope.names.lookup x=some .local) J3._auto_1) :
  PS X (.Assign [.Name x px] (.ListComp elt [⟨target,iter,ifs,0⟩] scope pos) spos) (fun D σ H=>tLC cp wi g tt te σ H fun a H'=>D.nx (σ.set i (some (.ref a))) H'):=by
 intro j s σ H D I h
 have has:∀n,(n,NameKind.free)∈scope.names->∃c,X.env.cells.lookup n=some c:=fun n hn=>I.ok.has n (Ym d n hn)
 rw[exec_Assign_Name_used _ _ _ _ E]
 refine jQ (Y62 (jQ ?_))
 show wpAny _ _ (do let _ ← comprehension (.ListComp elt [⟨target,iter,ifs,0⟩] scope pos) scope X.env _ (newList []) false (eval iter X.env) (some (assign (.Name x px) X.env))) _ _ s
 refine jQ (Y29 (wpAny_comprehension_free (use:=some (assign (.Name x px) X.env)) (Q:=fun _ K=>SP X j D .next K) rfl hs (Zv has) M (fun x L hl=>?_)
  (thn (Y j s σ H _ I h) fun xv s1 P=>thn P fun aa s2 W=>?_)) (fun _ K hq=>jV (jV hq)) fun _ _ e=>e)
 .have:=jXa.mp f x L
  simp only[kZe,bne_iff_ne,beq_iff_eq]at this
  exact this.resolve_left fun z=>z hl
 .obtain⟨it,fp,tn,J,H2,e,Z,T,F,V,U⟩:=W
  subst e
  refine Qob (N:=N) (cp:=cp) hc M r d u hg S he Z T F V U fun O C K H' m I' l hm q=>?_
  show wpAny _ _ (assign (.Name x px) X.env (.ref O)) _ _ _
  refine wpAny_assign_Name (Qae I' R B L (v:=.ref O) rfl (fun A G k=>?_) hf)
  obtain⟨a,k,ha⟩:=k
  have y:C≠a:=by
   rcases ha with e | e
   .rw[e];exact l.2.1
   .exact fun z=>l.2.2.2.2.1 x a e z.symm
  refine⟨m,hm.sameBut k y,fun h' w=>?_⟩
  exact⟨_,H',G.turned (t':=A.toks) (fun b o hb e=>w.extBut b o hb e) l.1 l.2.1 l.2.2.2.1 l.2.2.2.2.1 l.2.2.2.2.2,q⟩
def rCatG(K:Fg):R2:=fun x y H Q=>∃a b xs ys,x=.ref a/\y=.ref b/\SqT K H a xs/\SqT K H b ys/\ys≠[]/\xs.length+ys.length<=sizeLine/\∀(p:Addr) (H':Hp),Same H H'->SqT K H' p (xs++ys)->Q (.ref p) H'
theorem Qwi:OpR X (binaryOp .Add) (rCatG X.K):=by
 intro g s E H x y v u Q I A m h
 obtain⟨a,b,r,M,rfl,rfl,B,j,D,N,q⟩:=h
 by_cases C:r=[]
 .subst C
  cases A
  cases m
  obtain⟨i,O,P,_⟩:=I.tuple B
  obtain⟨f,Y,U,_⟩:=I.tuple j
  have T:i=[]:=O.nil_iff.mpr rfl
  subst T
  obtain⟨⟨W,R,S,l⟩,o,t,n,w⟩:=id P
  obtain⟨⟨Z,L,G,k⟩,c,d,J,e⟩:=id U
  simp only at t w d e
  subst t w d e
  exact concat_meets ⟨_,o,rfl⟩ ⟨_,c,rfl⟩ noFill_tuple_add seq_tuple_add PySem.F.slot_tuple_add PySem.F.entry_tuple_add (PySem.F.args_tuple_add_2 _ _) (tuple_addW0 a b ([]:List Value).toArray f.toArray n J R L l k (by simp)) ⟨o,c,⟨.ref b,H,I,rfl,q b H (Same.refl H) j⟩⟩
 .exact Qdq g s E H (.ref a) (.ref b) v u Q I A m ⟨a,b,r,M,rfl,rfl,B,j,C,N,fun z=>Y21 z D,fun _ p V=>q p _ (Qd V _) (Qz Qc)⟩
theorem Qsc(a:X.K=K):OpR X (binaryOp .Add) (rCatG K):=by subst a;exact Qwi
theorem Qsd{l:Expr}{tl:TE}(a:X.K=K)(b:PE X l tl):PI X tg l (iList K tl):=by subst a;exact Qx b
end L2
namespace L2
open PySem PySem.W PyProof.Rows
end L2
namespace L2
open PySem PySem.Spec PySem.W PyProof.Rows
open PySem.SeqAt
end L2
namespace L2
open PySem PySem.Spec PyProof.Rows PySem.W
structure Tab(w:World)(K:Frag)(mg:Z9)(x:Str)(a:Addr)(f:Z9):Prop where
 bound:mg x=some (.ref a)
 map:∀(P:Program) (h:Heap),K.In h->h.MapOf (strKind P w) a f
 low:(a == sysModules)=false
theorem tab_mk{w:World}{K:Frag}{es:Array DictEntry}{n:Nat}(c:mg x=some (.ref a))(d:K.lookup a=some ⟨.type "dict",none,.dict es n,#[]⟩)(b:KeysLit w.params es.toList)(lo:(a == sysModules)=false) :
  Tab w K mg x a (fun k=>findBy Value.isStrOf es k):=⟨c,fun P h X=>mapOf_K (prog:=P) X d b,lo⟩
def rTab(a:Addr)(f:Z9):R2:=fun x y H Q=>∃s v z,x=.ref a/\y=.str s/\f s=some v/\RelV z v/\Q z H
theorem ix_tab{f:Z9}(T:Tab X.w X.K X.mg x a f):IxR X (rTab a f):=by
 intro b c d s n H x y v u Q I j i h g
 obtain⟨z,m,r,rfl,rfl,l,k,q⟩:=h
 cases j
 obtain⟨t,rfl⟩:=i
 have e:=T.map X.prog _ I.kIn
 exact tail_any e.typeIs slot_dict_getitem.lookup (wpAny_getItem_of (strKind_is X.prog X.w z t) e l ⟨r,H,I.tok _,k,q⟩) g
theorem Qjr:bootBuiltins "str"=some (.type "str"):=Dk
end L2
namespace L2
open PySem PySem.Spec PySem.W PyProof.Rows
open PySem.SeqAt
end L2
namespace HT
open PySem PySem.Spec PyProof.Rows
section
variable{w:World}
theorem getItem_tuple_whole{t sl:Addr}{items:Array Value}{Q:VP}(b:IsTup s.heap t items)(f:s.heap.IsSliceOf sl vl vu .none)(pl:IsPart vl lo)(k:IsPart vu hi)
  (g:sIx items.size 0 lo=0/\sIx items.size items.size hi=items.size) (h:Q (.ref t) s):wpAny (model prog w) A (getItem (.ref t) (.ref sl)) Q E s:=by
 obtain⟨i,c,e,j⟩:=id f
 have d:s.TypeIs (.ref sl) "slice":=⟨i,c,e⟩
 unfold getItem
 try with_reducible refine Y30 ?_
 first | refine jQ (jV ?_) | skip
 refine jQ (wpAny_sequenceKey b.typeIs Dc ?_)
 refine jQ (wpAny_callSpecial?_slot (name:=Str.ofString "__getitem__") b.typeIs Y44
  (Y25 Y44 b.typeIs entry_tuple_getitem ?_ (args_tuple_getitem _ _)))
 show wpAny _ _ (Builtin.Tuple.tupleItemsOf (.ref t) >>= _) _ _ s
 refine jQ (tupleItemsOf_ b ?_)
 refine jQ (Y40 d ?_)
 rw[Y22 Dc]
 refine jQ (Jy f pl k ?_)
 have a:((((sIx items.size 0 lo:Nat):Int) == 0&&(1:Int) == 1&&(sIx items.size items.size hi-sIx items.size 0 lo) == items.size)=true):=by
  rw[g.1,g.2]
  simp
 show wpAny _ _ (if (((sIx items.size 0 lo:Nat):Int) == 0&&(1:Int) == 1&&(sIx items.size items.size hi-sIx items.size 0 lo) == items.size)=true then _ else _) _ _ s
 rw[Y22 a]
 unfold Builtin.Tuple.tupleIsExact
 refine jQ (jQ (Y40 b.typeIs (jV ?_)))
 rw[Y22 Dc]
 refine jQ (Y58 ?_)
 first
  |exact jV ⟨_,rfl,jV h⟩
  |exact jQ (jV ⟨_,rfl,jV h⟩)
  |exact jQ (jV (jV ⟨_,rfl,jV h⟩))
end
end HT
namespace L2
open PySem PySem.Spec PySem.W PyProof.Rows
open PySem.SeqAt
def rSlG(K:Fg):V->Option Int->Option Int->Hp->VK->Prop:=fun x lo hi H Q=>∃a xs,x=.ref a/\SqT K H a xs/\∀p H',Same H H'->SqT K H' p (cutV xs lo hi)->Q (.ref p) H'
theorem Qwj:SlR X (rSlG X.K):=by
 intro d s w H x v u y g i A Q I o n t l h
 obtain⟨a,b,rfl,k,q⟩:=h
 by_cases f:HT.sIx b.length 0 g=0/\HT.sIx b.length b.length i=b.length
 .have e:cutV b g i=b:=by unfold cutV;rw[f.1,f.2];simp
  rw[e]at q
  cases o
  obtain⟨j,r,m,B⟩:=I.tuple k
  have c:j.toArray.size=b.length:=by rw[kY];exact r.length.symm
  refine⟨"tuple",_,PyProof.Rows.slot_tuple_getitem.lookup,m.typeIs,?_⟩
  exact HT.getItem_tuple_whole m n t l (by rw[c];exact f) ⟨.ref a,H,I,rfl,q a H (Same.refl H) k⟩
 .exact Qjd d s w H (.ref a) v u y g i A Q I o n t l ⟨a,b,rfl,k,f,fun p z=>q p _ (Qd z _) (Qz Qc)⟩
theorem Qse(a:X.K=K):SlR X (rSlG K):=by subst a;exact Qwj
end L2
namespace L2
open PySem
@[irreducible] def QE (X:Cx) (e:Expr) (t:TE):Prop:=PE X e t
@[irreducible] def QA (X:Cx) (es:List Expr) (t:TA):Prop:=PA X es t
@[irreducible] def QS (X:Cx) (st:Stmt) (t:TS):Prop:=PS X st t
@[irreducible] def QSs (X:Cx) (st:List Stmt) (t:TS):Prop:=PSs X st t
theorem QE.of{t:TE}(h:PE X e t):QE X e t:=by unfold QE;exact h
theorem QE.pe{t:TE}(h:QE X e t):PE X e t:=by unfold QE at h;exact h
theorem QA.of{t:TA}(h:PA X es t):QA X es t:=by unfold QA;exact h
theorem QA.pa{t:TA}(h:QA X es t):PA X es t:=by unfold QA at h;exact h
theorem QS.of{t:TS}(h:PS X st t):QS X st t:=by unfold QS;exact h
theorem QS.ps{t:TS}(h:QS X st t):PS X st t:=by unfold QS at h;exact h
theorem QSs.of{st:List Stmt}{t:TS}(h:PSs X st t):QSs X st t:=by unfold QSs;exact h
theorem QSs.pss{st:List Stmt}{t:TS}(h:QSs X st t):PSs X st t:=by unfold QSs at h;exact h
theorem qa_nil:QA X [] tNil:=.of Qf
theorem qe_lst{t:TA}(h:QA X es t):QE X (.List es pos) (tLst t):=.of (Xd h.pa)
theorem Qoc:QSs X [] tNext:=.of Xa
theorem Zf{rest:List Stmt}{t u:TS}(b:QS X st t)(a:QSs X rest u):QSs X (st::rest) (tSeq t u):=.of (Qg b.ps a.pss)
theorem Wc{t:TS}(a:QS X st t):QSs X [st] t:=.of (Qi a.ps)
theorem Qbb(d:X.N.Nodup)(b:X.N[i]?=some x)(c:Loc X.env.scope x)(he:QE X e te)(a:autoParam (swapsWith e (some (.Name x pos')) pos.line X.env=pure false) J1._auto_1)(f:autoParam (X.fn x=true\/X.env.scope.names.lookup x=some .local) J3._auto_1) :
  QS X (.Assign [.Name x pos'] e pos) (tAsg te (Vi i)):=.of (Qo d b c he.pe a f)
theorem qs_asg(he:QE X e te)(c:PG X tg g)(b:autoParam (swapsWithSole [tg] e pos.line X.env=pure false) J1._auto_1)(a:autoParam (swappedStores [tg] e X.env=pure none) J1._auto_1)
  (d:autoParam ((assignEach [tg] X.env).map (·.2)=[assign tg X.env]) J1._auto_1):QS X (.Assign [tg] e pos) (tAsg te g):=.of (ps_asg he.pe c b a d)
theorem qs_ret(he:QE X e te):QS X (.Return (some e) pos) (tRet te):=.of (Xb he.pe)
theorem qs_if{c:Expr}{a b:List Stmt}{t u:TS}{tc:TT}(e:PT X c tc)(f:QSs X a t)(d:QSs X b u):QS X (.If c a b pos) (tIfS tc t u):=.of (Xy e f.pss d.pss)
theorem lenS{α:Type}{l:List α}{n:Nat}(h:l.length=n+1):∃a t,l=a::t/\t.length=n:=by
 cases l with
 |nil=>exact Y21 h (Nat.succ_ne_zero n).symm
 |cons a t=>exact⟨a,t,rfl,Nat.succ.inj h⟩
theorem len1{α:Type}{l:List α}(h:l.length=1):∃a,l=[a]:=by
 obtain⟨a,t,rfl,b⟩:=lenS h
 exact⟨a,congrArg _ (List.length_eq_zero_iff.mp b)⟩
theorem len2{α:Type}{l:List α}(h:l.length=2):∃a b,l=[a,b]:=by
 obtain⟨a,t,rfl,c⟩:=lenS h
 obtain⟨b,rfl⟩:=len1 c
 exact⟨a,b,rfl⟩
theorem len3{α:Type}{l:List α}(h:l.length=3):∃a b c,l=[a,b,c]:=by
 obtain⟨a,t,rfl,d⟩:=lenS h
 obtain⟨b,c,rfl⟩:=len2 d
 exact⟨a,b,c,rfl⟩
theorem len4{α:Type}{l:List α}(h:l.length=4):∃a b c d,l=[a,b,c,d]:=by
 obtain⟨a,t,rfl,e⟩:=lenS h
 obtain⟨b,c,d,rfl⟩:=len3 e
 exact⟨a,b,c,d,rfl⟩
theorem len5{α:Type}{l:List α}(h:l.length=5):∃a b c d e,l=[a,b,c,d,e]:=by
 obtain⟨a,t,rfl,f⟩:=lenS h
 obtain⟨b,c,d,e,rfl⟩:=len4 f
 exact⟨a,b,c,d,e,rfl⟩
theorem bind1{F:List Value->Prop}(h:∀a,F [a]):∀us:List Value,us.length=1->F us:=fun us b=>by
 obtain⟨a,rfl⟩:=len1 b
 exact h a
theorem Jt{F:List Value->Prop}(h:∀a b,F [a,b]):∀us:List Value,us.length=2->F us:=fun us c=>by
 obtain⟨a,b,rfl⟩:=len2 c
 exact h a b
theorem Ww{F:List Value->Prop}(h:∀a b c,F [a,b,c]):∀us:List Value,us.length=3->F us:=fun us d=>by
 obtain⟨a,b,c,rfl⟩:=len3 d
 exact h a b c
theorem Qsf{F:List Value->Prop}(h:∀a b c d,F [a,b,c,d]):∀us:List Value,us.length=4->F us:=fun us e=>by
 obtain⟨a,b,c,d,rfl⟩:=len4 e
 exact h a b c d
theorem bind5{F:List Value->Prop}(h:∀a b c d e,F [a,b,c,d,e]):∀us:List Value,us.length=5->F us:=fun us f=>by
 obtain⟨a,b,c,d,e,rfl⟩:=len5 f
 exact h a b c d e
theorem Qeb(h:let r3:TS:=s3;let r2:TS:=tSeq s2 r3;tSeq s1 r2 D σ H):(tSeq s1 (tSeq s2 (s3))) D σ H:=h
theorem Ju(h:let r4:TS:=s4;let r3:TS:=tSeq s3 r4;let r2:TS:=tSeq s2 r3;tSeq s1 r2 D σ H):(tSeq s1 (tSeq s2 (tSeq s3 (s4)))) D σ H:=h
theorem Qaa(h:let r5:TS:=s5;let r4:TS:=tSeq s4 r5;let r3:TS:=tSeq s3 r4;let r2:TS:=tSeq s2 r3;tSeq s1 r2 D σ H):(tSeq s1 (tSeq s2 (tSeq s3 (tSeq s4 (s5))))) D σ H:=h
theorem Qsg(h:let r6:TS:=s6;let r5:TS:=tSeq s5 r6;let r4:TS:=tSeq s4 r5;let r3:TS:=tSeq s3 r4;let r2:TS:=tSeq s2 r3;tSeq s1 r2 D σ H):(tSeq s1 (tSeq s2 (tSeq s3 (tSeq s4 (tSeq s5 (s6)))))) D σ H:=h
theorem Qsh(h:let r7:TS:=s7;let r6:TS:=tSeq s6 r7;let r5:TS:=tSeq s5 r6;let r4:TS:=tSeq s4 r5;let r3:TS:=tSeq s3 r4;let r2:TS:=tSeq s2 r3;tSeq s1 r2 D σ H):(tSeq s1 (tSeq s2 (tSeq s3 (tSeq s4 (tSeq s5 (tSeq s6 (s7))))))) D σ H:=h
theorem Qod{s8 s9:TS}(h:let r12:TS:=s12;let r11:TS:=tSeq s11 r12;let r10:TS:=tSeq s10 r11;let r9:TS:=tSeq s9 r10;let r8:TS:=tSeq s8 r9;let r7:TS:=tSeq s7 r8;let r6:TS:=tSeq s6 r7;let r5:TS:=tSeq s5 r6;let r4:TS:=tSeq s4 r5;let r3:TS:=tSeq s3 r4;let r2:TS:=tSeq s2 r3;tSeq s1 r2 D σ H):(tSeq s1 (tSeq s2 (tSeq s3 (tSeq s4 (tSeq s5 (tSeq s6 (tSeq s7 (tSeq s8 (tSeq s9 (tSeq s10 (tSeq s11 (s12)))))))))))) D σ H:=h
theorem Qoe{s8 s9 s13 s14:TS}(h:let r14:TS:=s14;let r13:TS:=tSeq s13 r14;let r12:TS:=tSeq s12 r13;let r11:TS:=tSeq s11 r12;let r10:TS:=tSeq s10 r11;let r9:TS:=tSeq s9 r10;let r8:TS:=tSeq s8 r9;let r7:TS:=tSeq s7 r8;let r6:TS:=tSeq s6 r7;let r5:TS:=tSeq s5 r6;let r4:TS:=tSeq s4 r5;let r3:TS:=tSeq s3 r4;let r2:TS:=tSeq s2 r3;tSeq s1 r2 D σ H):(tSeq s1 (tSeq s2 (tSeq s3 (tSeq s4 (tSeq s5 (tSeq s6 (tSeq s7 (tSeq s8 (tSeq s9 (tSeq s10 (tSeq s11 (tSeq s12 (tSeq s13 (s14)))))))))))))) D σ H:=h
end L2
namespace L2
open PySem PySem.Spec PyProof.Rows PySem.W
end L2
namespace Nb
open PySem L2
def top(i:Nat):Stmt:=PySem.Challenge.pw_nonebetter_k95_whole_pictures_seen.main.body.getD i (.Pass ⟨0,0,0,0⟩)
abbrev Qjs:Stmt:=top 31
abbrev Qjt:Stmt:=top 32
abbrev Qju:Stmt:=top 30
def NmOk(x:Str):Prop:=1<=x.length/\x.length<=12/\∀c∈x.cps.toList,97<=c/\c<=122
inductive BR where
 |days (n:Int)
 |bench (b:Str) (r:Int)
 |shut (b:Str) (f t:Int)
 |store (s:Str) (m f:Int)
 |work (w:Str)
 |way (w v:Str) (l c:Int)
 |use (k:Fin 3) (w v t:Str) (m:Int)
 |after (w x:Str) (g:Int)
 |late (w:Str) (d c:Int)
def useW:Fin 3->Str
 |0=>"uses"
 |1=>"takes"
 |2=>"gives"
def BR.word:BR->Str
 |.days _=>"days"
 |.bench _ _=>"bench"
 |.shut _ _ _=>"shut"
 |.store _ _ _=>"store"
 |.work _=>"work"
 |.way _ _ _ _=>"way"
 |.use k _ _ _ _=>useW k
 |.after _ _ _=>"after"
 |.late _ _ _=>"late"
def BR.names:BR->List Str
 |.days _=>[]
 |.bench b _=>[b]
 |.shut b _ _=>[b]
 |.store s _ _=>[s]
 |.work w=>[w]
 |.way w v _ _=>[w,v]
 |.use _ w v t _=>[w,v,t]
 |.after w x _=>[w,x]
 |.late w _ _=>[w]
def BR.nums:BR->List Int
 |.days n=>[n]
 |.bench _ r=>[r]
 |.shut _ f t=>[f,t]
 |.store _ m f=>[m,f]
 |.work _=>[]
 |.way _ _ l c=>[l,c]
 |.use _ _ _ _ m=>[m]
 |.after _ _ g=>[g]
 |.late _ d c=>[d,c]
def BR.key(r:BR):List Key:=inr r.word::r.names.map inr
def BR.cells(r:BR):List Key:=r.key++r.nums.map Sum.inl
def BR.own:BR->List Str
 |.work w=>[w]
 |.way w _ _ _=>[w]
 |.use _ w _ _ _=>[w]
 |.after w x _=>[w,x]
 |.late w _ _=>[w]
 |_=>[]
def BR.ok(n:Int):BR->Prop
 |.days m=>m=n
 |.bench _ r=>0<=r/\r<=99
 |.shut _ f t=>0<=f/\f<t/\t<=n
 |.store _ m f=>0<=f/\f<=m/\m<=999
 |.work _=>True
 |.way _ _ l c=>1<=l/\l<=n/\0<=c/\c<=999999
 |.use _ _ _ _ m=>1<=m/\m<=99
 |.after w x g=>w≠x/\0<=g/\g<=n
 |.late _ d c=>0<=d/\d<=n/\1<=c/\c<=999
def BR.gn(r:BR):Prop:=∀x∈r.names,NmOk x
def BR.needs:BR->List (List Key)
 |.days _=>[]
 |.bench _ _=>[[inr "days"]]
 |.shut b _ _=>[[inr "bench",inr b]]
 |.store _ _ _=>[[inr "days"]]
 |.work _=>[[inr "days"]]
 |.way w _ _ _=>[[inr "work",inr w]]
 |.use 0 w v t _=>[[inr "way",inr w,inr v],[inr "bench",inr t]]
 |.use _ w v t _=>[[inr "way",inr w,inr v],[inr "store",inr t]]
 |.after w x _=>[[inr "work",inr w],[inr "work",inr x]]
 |.late w _ _=>[[inr "work",inr w]]
def Said(S:List BR)(k:List Key):Prop:=∃q∈S,q.key=k
theorem Said.mono{S S':List BR}{k:List Key}(h:Said S k)(f:∀q∈S,q∈S'):Said S' k:=by
 obtain⟨q,a,e⟩:=h
 exact⟨q,f q a,e⟩
def Ahead:List BR->List BR->Prop
 |_,[]=>True
 |S,r::T=>(∀k∈r.needs,Said S k)/\Ahead (S++[r]) T
theorem Ahead.mono:∀{T S S':List BR},Ahead S T->(∀q∈S,q∈S')->Ahead S' T
 |[],_,_,_,_=>True.intro
 |r::T,S,S',h,f=>⟨fun k a=>(h.1 k a).mono f,Ahead.mono h.2 fun q b=>by
  rcases kJ.mp b with z | z
  .exact zZ _ (f q z)
  .exact yX _ z⟩
theorem Ahead.app:∀{T U S:List BR},Ahead S T->Ahead (S++T) U->Ahead S (T++U)
 |[],U,S,_,h=>by rw[xX]at h;exact h
 |r::T,U,S,h,h2=>⟨h.1,Ahead.app h.2 (by rw[zJ];exact h2)⟩
theorem Ahead.fst:∀{T U S:List BR},Ahead S (T++U)->Ahead S T
 |[],_,_,_=>True.intro
 |_::_,_,_,h=>⟨h.1,Ahead.fst h.2⟩
theorem Ahead.snd:∀{T U S:List BR},Ahead S (T++U)->Ahead (S++T) U
 |[],U,S,h=>by rw[xX];exact h
 |r::T,U,S,h=>by
  have a:=Ahead.snd h.2
  rw[zJ]at a
  exact a
theorem Ahead.one{S:List BR}{r:BR}(h:∀k∈r.needs,Said S k):Ahead S [r]:=⟨h,True.intro⟩
theorem Ahead.ins{A C:List BR}{r:BR}(h:Ahead [] (A++C))(b:∀k∈r.needs,Said A k):Ahead [] (A++[r]++C) :=
 (h.fst.app (Ahead.one (by rw[kKf];exact b))).app (h.snd.mono fun q a=>by rw[kKf]at a⊢;exact zZ _ a)
def Apart(r q:BR):Prop:=r.word="shut"\/q.word="shut"\/r.key≠q.key
theorem Apart.symm{r q:BR}(h:Apart r q):Apart q r:=by
 rcases h with h | h | h
 .exact .inr (.inl h)
 .exact .inl h
 .exact .inr (.inr h.symm)
theorem Qcp{r q:BR}(h:r.word≠q.word):Apart r q:=.inr (.inr fun z=>h (by injection z with a;injection a))
structure WB(n:Int)(B:List BR):Prop where
 ok:∀r∈B,r.ok n
 nd:B.Pairwise Apart
 ref:∀r∈B,∀w∈r.own,BR.work w∈B
 len:B.length<=400
 few:∃nm:List Str,nm.length<=5/\∀r∈B,∀w∈r.own,w∈nm
theorem WB.perm{B C:List BR}(h:WB n B)(p:B.Perm C):WB n C :=
 ⟨fun r a=>h.ok r (p.mem_iff.mpr a),(p.pairwise_iff Apart.symm).mp h.nd,fun r a w b=>p.mem_iff.mp (h.ref r (p.mem_iff.mpr a) w b),by rw[<-p.length_eq];exact h.len,h.few.elim fun c q=>⟨c,q.1,fun r a w b=>q.2 r (p.mem_iff.mpr a) w b⟩⟩
def BR.kind:BR->Nat
 |.days _=>0
 |.bench _ _=>1
 |.shut _ _ _=>2
 |.store _ _ _=>3
 |.work _=>4
 |.way _ _ _ _=>5
 |.use k _ _ _ _=>6+k.val
 |.after _ _ _=>9
 |.late _ _ _=>10
def wordOf:Nat->Str
 |0=>"days"
 |1=>"bench"
 |2=>"shut"
 |3=>"store"
 |4=>"work"
 |5=>"way"
 |6=>"uses"
 |7=>"takes"
 |8=>"gives"
 |9=>"after"
 |_=>"late"
theorem Wd(r:BR):r.word=wordOf r.kind:=by
 cases r with
 |use k _ _ _ _=>match k with | 0=>rfl | 1=>rfl | 2=>rfl
 |_=>rfl
theorem Qbc(r:BR):r.kind<11:=by
 cases r with
 |use k _ _ _ _=>show 6+k.val<11;lia
 |days n=>show(0:Nat)<11;decide
 |bench b r=>show(1:Nat)<11;decide
 |shut b f t=>show(2:Nat)<11;decide
 |store b m f=>show(3:Nat)<11;decide
 |work w=>show(4:Nat)<11;decide
 |way w v l c=>show(5:Nat)<11;decide
 |after w x g=>show(9:Nat)<11;decide
 |late w d c=>show(10:Nat)<11;decide
theorem We:∀i,i<11->∀j,j<11->wordOf i=wordOf j->i=j:=Dk
theorem Xq(r:BR){k:Nat}(a:k<11):r.word=wordOf k↔r.kind=k:=⟨fun h=>We _ (Qbc r) _ a (by rw[<-Wd];exact h),fun h=>by rw[Wd,h]⟩
theorem Zk{r q:BR}(h:r.kind≠q.kind):Apart r q:=Qcp fun z=>h (We _ (Qbc r) _ (Qbc q) (by rw[<-Wd,<-Wd];exact z))
theorem Qsi{r:BR}(h:r.kind=5):∃w v l c,r=.way w v l c:=by
 cases r with
 |way w v l c=>exact⟨w,v,l,c,rfl⟩
 |use k _ _ _ _=>exact Y21 (show 6+k.val=5 from h) Om
 |_=>exact nomatch h
theorem Qof{r:BR}(h:r.kind=4):∃w,r=.work w:=by
 cases r with
 |work w=>exact⟨w,rfl⟩
 |use k _ _ _ _=>exact Y21 (show 6+k.val=4 from h) Om
 |_=>exact nomatch h
theorem Qlk{r:BR}(h:r.kind=9):∃w x g,r=.after w x g:=by
 cases r with
 |after w x g=>exact⟨w,x,g,rfl⟩
 |use k _ _ _ _=>exact Y21 (show 6+k.val=9 from h) Om
 |_=>exact nomatch h
theorem Qec{r:BR}(h:r.word="way"):∃w v l c,r=.way w v l c:=Qsi ((Xq r (k:=5) Dc).mp h)
theorem Vq{r:BR}(h:r.word="work"):∃w,r=.work w:=Qof ((Xq r (k:=4) Dc).mp h)
theorem Qll{r:BR}(h:r.word="after"):∃w x g,r=.after w x g:=Qlk ((Xq r (k:=9) Dc).mp h)
def fl(x:Str):Nat:=x.cps.getD 0 0
def RowsB(H:Hp)(vs:List V)(B:List BR):Prop:=Qhu H vs (B.map BR.cells)
theorem Yp(r:BR):atI (r.cells.map kV) 0=some (.str r.word):=by cases r<;>rfl
theorem RowsB.get{B:List BR}(h:RowsB H vs B){v:V}(e:vs[i]?=some v):∃r l,B[i]?=some r/\v=.ref l/\H l=some (.lst (r.cells.map kV)):=by
 obtain⟨g,a,l,f,b⟩:=Qv h e
 rw[yW]at a
 obtain⟨r,c,d⟩:=jKf.mp a
 exact⟨r,l,c,f,by rw[d];exact b⟩
theorem RowsB.imp{B:List BR}(h:RowsB H vs B)(f:∀l (r:BR),V.ref l∈vs->H l=some (.lst (r.cells.map kV))->H' l=some (.lst (r.cells.map kV))):RowsB H' vs B:=by
 unfold RowsB at h⊢
 induction B generalizing vs with
 |nil=>cases h;exact .nil
 |cons r B ih=>
  cases h with
  |cons z t=>
   obtain⟨l,e,b⟩:=z
   exact .cons ⟨l,e,f l r (by rw[e];exact jY) b⟩ (ih t fun l r a=>f l r (kQ _ a))
theorem RowsB.same{B:List BR}(h:RowsB H vs B)(s:Same H H'):RowsB H' vs B:=h.imp fun _ _ _ z=>s _ _ z
theorem RowsB.length{B:List BR}(h:RowsB H vs B):vs.length=B.length:=by
 have:=Paired.length h
 rwa [jX]at this
theorem RowsB.snoc{B:List BR}{r:BR}(h:RowsB H vs B)(z:H l=some (.lst (r.cells.map kV))):RowsB H (vs++[.ref l]) (B++[r]):=by
 unfold RowsB at h⊢
 rw[zQ]
 exact Paired.snoc h ⟨l,rfl,z⟩
theorem Qcq{α β:Type}{R:α->β->Prop}{xs xs':List α}{ys ys':List β}(b:Paired R xs ys)(a:Paired R xs' ys'):Paired R (xs++xs') (ys++ys'):=by
 induction b with
 |nil=>exact a
 |cons z _ ih=>exact .cons z ih
theorem RowsB.app{vs':List V}{B B':List BR}(h:RowsB H vs B)(h':RowsB H vs' B'):RowsB H (vs++vs') (B++B'):=by
 unfold RowsB at h h'⊢
 rw[zQ]
 exact Qcq h h'
theorem Qbd{α β:Type}{R:α->β->Prop}:∀{xs:List α} {ys:List β} (n:Nat),Paired R xs ys->Paired R (xs.take n) (ys.take n)
 |_,_,0,_=>.nil
 |_,_,_+1,.nil=>.nil
 |_,_,n+1,.cons z t=>.cons z (Qbd n t)
theorem Qbe{α β:Type}{R:α->β->Prop}:∀{xs:List α} {ys:List β} (n:Nat),Paired R xs ys->Paired R (xs.drop n) (ys.drop n)
 |_,_,0,h=>h
 |_,_,_+1,.nil=>.nil
 |_,_,n+1,.cons _ t=>Qbe n t
theorem RowsB.take{B:List BR}(n:Nat)(h:RowsB H vs B):RowsB H (vs.take n) (B.take n):=by
 unfold RowsB at h⊢
 rw[kQc]
 exact Qbd n h
theorem RowsB.drop{H:Hp}{vs:List V}{B:List BR}(n:Nat)(h:RowsB H vs B):RowsB H (vs.drop n) (B.drop n):=by
 unfold RowsB at h⊢
 rw[List.map_drop]
 exact Qbe n h
def Qwk(ys:List V):Prop:=∀s r,ys≠V.str s::r
theorem RowsB.noRow{B:List BR}(h:RowsB H vs B):Qwk vs:=fun s r e=>by
 subst e
 obtain⟨_,_,_,e,_⟩:=h.get (i:=0) (v:=.str s) rfl
 cases e
theorem Qed(h:Qwk ys)(r:BR):r.cells.map kV≠ys:=fun e=>h r.word (r.cells.map kV).tail (by rw[<-e];cases r<;>rfl)
theorem RowsB.updL{B:List BR}{g:Addr}(h:RowsB H vs B)(a:H g=some (.lst ys))(n:Qwk ys):RowsB (upd H g (.lst zs)) vs B:=h.imp fun l r _ z=>by
 rw[Qj (Yl z a fun e=>Qed n r (HO.lst.inj e))]
 exact z
section
variable{w:World}
theorem Sc{a b:List Str}{c:Scope}(h:FnScope a b c:=by exact ⟨rfl,rfl,rfl,Dk,rfl,Dk,Dk⟩):FnScope a b c:=h
theorem scBlock:FnScope ["_law_script","_law_k","_law_cell","_law_j"] ["_law_script","_law_k"] (Qh Qjs):=Sc
theorem Qwl(F:Fn K mg "_law_block" Qjs)(M:Mg mg):Cal P w K mg base 1 "_law_block" ["_law_script","_law_k"] (Qno K):=by
 refine Xt F scBlock (fun _ _ _ _ _ _=>Jt (fun _ _=>rfl)) (fun o H Q E h=>?_) (fun f x A e s H o Q E B h=>?_)
 .obtain⟨a,y,k,rfl,_⟩:=h
  rfl
 obtain⟨a,y,k,rfl,l,C,q⟩:=h
 refine⟨_,(Qg (Z4 2 scBlock.nd Qe)
  (Qg (Xy (Qm Qfe (Ql Xc Qe (Ql Xf (Ql Xu (pv 1) Qe) Qe)) (Qt Qu rfl M.len Ys (Qa (pv 0) Qf)) (Qs _)) (Qi (Z4 2 scBlock.nd (Ql Qjh (Qr Qn (pv 0) (Ql Xc Qe (Ql Xf (Ql Xu (pv 1) Qe) Qe))) (Ql Qmn Qe Qe)))) Xa)
  (Qg (Ye Y33 rfl (Xo rfl M.range_ (Qa (Ql Xf (pv 1) Qe) Qf)) (Z3 3 scBlock.nd) (Qi (Z4 2 scBlock.nd (Ql Qjh (pv 2) Qe))))
  (Qi (Xb (pv 2)))))),?_⟩
 refine Ju ?_
 intro t m u
 refine⟨_,rfl,_,_,rfl,rfl,⟨Dc,Dc⟩,_,_,rfl,rfl,Z0,_,_,rfl,rfl,_,rfl,_,_,rfl,.inl l,_,_,rfl,rfl,_,rfl,?_⟩
 refine ite2 (fun c=>?_) (fun c=>?_)
 .obtain⟨v,r⟩:=atNs (k:=1+k / 8 % 62) Om (kK c)
  refine⟨_,rfl,_,rfl,_,_,rfl,rfl,⟨Dc,Dc⟩,_,_,rfl,rfl,Z0,_,_,rfl,rfl,_,_,_,_,rfl,rfl,l,r,_,_,rfl,rfl,⟨Dc,Dc,Dc⟩,_,_,rfl,rfl,⟨Dk,Dk⟩,?_⟩
  let g:Nat->St->Hp->Prop:=fun i d b=>b=H/\∃(z:Int) (v:Option V),d=[some (.ref a),some (.int k),some (.int z),v]
  refine⟨_,rfl,_,_,rfl,rfl,Z0,k % 8,rfl,Om,Om,Yh (lo:=0) (n:=(k % 8).toNat) g ⟨rfl,_,_,rfl⟩ ?_ ?_⟩
  .rintro i d b p ⟨rfl,z,v,rfl⟩
   exact⟨_,rfl,_,_,rfl,rfl,⟨Dk,Dk⟩,rfl,_,_,rfl⟩
  .rintro d b ⟨rfl,z,v,rfl⟩
   exact⟨_,rfl,q z⟩
 .let j:Nat->St->Hp->Prop:=fun i d b=>b=H/\∃(z:Int) (v:Option V),d=[some (.ref a),some (.int k),some (.int z),v]
  refine⟨_,rfl,_,_,rfl,rfl,Z0,k % 8,rfl,Om,Om,Yh (lo:=0) (n:=(k % 8).toNat) j ⟨rfl,_,_,rfl⟩ ?_ ?_⟩
  .rintro i d b p ⟨rfl,z,v,rfl⟩
   exact⟨_,rfl,_,_,rfl,rfl,⟨Dk,Dk⟩,rfl,_,_,rfl⟩
  .rintro d b ⟨rfl,z,v,rfl⟩
   exact⟨_,rfl,q z⟩
theorem scMixed:FnScope ["_law_script","_law_k","_law_cell","_law_number"] ["_law_script","_law_k"] (Qh Qjt):=Sc
theorem Qwm(F:Fn K mg "_law_mixed" Qjt)(M:Mg mg)(b:Cal P w K mg base 1 "_law_block" ["_law_script","_law_k"] (Qno K)):Cal P w K mg base 2 "_law_mixed" ["_law_script","_law_k"] (Kw K):=by
 refine Xt F scMixed (fun _ _ _ _ _ _=>Jt (fun _ _=>rfl)) (fun t H Q E h=>?_) (fun f B A m s H t Q E n h=>?_)
 .obtain⟨a,ns,k,rfl,_⟩:=h
  rfl
 obtain⟨a,ns,k,rfl,d,e,i,q⟩:=h
 refine⟨_,(Qg (Z4 2 scMixed.nd Qe)
  (Qg (Xy (Qm Qdm (Qt Qu rfl M.len Ys (Qa (pv 0) Qf)) Qe (Qs _)) (Qi (Z4 2 scMixed.nd (Qr Qn (pv 0) Qe))) Xa)
  (Qg (Xy (PW.pt (Zq (Qm Yq (Ql Xf (Ql Xu (pv 2) (Ql Qmn Qe Qe)) Qe) Qe (Qs _)) (Zb (Qm Qdl (Xj b (n.mono Dc) (Qa (pv 0) (Qa (pv 1) Qf))) Qe (Qs _))))) (Qi (Xb (Ql Xf (Xj b (n.mono Dc) (Qa (pv 0) (Qa (pv 1) Qf))) Qe))) Xa)
  (Qg (Xy (Qm Qdm (Qt Qu rfl M.len Ys (Qa (pv 0) Qf)) Qe (Qs _)) (Qi (Z4 2 scMixed.nd (Qr Qn (pv 0) (Ql Xf (pv 1) (Qt (Qaf rfl) rfl M.min Qnj (Qa Qe (Qa (Qt Qu rfl M.len Ys (Qa (pv 0) Qf)) Qf))))))) Xa)
  (Qg (Z4 3 scMixed.nd (Ql Xc (Ql Xf (pv 2) (Ql Qmn Qe Qe)) (Ql Jg Qe (Ql Xc (pv 1) Qe))))
  (Qg (Z4 3 scMixed.nd (Ql Xc (Ql Xf (Ql Jg (pv 3) (pv 3)) Qe) (Ql Jg Qe (pv 1))))
  (Qi (Xb (Ql Xf (Ql Jg (pv 3) (pv 3)) Qe))))))))),?_⟩
 refine Qsh ?_
 intro J y r C o p
 refine⟨_,rfl,_,_,rfl,.inl d,_,_,rfl,rfl,_,rfl,?_⟩
 have fin:∀x:Int,Q (.int (x % 2147483587)) H:=fun x=>q _ (jQe _ Dc) (Int.lt_trans (wZ _ Dc) Dc)
 refine ite2 (fun c=>?_) (fun c=>?_)
 .obtain⟨v,u⟩:=atNs (k:=0) (kZd 0) (kK c)
  refine⟨_,rfl,_,_,_,_,rfl,rfl,d,u,?_⟩
  refine⟨_,rfl,_,_,rfl,rfl,⟨Dc,Dc,Dc⟩,_,_,rfl,rfl,⟨Dk,Dk⟩,_,_,rfl,rfl,Z0,rfl,_,rfl,?_⟩
  refine ite2 (fun G=>⟨_,rfl,_,rfl,a,ns,k,rfl,d,e,fun z=>⟨rfl,_,rfl,ite2 (fun D=>⟨_,rfl,_,rfl,a,ns,k,rfl,d,e,fun z=>⟨_,_,rfl,rfl,Z0,fin _⟩⟩) (fun D=>?_)⟩⟩) (fun G=>iteF ?_)
  all_goals
   refine⟨_,rfl,_,_,rfl,.inl d,_,_,rfl,rfl,_,rfl,?_⟩
   refine ite2 (fun g=>?_) (fun g=>Y21 c g)
   have L:(0:Int)<(((ns.map V.int).length:Nat):Int):=kK c
   have j:(0:Int)<(if (((ns.map V.int).length:Nat):Int)<63 then(((ns.map V.int).length:Nat):Int)else 63):=by split<;>lia
   have I:(if (((ns.map V.int).length:Nat):Int)<63 then(((ns.map V.int).length:Nat):Int)else 63)<=(((ns.map V.int).length:Nat):Int):=by split<;>lia
   obtain⟨N,l⟩:=atNs (ns:=ns) (k:=k % (if (((ns.map V.int).length:Nat):Int)<63 then(((ns.map V.int).length:Nat):Int)else 63)) (jQe _ (kKd j)) (Int.lt_of_lt_of_le (wZ _ j) I)
   refine⟨_,rfl,_,rfl,_,rfl,_,_,rfl,.inl d,_,_,rfl,_,_,rfl,rfl,j,_,_,_,_,rfl,rfl,d,l,?_⟩
   refine⟨_,rfl,_,_,rfl,rfl,⟨Dc,Dc,Dc⟩,_,_,rfl,rfl,Z0,_,rfl,_,_,rfl,rfl,_,_,rfl,rfl,mulC _ _ Dc Dc,_,_,rfl,rfl,?_⟩
   refine⟨_,rfl,_,rfl,_,_,rfl,rfl,mulA _ k e i _,_,_,rfl,rfl,Z0,_,rfl,_,_,rfl,rfl,mulC _ _ Dc Dc,_,_,rfl,rfl,?_⟩
   exact⟨_,rfl,_,rfl,_,_,rfl,rfl,mulB _ k e i _,_,_,rfl,rfl,Z0,fin _⟩
 .refine⟨_,rfl,_,_,rfl,rfl,⟨Dc,Dc,Dc⟩,_,_,rfl,rfl,⟨Dk,Dk⟩,_,_,rfl,rfl,Z0,rfl,_,rfl,?_⟩
  refine iteF (iteF ?_)
  refine⟨_,rfl,_,_,rfl,.inl d,_,_,rfl,rfl,_,rfl,?_⟩
  refine ite2 (fun g=>Y21 g c) (fun g=>?_)
  refine⟨_,rfl,_,_,rfl,rfl,⟨Dc,Dc,Dc⟩,_,_,rfl,rfl,Z0,_,rfl,_,_,rfl,rfl,_,_,rfl,rfl,mulC _ _ Dc Dc,_,_,rfl,rfl,?_⟩
  refine⟨_,rfl,_,rfl,_,_,rfl,rfl,mulA _ k e i _,_,_,rfl,rfl,Z0,_,rfl,_,_,rfl,rfl,mulC _ _ Dc Dc,_,_,rfl,rfl,?_⟩
  exact⟨_,rfl,_,rfl,_,_,rfl,rfl,mulB _ k e i _,_,_,rfl,rfl,Z0,fin _⟩
theorem Qwn:FnScope ["_law_found"] ["_law_found"] (Qh Qju):=Sc
theorem Qwo(F:Fn K mg "_law_whole" Qju)(M:Mg mg):Cal P w K mg base 1 "_law_whole" ["_law_found"] (Qnn):=by
 refine Xt F Qwn (fun _ _ _ _ _ _=>bind1 (fun _=>rfl)) (fun b H Q E h=>?_) (fun f c A a s H b Q E d h=>?_)
 .obtain⟨z,rfl,_⟩:=h
  rfl
 obtain⟨z,rfl,q⟩:=h
 refine⟨_,(Qi (Xb (Wn (Qt Qjg rfl M.isinstance Xl (Qa (pv 0) (Qa (Qcc M.int_ Qnl) Qf))) (Wm (Qul (Qt Qjg rfl M.isinstance Xl (Qa (pv 0) (Qa (Qcc M.bool_ Qnm) Qf)))))))),?_⟩
 refine⟨_,rfl,_,"int",true,rfl,.inl ⟨rfl,rfl⟩,true,rfl,?_⟩
 refine iteT ⟨_,rfl,_,"bool",false,rfl,.inr (.inl ⟨rfl,rfl⟩),false,rfl,q⟩
abbrev Qsj:Stmt:=top 33
theorem fl_app{y:Str}(h:1<=x.length):fl (x++y)=fl x:=by
 show(x.cps++y.cps).getD 0 0=x.cps.getD 0 0
 have a:0<x.cps.size:=h
 rw[Array.getD_eq_getD_getElem?,Array.getD_eq_getD_getElem?,Array.getElem?_append_left a]
theorem len_app(x y:Str):(x++y).length=x.length+y.length:=by
 show(x.cps++y.cps).size=_
 rw[kJe]
 rfl
theorem atS(d:0<=z)(b:z<(x.length:Nat)):∃c,atI x.cps.toList z=some c:=by
 have e:z=((z.toNat:Nat):Int):=Om
 have a:z.toNat<x.cps.toList.length:=by
  have f:x.length=x.cps.toList.length:=by show x.cps.size=_;exact jQf.symm
  lia
 exact⟨_,by rw[e];exact Qak (gE a)⟩
theorem Qwp{f:Int}(a:0<=f)(b:f<8):atI ("abcdefgh":Str).cps.toList f=some (97+f.toNat):=by
 rcases(show f=0\/f=1\/f=2\/f=3\/f=4\/f=5\/f=6\/f=7 by lia)with h | h | h | h | h | h | h | h<;>(subst h;decide +kernel)
theorem let26:∀c∈("abcdefghijklmnopqrstuvwxyz":Str).cps.toList,97<=c/\c<=122:=Dk
theorem Qwq{α:Type}{xs:List α}{i:Int}{v:α}(h:atI xs i=some v):v∈xs:=by
 obtain⟨j,_,a,_⟩:=Qdr h
 exact kW a
theorem Qwr(x y:Str):(x++y).cps.toList=x.cps.toList++y.cps.toList:=by
 show(x.cps++y.cps).toList=_
 rw[kXe]
theorem len26:("abcdefghijklmnopqrstuvwxyz":Str).length=26:=Dk
theorem len8:("abcdefgh":Str).length=8:=Dk
theorem pick5{a b d e:Int}:∃m:Int,atI [V.int a,V.int b,V.int c,V.int d,V.int e] (z % 5)=some (.int m)/\(m=a\/m=b\/m=c\/m=d\/m=e):=by
 rcases(show z % 5=0\/z % 5=1\/z % 5=2\/z % 5=3\/z % 5=4 by lia)with h | h | h | h | h<;>rw[h]
 .exact⟨a,rfl,.inl rfl⟩
 .exact⟨b,rfl,.inr (.inl rfl)⟩
 .exact⟨c,rfl,.inr (.inr (.inl rfl))⟩
 .exact⟨d,rfl,.inr (.inr (.inr (.inl rfl)))⟩
 .exact⟨e,rfl,.inr (.inr (.inr (.inr rfl)))⟩
def Qog(K:Fg):Sp:=fun vs H Q _=>∃(a:Addr) (ns:List Int) (k f:Int),vs=[.ref a,.int k,.int f]/\SqL K H a (ns.map V.int)/\0<=k/\k<=1000/\0<=f/\f<8/\∀(x:Str) (H':Hp),fl x=97+f.toNat->NmOk x->Same H H'->Q (.str x) H'
theorem scName:FnScope ["_law_script","_law_k","_law_first","_law_number","_law_found","_law_j"] ["_law_script","_law_k","_law_first"] (Qh Qsj):=Sc
theorem okName(F:Fn K mg "_law_name" Qsj)(M:Mg mg)(g:Cal P w K mg base 2 "_law_mixed" ["_law_script","_law_k"] (Kw K)):Cal P w K mg base 3 "_law_name" ["_law_script","_law_k","_law_first"] (Qog K):=by
 refine Xt F scName (fun _ _ _ _ _ _=>Ww (fun _ _ _=>rfl)) (fun U H Q E h=>?_) (fun f X A G s H U Q E I h=>?_)
 .obtain⟨a,D,k,f,rfl,_⟩:=h
  rfl
 obtain⟨a,D,k,f,rfl,J,R,h1,f0,T,q⟩:=h
 refine⟨_,(Qg (Z4 3 scName.nd (Xj g (I.mono Dc) (Qa (pv 0) (Qa (pv 1) Qf))))
  (Qg (Z4 4 scName.nd (Qr Qfl Qq (pv 2)))
  (Qg (Ye Y33 rfl (Xo rfl M.range_ (Qa (Qr Qn (Xd (Qa Qe (Qa Qe (Qa Qe (Qa Qe (Qa Qe Qf)))))) (Ql Xf (pv 3) Qe)) Qf)) (Z3 5 scName.nd) (Qg (Z4 3 scName.nd (Ql Xc (Ql Xc (Ql Xu (pv 3) Qe) (Ql Jg Qe (Xj g (I.mono Dc) (Qa (pv 0) (Qa (Ql Xc (pv 1) Qe) Qf))))) (pv 5)))
  (Qi (Z4 4 scName.nd (Ql Xm (pv 4) (Qr Qfl Qq (Ql Xf (pv 3) Qe)))))))
  (Qi (Xb (pv 4)))))),?_⟩
 refine Ju ?_
 intro Z O S
 have hz:=X0 20000
 refine⟨_,rfl,_,rfl,a,D,k,rfl,J,R,Om,fun z z0 z1=>?_⟩
 refine⟨_,rfl,_,_,_,rfl,rfl,by rw[len8];decide,Qwp f0 T,?_⟩
 refine⟨Z1 5,fun p hp=>?_⟩
 have W:=Qd hp (.lst [.int 0,.int 0,.int 1,.int 2,.int 11])
 obtain⟨m,em,hm⟩:=pick5 (a:=0) (b:=0) (c:=1) (d:=2) (e:=11) (z:=z)
 have m0:0<=m/\m<=11:=Om
 let B:Nat->St->Hp->Prop:=fun i u t=>∃(o:Int) (x:Str) (v:Option V),u=[some (.ref a),some (.int k),some (.int f),some (.int o),some (.str x),v]/\fl x=97+f.toNat/\x.length=1+i/\(∀c∈x.cps.toList,97<=c/\c<=122)/\Same H t
 refine⟨_,rfl,_,_,rfl,rfl,Z0,p,_,_,_,rfl,rfl,Qb Qc,em,m,rfl,Om,Om,Yh (lo:=0) (n:=m.toNat) B ⟨z,_,none,rfl,rfl,rfl,fun c hc=>by have e9:c=97+f.toNat:=jW.mp hc;lia,W⟩ ?_ ?_⟩
 .rintro i u t hi ⟨o,x,v,rfl,C,N,j,r⟩
  refine⟨_,rfl,_,_,rfl,rfl,⟨Dc,Dc⟩,_,rfl,_,rfl,_,_,rfl,rfl,a,D,_,rfl,r.seq J,Om,Om,fun y y0 y1=>?_⟩
  refine⟨_,_,rfl,rfl,mulC _ _ Dc Dc,_,_,rfl,rfl,_,rfl,_,_,rfl,rfl,?_⟩
  obtain⟨c,L⟩:=atS (x:="abcdefghijklmnopqrstuvwxyz") (z:=(o / 5+7*y+(0+(i:Int))) % 26) Om (by rw[len26];lia)
  refine⟨_,rfl,_,rfl,_,_,rfl,rfl,Z0,_,_,_,rfl,rfl,by rw[len26];decide,L,_,_,rfl,rfl,?_,_,_,_,rfl,?_,?_,fun Y l=>?_,r⟩
  .show x.length+1<=sizeLine
   lia
  .rw[fl_app Om];exact C
  .rw[len_app,N]
   show 1+i+1=1+(i+1)
   lia
  .rw[Qwr]at l
   rcases kJ.mp l with h9 | h9
   .exact j Y h9
   .rw[jW.mp h9];exact let26 c (Qwq L)
 .rintro u t ⟨o,x,v,rfl,C,N,j,r⟩
  exact⟨_,rfl,q x t C ⟨Om,Om,j⟩ r⟩
abbrev Qee:Stmt:=top 34
theorem pick4{a b d:Int}:∃m:Int,atI [V.int a,V.int b,V.int c,V.int d] (z % 4)=some (.int m)/\(m=a\/m=b\/m=c\/m=d):=by
 rcases(show z % 4=0\/z % 4=1\/z % 4=2\/z % 4=3 by lia)with h | h | h | h<;>rw[h]
 .exact⟨a,rfl,.inl rfl⟩
 .exact⟨b,rfl,.inr (.inl rfl)⟩
 .exact⟨c,rfl,.inr (.inr (.inl rfl))⟩
 .exact⟨d,rfl,.inr (.inr (.inr rfl))⟩
inductive Thing:BR->Prop
 |bench (b r:_):Thing (.bench b r)
 |shut (b f t:_):Thing (.shut b f t)
 |store (s m f:_):Thing (.store s m f)
structure ThOk(n:Int)(T:List BR):Prop where
 ok:∀r∈T,r.ok n
 th:∀r∈T,Thing r
 nd:T.Pairwise Apart
 gn:∀r∈T,r.gn
 ah:Ahead [.days n] T
theorem ThOk.snoc{T:List BR}{r:BR}(h:ThOk n T)(g:r.ok n)(d:Thing r)(j:∀q∈T,Apart q r)(l:r.gn)(e:∀k∈r.needs,Said ([.days n]++T) k):ThOk n (T++[r]):=by
 refine⟨fun q c=>?_,fun q c=>?_,?_,fun q c=>?_,h.ah.app (Ahead.one e)⟩
 .rcases kJ.mp c with z | z
  .exact h.ok q z
  .rw[jW.mp z];exact g
 .rcases kJ.mp c with z | z
  .exact h.th q z
  .rw[jW.mp z];exact d
 .refine jYf.mpr ⟨h.nd,jKd _ _,fun a i b f=>?_⟩
  rw[jW.mp f]
  exact j a i
 .rcases kJ.mp c with z | z
  .exact h.gn q z
  .rw[jW.mp z];exact l
theorem gn1(h:NmOk x):∀y∈[x],NmOk y:=fun y a=>by rw[jW.mp a];exact h
theorem Qcr{T:List BR}:∀k∈[[(inr ("days":Str):Key)]],Said ([BR.days n]++T) k:=fun k a=>by
 rw[jW.mp a]
 exact⟨.days n,jY,rfl⟩
theorem Qhy{m:Int}{b:Str}{T:List BR}(h:BR.bench b m∈T):∀k∈[[(inr ("bench":Str):Key),inr b]],Said ([BR.days n]++T) k:=fun k a=>by
 rw[jW.mp a]
 exact⟨.bench b m,yX _ h,rfl⟩
def flB:BR->Nat
 |.bench b _=>fl b
 |_=>0
def flS:BR->Nat
 |.store s _ _=>fl s
 |_=>0
theorem Qhz{q:BR}{b:Str}{r:Int}(g:Thing q)(h:flB q<fl b):Apart q (.bench b r):=by
 cases g with
 |bench b' r'=>
  refine .inr (.inr fun z=>?_)
  have a:fl b'<fl b:=h
  have d:[(inr ("bench":Str):Key),inr b']=[inr ("bench":Str),inr b]:=z
  injection d with _ i
  injection i with e
  injection e with c
  rw[c]at a
  exact Y21 a (jYd _)
 |shut b' f t=>exact .inl rfl
 |store s m f=>exact Zk (by show(3:Nat)≠1;decide)
theorem Qia{q:BR}{s:Str}{m f:Int}(g:Thing q)(h:flS q<fl s):Apart q (.store s m f):=by
 cases g with
 |bench b' r'=>exact Zk (by show(1:Nat)≠3;decide)
 |shut b' f t=>exact .inl rfl
 |store s' m' f'=>
  refine .inr (.inr fun z=>?_)
  have a:fl s'<fl s:=h
  have d:[(inr ("store":Str):Key),inr s']=[inr ("store":Str),inr s]:=z
  injection d with _ i
  injection i with e
  injection e with c
  rw[c]at a
  exact Y21 a (jYd _)
def Qjv(K:Fg):Sp:=fun vs H Q _=>∃(a:Addr) (ns:List Int) (n:Int),vs=[.ref a,.int n]/\SqL K H a (ns.map V.int)/\1<=n/\n<=12 /\
 ∀(g:Addr) (vs:List V) (B:List BR) (H':Hp),Same H H'->H g=none->H' g=some (.lst vs)->RowsB H' vs B->ThOk n B->B.length<=11->Q (.ref g) H'
theorem scThings:FnScope ["_law_script","_law_days","_law_found","_law_number","_law_k","_law_bench","_law_more","_law_j","_law_end","_law_most"] ["_law_script","_law_days"] (Qh Qee):=Sc
theorem Qsk(F:Fn K mg "_law_things" Qee)(M:Mg mg)(k:Cal P w K mg base 2 "_law_mixed" ["_law_script","_law_k"] (Kw K))(C:Cal P w K mg base 3 "_law_name" ["_law_script","_law_k","_law_first"] (Qog K)):Cal P w K mg base 4 "_law_things" ["_law_script","_law_days"] (Qjv K):=by
 refine Xt F scThings (fun _ _ _ _ _ _=>Jt (fun _ _=>rfl)) (fun v H Q E h=>?_) (fun f aM A ax s H v Q E u h=>?_)
 .obtain⟨a,ns,n,rfl,_⟩:=h
  rfl
 obtain⟨a,ns,n,rfl,hS,n1,aK,q⟩:=h
 refine⟨_,(Qg (Z4 2 scThings.nd (Xd Qf))
  (Qg (Z4 3 scThings.nd (Xj k (u.mono Dc) (Qa (pv 0) (Qa Qe Qf))))
  (Qg (Ye Y33 rfl (Xo rfl M.range_ (Qa (Ql Xf (pv 3) Qe) Qf)) (Z3 4 scThings.nd) (Qg (Z4 5 scThings.nd (Xj C (u.mono Dc) (Qa (pv 0) (Qa (Ql Xc Qe (Ql Jg Qe (pv 4))) (Qa (pv 4) Qf)))))
  (Qg (Yg (Zh Y1 Y2 Y3 Xh (pv 2) (Qa (Xd (Qa Qq (Qa (pv 5) (Qa (Qr Qn (Xd (Qa Qe (Qa Qe (Qa Qe (Qa Qe (Qa Qe Qf)))))) (Ql Xf (Xj k (u.mono Dc) (Qa (pv 0) (Qa (Ql Xc Qe (pv 4)) Qf))) Qe)) Qf)))) Qf)))
  (Qg (Z4 6 scThings.nd (Xj k (u.mono Dc) (Qa (pv 0) (Qa (Ql Xc Qe (pv 4)) Qf))))
  (Qi (Ye Y33 rfl (Xo rfl M.range_ (Qa (Ql Xf (pv 6) Qe) Qf)) (Z3 7 scThings.nd) (Qg (Z4 8 scThings.nd (Ql Xc Qe (Ql Xf (Ql Xu (pv 6) Qe) (pv 1))))
  (Qg (Yg (Zh Y1 Y2 Y3 Xh (pv 2) (Qa (Xd (Qa Qq (Qa (pv 5) (Qa (Ql Xf (Ql Xu (pv 6) Qe) (pv 8)) (Qa (pv 8) Qf))))) Qf)))
  (Qi (Z4 6 scThings.nd (Ql Xu (pv 6) Qe)))))))))))
  (Qg (Ye Y33 rfl (Xo rfl M.range_ (Qa (Ql Xf (Ql Xu (pv 3) Qe) Qe) Qf)) (Z3 4 scThings.nd) (Qg (Z4 9 scThings.nd (Qr Qn (Xd (Qa Qe (Qa Qe (Qa Qe (Qa Qe Qf))))) (Ql Xf (Xj k (u.mono Dc) (Qa (pv 0) (Qa (Ql Xc Qe (pv 4)) Qf))) Qe)))
  (Qi (Yg (Zh Y1 Y2 Y3 Xh (pv 2) (Qa (Xd (Qa Qq (Qa (Xj C (u.mono Dc) (Qa (pv 0) (Qa (Ql Xc Qe (Ql Jg Qe (pv 4))) (Qa (pv 4) Qf)))) (Qa (pv 9) (Qa (Ql Xf (Xj k (u.mono Dc) (Qa (pv 0) (Qa (Ql Xc Qe (pv 4)) Qf))) (Ql Xc (pv 9) Qe)) Qf))))) Qf))))))
  (Qi (Xb (pv 2))))))),?_⟩
 refine Qaa ?_
 intro aC aJ aG aH
 have hz:=X0 20000
 refine⟨Z1 0,fun g hg=>?_⟩
 have s0:=Qd hg (.lst [])
 have an:upd H g (.lst []) g=some (.lst []):=Qc
 generalize upd H g (.lst [])=H0 at s0 an⊢
 refine⟨_,rfl,a,ns,1,rfl,s0.seq hS,Dc,Dc,fun z z0 z1=>?_⟩
 let av:Nat->St->Hp->Prop:=fun i J H1=>∃(v4 v5 v6 G N L:Option V) (v:List V) (B:List BR),J=[some (.ref a),some (.int n),some (.ref g),some (.int z),v4,v5,v6,G,N,L]/\H1 g=some (.lst v)/\RowsB H1 v B/\ThOk n B/\(∀r∈B,flB r<97+i/\flS r=0)/\B.length<=3*i/\Same H H1
 refine⟨_,rfl,_,_,rfl,rfl,Z0,z % 4,rfl,Om,Om,Yh (lo:=0) (n:=(z % 4).toNat) av ⟨none,none,none,none,none,none,[],[],rfl,an,.nil,⟨fun _ h=>(nomatch h),fun _ h=>(nomatch h),.nil,fun _ h=>(nomatch h),True.intro⟩,fun _ h=>(nomatch h),xW _,s0⟩ ?_ ?_⟩
 .rintro i J H1 hi ⟨v4,v5,v6,G,N,L,v,B,rfl,X,hB,hT,W,hl,s1⟩
  have ap:i<4:=Om
  have lv:=hB.length
  refine⟨_,rfl,_,rfl,_,_,rfl,rfl,mulC _ _ Dc Dc,_,_,rfl,rfl,_,rfl,a,ns,_,_,rfl,s1.seq hS,Om,Om,Om,Om,fun b H2 hb ah Z=>?_⟩
  have ay:fl b=97+i:=by rw[hb];lia
  refine⟨_,rfl,.inl ⟨rfl,_,Qb (Z _ _ X)⟩,_,rfl,Z1 5,fun p hp=>?_⟩
  have s3:=Z.trans (Qd hp (.lst [.int 1,.int 2,.int 5,.int 99,.int 0]))
  refine⟨_,rfl,_,rfl,_,_,rfl,rfl,a,ns,_,rfl,(s1.trans s3).seq hS,Om,Om,fun y y0 y1=>?_⟩
  obtain⟨m,em,hm⟩:=pick5 (a:=1) (b:=2) (c:=5) (d:=99) (e:=0) (z:=y)
  refine⟨_,_,rfl,rfl,Z0,p,_,_,_,rfl,rfl,Qb Qc,em,Z1 3,fun l I=>?_⟩
  have s4:=s3.trans (Qd I (.lst [.str "bench",.str b,.int m]))
  have af:upd (upd H2 p (.lst [.int 1,.int 2,.int 5,.int 99,.int 0])) l (.lst [.str "bench",.str b,.int m]) l=some (.lst ((BR.bench b m).cells.map kV)):=Qc
  generalize upd (upd H2 p (.lst [.int 1,.int 2,.int 5,.int 99,.int 0])) l (.lst [.str "bench",.str b,.int m])=H4 at s4 af⊢
  have ag:=s4 _ _ X
  refine⟨g,_,_,rfl,rfl,ag,Om,?_⟩
  have ak:RowsB (upd H4 g (.lst (v++[.ref l]))) (v++[.ref l]) (B++[.bench b m]):=((hB.same s4).snoc af).updL ag hB.noRow
  have T:upd H4 g (.lst (v++[.ref l])) g=some (.lst (v++[.ref l])):=Qc
  have s5:Same H (upd H4 g (.lst (v++[.ref l]))):=fun c o e=>by rw[Qj (Qk e hg)];exact(s1.trans s4) _ _ e
  generalize upd H4 g (.lst (v++[.ref l]))=H5 at ak T s5⊢
  refine⟨_,rfl,_,rfl,_,_,rfl,rfl,a,ns,_,rfl,s5.seq hS,Om,Om,fun mo aE aF=>?_⟩
  have aq:ThOk n (B++[.bench b m]):=hT.snoc ⟨Om,Om⟩ (.bench _ _) (fun r u=>Qhz (hT.th r u) (by rw[ay];exact(W r u).1)) (gn1 ah) Qcr
  let ao:Nat->St->Hp->Prop:=fun j J H6=>∃(t:Int) (G N L:Option V) (v:List V) (B:List BR),J=[some (.ref a),some (.int n),some (.ref g),some (.int z),some (.int (0+(i:Int))),some (.str b),some (.int t),G,N,L]/\H6 g=some (.lst v)/\RowsB H6 v B/\ThOk n B/\(BR.bench b m∈B/\∀r∈B,flB r<97+(i+1)/\flS r=0)/\B.length<=3*i+1+j/\Same H H6
  refine⟨_,rfl,_,_,rfl,rfl,Z0,mo % 3,rfl,Om,Om,Yh (lo:=0) (n:=(mo % 3).toNat) ao ⟨mo,_,_,_,_,_,rfl,T,ak,aq,⟨yX _ jY,fun r u=>?_⟩,by rw[jJ];show B.length+1<=_;lia,s5⟩ ?_ ?_⟩
  .rcases kJ.mp u with h | h
   .have:=W r h;exact⟨Om,this.2⟩
   .rw[jW.mp h];exact⟨by show fl b<_;lia,rfl⟩
  .rintro j J H6 hj ⟨t,G,N,L,aj,B6,rfl,Y,S,ab,D,ar,s6⟩
   have aD:=S.length
   have e0:=jQe (t / 3) (show n≠0 by lia)
   have e1:=wZ (t / 3) (show 0<n by lia)
   generalize hE:t / 3 % n=E at e0 e1
   have f0:=jQe (t / 40) (show(1+E)≠0 by lia)
   have f1:=wZ (t / 40) (show 0<1+E by lia)
   refine⟨_,rfl,_,_,rfl,rfl,⟨Dc,Dc⟩,_,rfl,_,_,rfl,rfl,(by show 0<n;lia),_,_,rfl,rfl,?_⟩
   rw[hE]
   refine⟨_,rfl,.inl ⟨rfl,_,Qb Y⟩,_,rfl,_,rfl,_,_,rfl,rfl,⟨Dc,Dc⟩,_,rfl,_,_,rfl,rfl,(by show 0<1+E;lia),_,rfl,Z1 4,fun l I=>?_⟩
   have s7:=Qd I (.lst [.str "shut",.str b,.int (t / 40 % (1+E)),.int (1+E)])
   have am:upd H6 l (.lst [.str "shut",.str b,.int (t / 40 % (1+E)),.int (1+E)]) l=some (.lst ((BR.shut b (t / 40 % (1+E)) (1+E)).cells.map kV)):=Qc
   generalize upd H6 l (.lst [.str "shut",.str b,.int (t / 40 % (1+E)),.int (1+E)])=H7 at s7 am⊢
   have ac:=s7 _ _ Y
   refine⟨g,_,_,rfl,rfl,ac,Om,?_⟩
   refine⟨_,rfl,_,_,rfl,rfl,⟨Dc,Dc⟩,_,_,_,_,_,_,rfl,Qc,((S.same s7).snoc am).updL ac S.noRow,ab.snoc ⟨f0,f1,Om⟩ (.shut _ _ _) (fun r _=>.inr (.inl rfl)) (gn1 ah) (Qhy D.1),⟨zZ _ D.1,fun r u=>?_⟩,by rw[jJ];show B6.length+1<=_;lia,fun c o e=>by rw[Qj (Qk e hg)];exact(s6.trans s7) _ _ e⟩
   rcases kJ.mp u with h | h
   .exact D.2 r h
   .rw[jW.mp h];exact⟨by show 0<_;lia,rfl⟩
  .rintro J H6 ⟨t,G,N,L,aj,B6,rfl,Y,S,ab,D,ar,s6⟩
   exact⟨_,_,_,_,_,_,aj,B6,rfl,Y,S,ab,D.2,Om,s6⟩
 .rintro J H1 ⟨v4,v5,v6,G,N,L,v,B,rfl,X,hB,hT,W,hl,s1⟩
  let aw:Nat->St->Hp->Prop:=fun i J H1=>∃(v4 v5 v6 G N L:Option V) (v:List V) (B:List BR),J=[some (.ref a),some (.int n),some (.ref g),some (.int z),v4,v5,v6,G,N,L]/\H1 g=some (.lst v)/\RowsB H1 v B/\ThOk n B/\(∀r∈B,flS r<97+i)/\B.length<=9+i/\Same H H1
  refine⟨_,rfl,_,_,rfl,rfl,⟨Dc,Dc⟩,_,_,rfl,rfl,Z0,z / 4 % 3,rfl,Om,Om,Yh (lo:=0) (n:=(z / 4 % 3).toNat) aw ⟨_,_,_,_,_,_,v,B,rfl,X,hB,hT,fun r u=>by rw[(W r u).2];lia,Om,s1⟩ ?_ ?_⟩
  .rintro i J H2 hi ⟨v4,v5,v6,G,N,L,al,B2,rfl,aa,R,U,O,aB,Z⟩
   have ap:i<3:=Om
   have lv:=R.length
   refine⟨Z1 4,fun p hp=>?_⟩
   have s3:=Qd hp (.lst [.int 0,.int 3,.int 9,.int 999])
   have ai:upd H2 p (.lst [.int 0,.int 3,.int 9,.int 999]) p=some (.lst [.int 0,.int 3,.int 9,.int 999]):=Qc
   generalize upd H2 p (.lst [.int 0,.int 3,.int 9,.int 999])=H3 at s3 ai⊢
   refine⟨_,rfl,_,rfl,_,_,rfl,rfl,a,ns,_,rfl,(Z.trans s3).seq hS,Om,Om,fun y y0 y1=>?_⟩
   obtain⟨m,em,hm⟩:=pick4 (a:=0) (b:=3) (c:=9) (d:=999) (z:=y)
   have aA:0<=m/\m<=999:=Om
   refine⟨_,_,rfl,rfl,Z0,p,_,_,_,rfl,rfl,Qb ai,em,?_⟩
   refine⟨_,rfl,.inl ⟨rfl,_,Qb (s3 _ _ aa)⟩,_,rfl,_,rfl,_,_,rfl,rfl,mulC _ _ Dc Dc,_,_,rfl,rfl,_,rfl,a,ns,_,_,rfl,(Z.trans s3).seq hS,Om,Om,Om,Om,fun x H4 hx au s4=>?_⟩
   have az:fl x=97+i:=by rw[hx];lia
   have ae:=s3.trans s4
   refine⟨_,rfl,_,rfl,_,rfl,_,_,rfl,rfl,a,ns,_,rfl,(Z.trans ae).seq hS,Om,Om,fun y' aI aL=>?_⟩
   have f0:=jQe y' (show(m+1)≠0 by lia)
   have f1:=wZ y' (show 0<m+1 by lia)
   refine⟨_,rfl,_,_,rfl,rfl,_,_,rfl,rfl,(by show 0<m+1;lia),Z1 4,fun l I=>?_⟩
   have s5:=ae.trans (Qd I (.lst [.str "store",.str x,.int m,.int (y' % (m+1))]))
   have ad:upd H4 l (.lst [.str "store",.str x,.int m,.int (y' % (m+1))]) l=some (.lst ((BR.store x m (y' % (m+1))).cells.map kV)):=Qc
   generalize upd H4 l (.lst [.str "store",.str x,.int m,.int (y' % (m+1))])=H5 at s5 ad⊢
   have T:=s5 _ _ aa
   refine⟨g,_,_,rfl,rfl,T,Om,?_⟩
   refine⟨_,_,_,_,_,_,_,_,rfl,Qc,((R.same s5).snoc ad).updL T R.noRow,U.snoc ⟨f0,Om,aA.2⟩ (.store _ _ _) (fun r u=>Qia (U.th r u) (by rw[az];exact O r u)) (gn1 au) Qcr,fun r u=>?_,by rw[jJ];show B2.length+1<=_;lia,fun c o e=>by rw[Qj (Qk e hg)];exact(Z.trans s5) _ _ e⟩
   rcases kJ.mp u with h | h
   .have:=O r h;lia
   .rw[jW.mp h];show fl x<_;lia
  .rintro J H2 ⟨v4,v5,v6,G,N,L,al,B2,rfl,aa,R,U,O,aB,Z⟩
   exact⟨_,rfl,q g al B2 H2 Z hg aa R U Om⟩
abbrev sWay:Stmt:=top 35
theorem at_b1(b:Str)(r:Int):atI ((BR.bench b r).cells.map kV) 1=some (.str b):=rfl
theorem at_s1(b:Str)(m f:Int):atI ((BR.store b m f).cells.map kV) 1=some (.str b):=rfl
theorem Wx{r:BR}(h:r.word=x):atI (r.cells.map kV) 0=some (.str x):=by rw[<-h];exact Yp r
theorem bind6{F:List Value->Prop}(h:∀a b c d e f,F [a,b,c,d,e,f]):∀us:List Value,us.length=6->F us:=fun us g=>by
 cases us with
 |nil=>cases g
 |cons a us=>exact bind5 (F:=fun us=>F (a::us)) (h a) us (Nat.succ.inj g)
theorem neS{a b:Str}(h:a≠b):¬(decide (V.str a=V.str b)=true):=fun z=>by
 have:=kK z
 injection this with c
 exact h c
theorem eqS{a b:Str}(h:decide (V.str a=V.str b)=true):a=b:=by
 have:=kK h
 injection this
theorem yesS(a:Str):decide (V.str a=V.str a)=true:=yJ rfl
theorem w_bs:("bench":Str)≠"store":=Dk
theorem w_sb:("store":Str)≠"bench":=Dk
theorem w_hb:("shut":Str)≠"bench":=Dk
theorem w_hs:("shut":Str)≠"store":=Dk
theorem pick2{a b:Int}:∃m:Int,atI [V.int a,V.int b] (z % 2)=some (.int m)/\(m=a\/m=b):=by
 rcases(show z % 2=0\/z % 2=1 by lia)with h | h<;>rw[h]
 .exact⟨a,rfl,.inl rfl⟩
 .exact⟨b,rfl,.inr rfl⟩
theorem pick3{a b:Int}:∃m:Int,atI [V.int a,V.int b,V.int c] (z % 3)=some (.int m)/\(m=a\/m=b\/m=c):=by
 rcases(show z % 3=0\/z % 3=1\/z % 3=2 by lia)with h | h | h<;>rw[h]
 .exact⟨a,rfl,.inl rfl⟩
 .exact⟨b,rfl,.inr (.inl rfl)⟩
 .exact⟨c,rfl,.inr (.inr rfl)⟩
theorem pickTG(N:Int):∃kk:Fin 3,atI [V.str "takes",V.str "gives"] (N % 2)=some (.str (useW kk))/\kk≠0/\(N % 2=1->kk=2):=by
 rcases(show N % 2=0\/N % 2=1 by lia)with h | h<;>rw[h]
 .exact⟨1,rfl,Dc,fun z=>Y21 z Dc⟩
 .exact⟨2,rfl,Dc,fun _=>rfl⟩
def UseOf(T:List BR)(w v:Str)(i:Nat)(r:BR):Prop:=∃k t m,r=.use k w v t m/\1<=m/\m<=99/\((k=0/\∃j b,j<i/\T[j]?=some (.bench t b))\/(k≠0/\∃j b c,j<i/\T[j]?=some (.store t b c)))
theorem UseOf.mono{T:List BR}{w:Str}{r:BR}(h:UseOf T w v i r)(n:i<=j):UseOf T w v j r:=by
 obtain⟨k,t,m,e,g,l,h⟩:=h
 refine⟨k,t,m,e,g,l,?_⟩
 rcases h with⟨e,d,b,f,a⟩ | ⟨e,d,b,c,f,a⟩
 .exact .inl ⟨e,d,b,Om,a⟩
 .exact .inr ⟨e,d,b,c,Om,a⟩
theorem Qga{α:Type}{R:α->α->Prop}:∀{l:List α} {i j:Nat} {x y:α},l.Pairwise R->i<j->l[i]?=some x->l[j]?=some y->R x y
 |a::l,0,j+1,x,y,h,_,e1,e2=>by
  cases e1
  exact(jYe.mp h).1 y (kW (show l[j]?=some y from e2))
 |a::l,i+1,j+1,x,y,h,hij,e1,e2=>Qga (jYe.mp h).2 Om (show l[i]?=some x from e1) (show l[j]?=some y from e2)
 |[],_,_,_,_,_,_,e1,_=>nomatch e1
 |_::_,_,0,_,_,_,h,_,_=>Y21 h (kZf _)
theorem Qsl:∀k' k:Fin 3,useW k'=useW k->k'=k:=Dk
theorem Qbf{T:List BR}{w t:Str}{k:Fin 3}{m:Int}{r:BR}(o:T.Pairwise Apart)(h:UseOf T w v i r)(n:(k=0/\∃b,T[i]?=some (.bench t b))\/(k≠0/\∃b c,T[i]?=some (.store t b c))):Apart r (.use k w v t m):=by
 obtain⟨l,p,H,rfl,_,_,h⟩:=h
 refine .inr (.inr fun z=>?_)
 have D:[(inr (useW l):Key),inr w,inr v,inr p]=[inr (useW k),inr w,inr v,inr t]:=z
 injection D with s B
 injection B with _ u
 injection u with _ y
 injection y with F
 injection F with A
 injection s with x
 have C:l=k:=Qsl l k x
 subst C A
 rcases h with⟨e,j,b,a,f⟩ | ⟨e,j,b,c,a,f⟩
 .rcases n with⟨_,E,g⟩ | ⟨d,_⟩
  .rcases Qga o a f g with q | q | q
   .exact Y21 q (Sn "bench" "shut")
   .exact Y21 q (Sn "bench" "shut")
   .exact q rfl
  .exact d e
 .rcases n with⟨d,_⟩ | ⟨_,E,G,g⟩
  .exact e d
  .rcases Qga o a f g with q | q | q
   .exact Y21 q (Sn "store" "shut")
   .exact Y21 q (Sn "store" "shut")
   .exact q rfl
theorem way_apart{w w' t:Str}{l m:Int}{k:Fin 3}:Apart (.way w v l c) (.use k w' v' t m):=Zk (by show(5:Nat)≠6+k.val;lia)
structure WayBlk(n:Int)(T:List BR)(w v:Str)(R:List BR):Prop where
 hd:∃l c U,R=.way w v l c::U/\1<=l/\l<=n/\0<=c/\c<=999999/\∀r∈U,UseOf T w v T.length r
 nd:R.Pairwise Apart
 len:R.length<=1+2*T.length
def spWay(K:Fg):Sp:=fun vs H Q _=>∃(a d:Addr) (ns:List Int) (st n:Int) (w v:Str) (us:List V) (T:List BR),vs=[.ref a,.int st,.int n,.str w,.str v,.ref d]/\SqL K H a (ns.map V.int)/\0<=st/\st<=1000/\1<=n/\n<=12/\SqL K H d us/\RowsB H us T/\ThOk n T/\T.length<=11 /\
 ∀(g:Addr) (vs:List V) (R:List BR) (H':Hp),Same H H'->H g=none->H' g=some (.lst vs)->RowsB H' vs R->WayBlk n T w v R->Q (.ref g) H'
theorem scWay:FnScope ["_law_script","_law_start","_law_days","_law_work","_law_way_here","_law_things_here","_law_number","_law_length_here","_law_found","_law_thing","_law_many_here"] ["_law_script","_law_start","_law_days","_law_work","_law_way_here","_law_things_here"] (Qh sWay):=Sc
theorem okWay(F:Fn K mg "_law_way" sWay)(M:Mg mg)(J:Cal P w K mg base 2 "_law_mixed" ["_law_script","_law_k"] (Kw K)):Cal P w K mg base 3 "_law_way" ["_law_script","_law_start","_law_days","_law_work","_law_way_here","_law_things_here"] (spWay K):=by
 refine Xt F scWay (fun _ _ _ _ _ _=>bind6 (fun _ _ _ _ _ _=>rfl)) (fun vs H Q E h=>?_) (fun f aW A aH s H vs Q E D h=>?_)
 .obtain⟨a,d,ns,st,n,w,v,us,T,rfl,_⟩:=h
  rfl
 obtain⟨a,d,ns,st,n,w,v,us,T,rfl,hS,aD,aS,n1,aV,hd,hT,tT,tl,q⟩:=h
 refine⟨_,(Qg (Z4 6 scWay.nd (Xj J (D.mono Dc) (Qa (pv 0) (Qa (pv 1) Qf))))
  (Qg (Z4 7 scWay.nd (Ql Xc Qe (Ql Xf (pv 6) (Qt (Qaf rfl) rfl M.min Qnj (Qa (pv 2) (Qa (Qr Qn (Xd (Qa Qe (Qa Qe Qf))) (Ql Xf (Ql Xu (pv 6) Qe) Qe)) Qf))))))
  (Qg (Z4 8 scWay.nd (Xd (Qa (Xd (Qa Qq (Qa (pv 3) (Qa (pv 4) (Qa (pv 7) (Qa (Qr Qn (Xd (Qa (Ql Xf (Ql Xu (pv 6) Qe) Qe) (Qa (Ql Xf (Ql Xu (pv 6) Qe) Qe) Qf))) (Ql Xf (pv 6) Qe)) Qf)))))) Qf)))
  (Qg (Ye Y33 rfl (Qx (pv 5)) (Z3 9 scWay.nd) (Qg (Z4 6 scWay.nd (Ql Xc (Ql Qrz (Xj J (D.mono Dc) (Qa (pv 0) (Qa (Ql Xc (pv 1) Qe) Qf))) (Ql Xc Qe (Ql Jg Qe (Qt Qu rfl M.len Ys (Qa (pv 8) Qf))))) (Qt Qu rfl M.len Ys (Qa (pv 8) Qf))))
  (Qg (Z4 10 scWay.nd (Qr Qn (Xd (Qa Qe (Qa Qe (Qa Qe Qf)))) (Ql Xf (Ql Xu (pv 6) Qe) Qe)))
  (Qg (Xy (PW.pt (Zq (Qm Yq (Qr Qn (pv 9) Qe) Qq (Qs _)) (Zb (Qm Qdm (Ql Xf (pv 6) Qe) Qe (Qs _))))) (Qi (Yg (Zh Y1 Y2 Y3 Xh (pv 8) (Qa (Xd (Qa Qq (Qa (pv 3) (Qa (pv 4) (Qa (Qr Qn (pv 9) Qe) (Qa (pv 10) Qf)))))) Qf)))) Xa)
  (Qg (Xy (PW.pt (Zq (Qm Yq (Qr Qn (pv 9) Qe) Qq (Qs _)) (Zb (Qm Qdl (Ql Xf (pv 6) Qe) Qe (Qs _))))) (Qi (Yg (Zh Y1 Y2 Y3 Xh (pv 8) (Qa (Xd (Qa (Qr Qn (Xd (Qa Qq (Qa Qq Qf))) (Ql Xf (pv 6) Qe)) (Qa (pv 3) (Qa (pv 4) (Qa (Qr Qn (pv 9) Qe) (Qa (pv 10) Qf)))))) Qf)))) Xa)
  (Qi (Xy (PW.pt (Zq (Qm Yq (Qr Qn (pv 9) Qe) Qq (Qs _)) (Zb (Qm Yq (Ql Xf (pv 6) Qe) Qe (Qs _))))) (Qi (Yg (Zh Y1 Y2 Y3 Xh (pv 8) (Qa (Xd (Qa Qq (Qa (pv 3) (Qa (pv 4) (Qa (Qr Qn (pv 9) Qe) (Qa (Ql Xc Qe (Ql Xf (Ql Xu (pv 6) Qe) Qe)) Qf)))))) Qf)))) Xa)))))))
  (Qi (Xb (pv 8))))))),?_⟩
 refine Qaa ?_
 intro aO aU aR aT
 have hz:=X0 20000
 have lu:=hT.length
 refine⟨_,rfl,_,rfl,a,ns,st,rfl,hS,aD,Om,fun z z0 z1=>?_⟩
 refine⟨_,rfl,_,rfl,Z1 2,fun p hp=>?_⟩
 have s1:=Qd hp (.lst [.int 3,.int 12])
 have ar:upd H p (.lst [.int 3,.int 12]) p=some (.lst [.int 3,.int 12]):=Qc
 generalize upd H p (.lst [.int 3,.int 12])=H1 at s1 ar⊢
 obtain⟨m,em,hm⟩:=pick2 (a:=3) (b:=12) (z:=z / 12)
 refine⟨_,rfl,_,_,rfl,rfl,⟨Dc,Dc⟩,_,_,rfl,rfl,Z0,p,_,_,_,rfl,rfl,Qb ar,em,_,_,rfl,?_⟩
 obtain⟨mm,au⟩:∃mm:Int,(if m<n then m else n)=mm:=⟨_,rfl⟩
 have aP:1<=mm/\mm<=n:=by rw[<-au];split<;>lia
 rw[au]
 have l0:=jQe z (show mm≠0 by lia)
 have l1:=wZ z (show 0<mm by lia)
 refine⟨_,_,rfl,rfl,(by show 0<mm;lia),_,_,rfl,rfl,?_⟩
 dsimp only
 generalize hL:1+z % mm=L
 have av:1<=L/\L<=n:=Om
 refine⟨_,rfl,_,rfl,_,rfl,_,rfl,_,_,rfl,rfl,⟨Dc,Dc⟩,_,_,rfl,rfl,Z0,_,rfl,_,_,rfl,rfl,⟨Dc,Dc⟩,_,_,rfl,rfl,Z0,Z1 2,fun p2 aL=>?_⟩
 have s2:=s1.trans (Qd aL (.lst [.int (z / 24 % 10),.int (z / 24 % 1000000)]))
 have ak:upd H1 p2 (.lst [.int (z / 24 % 10),.int (z / 24 % 1000000)]) p2=some (.lst [.int (z / 24 % 10),.int (z / 24 % 1000000)]):=Qc
 generalize upd H1 p2 (.lst [.int (z / 24 % 10),.int (z / 24 % 1000000)])=H2 at s2 ak⊢
 obtain⟨c,ec,hc⟩:=pick2 (a:=z / 24 % 10) (b:=z / 24 % 1000000) (z:=z)
 have ap:0<=c/\c<=999999:=Om
 refine⟨_,rfl,_,_,rfl,rfl,Z0,p2,_,_,_,rfl,rfl,Qb ak,ec,Z1 5,fun l hl=>?_⟩
 have s3:=s2.trans (Qd hl (.lst [.str "way",.str w,.str v,.int L,.int c]))
 have ay:upd H2 l (.lst [.str "way",.str w,.str v,.int L,.int c]) l=some (.lst ((BR.way w v L c).cells.map kV)):=Qc
 generalize upd H2 l (.lst [.str "way",.str w,.str v,.int L,.int c])=H3 at s3 ay⊢
 refine⟨Z1 1,fun g hg=>?_⟩
 have gH:H g=none:=by
  cases e5:H g with
  |none=>rfl
  |some o=>rw[s3 _ _ e5]at hg;cases hg
 have s4:=s3.trans (Qd hg (.lst [.ref l]))
 have aw:upd H3 g (.lst [.ref l]) g=some (.lst [.ref l]):=Qc
 have aB:RowsB (upd H3 g (.lst [.ref l])) [.ref l] [.way w v L c]:=RowsB.snoc (vs:=[]) (B:=[]) .nil (Qd hg _ _ _ ay)
 generalize upd H3 g (.lst [.ref l])=H4 at s4 aw aB⊢
 let aK:Nat->St->Hp->Prop:=fun i σ H5=>∃(zz:Int) (v9 W:Option V) (vs:List V) (U:List BR),σ=[some (.ref a),some (.int st),some (.int n),some (.str w),some (.str v),some (.ref d),some (.int zz),some (.int L),some (.ref g),v9,W]/\H5 g=some (.lst vs)/\RowsB H5 vs (.way w v L c::U)/\(∀r∈U,UseOf T w v i r)/\U.Pairwise Apart/\U.length<=2*i/\Same H H5
 refine⟨_,rfl,d,rfl,⟨_,s4.seq hd⟩,Zc (K:=K) (a:=d) (xs:=us) aK ⟨z,none,none,_,[],rfl,aw,aB,fun _ h=>(nomatch h),.nil,xW _,s4⟩ (fun i σ H5 _ h=>?_) ?_ ?_⟩
 .obtain⟨zz,v9,W,vs,U,rfl,af,ah,hU,Y,aj,s5⟩:=h
  exact s5.seq hd
 .rintro i x σ H5 e1 ⟨zz,v9,W,vs,U,rfl,af,ah,hU,Y,aj,s5⟩
  obtain⟨r,G,er,rfl,aE⟩:=(hT.same s5).get e1
  have hi:i<T.length:=(kX.mp er).1
  have lv:=ah.length
  rw[yZ]at lv
  refine⟨_,rfl,_,rfl,_,_,rfl,rfl,a,ns,_,rfl,s5.seq hS,Om,Om,fun y y0 y1=>?_⟩
  refine⟨_,rfl,g,_,rfl,.inl (Qb af),_,_,rfl,rfl,mulC _ _ Dc Dc,_,_,rfl,rfl,_,_,rfl,rfl,?_,_,rfl,g,_,rfl,.inl (Qb af),_,_,rfl,rfl,?_⟩
  .exact⟨Om,zK (show(1+5*((vs.length:Nat):Int)).natAbs<=1000000 by lia) Dk⟩
  dsimp only
  generalize y.fdiv (1+5*((vs.length:Nat):Int))+((vs.length:Nat):Int)=N
  refine⟨Z1 3,fun p6 aI=>?_⟩
  have s6:=Qd aI (.lst [.int 1,.int 2,.int 99])
  have al:upd H5 p6 (.lst [.int 1,.int 2,.int 99]) p6=some (.lst [.int 1,.int 2,.int 99]):=Qc
  generalize upd H5 p6 (.lst [.int 1,.int 2,.int 99])=H6 at s6 al⊢
  obtain⟨I,aM,aQ⟩:=pick3 (a:=1) (b:=2) (c:=99) (z:=N / 4)
  have ae:1<=I/\I<=99:=Om
  refine⟨_,rfl,_,_,rfl,rfl,⟨Dc,Dc⟩,_,_,rfl,rfl,Z0,p6,_,_,_,rfl,rfl,Qb al,aM,?_⟩
  have j:=s6 _ _ aE
  have ad:=s6 _ _ af
  have S:=ah.same s6
  have ag:=s5.trans s6
  cases tT.th r (kW er)with
  |shut b f t=>
   refine⟨_,rfl,G,_,_,_,rfl,rfl,Qb j,Wx (x:="shut") rfl,rfl,_,rfl,ite2 (fun C=>Y21 C (neS w_hb)) (fun _=>?_)⟩
   refine⟨_,rfl,G,_,_,_,rfl,rfl,Qb j,Wx (x:="shut") rfl,rfl,_,rfl,ite2 (fun C=>Y21 C (neS w_hs)) (fun _=>?_)⟩
   refine⟨_,rfl,G,_,_,_,rfl,rfl,Qb j,Wx (x:="shut") rfl,rfl,_,rfl,ite2 (fun C=>Y21 C (neS w_hs)) (fun _=>?_)⟩
   exact⟨_,_,_,vs,U,rfl,ad,S,fun r D=>(hU r D).mono Om,Y,Om,ag⟩
  |bench b rm=>
   refine⟨_,rfl,G,_,_,_,rfl,rfl,Qb j,Wx (x:="bench") rfl,rfl,_,rfl,ite2 (fun _=>?_) (fun C=>Y21 (yesS _) C)⟩
   have key:∀(u:Hp) (R:List V) (U7:List BR),u G=some (.lst ((BR.bench b rm).cells.map kV))->u g=some (.lst R)->RowsB u R (.way w v L c::U7)->(∀r∈U7,UseOf T w v (i+1) r)->U7.Pairwise Apart->U7.length<=2*(i+1)->Same H u->∃(zz:Int) (v9 W:Option V) (vs:List V) (U:List BR),[some (.ref a),some (.int st),some (.int n),some (.str w),some (.str v),some (.ref d),some (.int N),some (.int L),some (.ref g),some (.ref G),some (.int I)]=[some (.ref a),some (.int st),some (.int n),some (.str w),some (.str v),some (.ref d),some (.int zz),some (.int L),some (.ref g),v9,W]/\u g=some (.lst vs)/\RowsB u vs (.way w v L c::U)/\(∀r∈U,UseOf T w v (i+1) r)/\U.Pairwise Apart/\U.length<=2*(i+1)/\Same H u :=
    fun u R U7 _ h2 h3 h4 h5 h6 h7=>⟨_,_,_,R,U7,rfl,h2,h3,h4,h5,h6,h7⟩
   refine⟨_,rfl,_,_,rfl,rfl,Z0,_,_,rfl,rfl,_,rfl,ite2 (fun _=>?_) (fun _=>?_)⟩
   .refine⟨_,rfl,.inl ⟨rfl,_,Qb ad⟩,_,rfl,_,rfl,_,rfl,G,_,_,_,rfl,rfl,Qb j,at_b1 _ _,_,rfl,Z1 5,fun O ao=>?_⟩
    have s7:=Qd ao (.lst [.str "uses",.str w,.str v,.str b,.int I])
    have Z:upd H6 O (.lst [.str "uses",.str w,.str v,.str b,.int I]) O=some (.lst ((BR.use 0 w v b I).cells.map kV)):=Qc
    generalize upd H6 O (.lst [.str "uses",.str w,.str v,.str b,.int I])=u at s7 Z⊢
    have ab:=s7 _ _ ad
    refine⟨g,_,_,rfl,rfl,ab,Om,?_⟩
    have aa:=((S.same s7).snoc Z).updL (zs:=vs++[.ref O]) ab S.noRow
    have X:upd u g (.lst (vs++[.ref O])) G=some (.lst ((BR.bench b rm).cells.map kV)):=by rw[Qj (Yl (s7 _ _ j) ab fun e=>Qed S.noRow (.bench b rm) (HO.lst.inj e))];exact s7 _ _ j
    have ac:upd u g (.lst (vs++[.ref O])) g=some (.lst (vs++[.ref O])):=Qc
    have s8:Same H (upd u g (.lst (vs++[.ref O]))):=fun c' o e=>by rw[Qj (Qk e gH)];exact(ag.trans s7) _ _ e
    generalize upd u g (.lst (vs++[.ref O]))=H8 at aa X ac s8⊢
    refine⟨_,rfl,G,_,_,_,rfl,rfl,Qb X,Wx (x:="bench") rfl,rfl,_,rfl,ite2 (fun C=>Y21 C (neS w_bs)) (fun _=>?_)⟩
    refine⟨_,rfl,G,_,_,_,rfl,rfl,Qb X,Wx (x:="bench") rfl,rfl,_,rfl,ite2 (fun C=>Y21 C (neS w_bs)) (fun _=>?_)⟩
    refine key H8 _ (U++[BR.use 0 w v b I]) X ac aa (fun r D=>?_) (jYf.mpr ⟨Y,jKd _ _,fun r D q hq=>?_⟩) (by rw[jJ];show U.length+1<=_;lia) s8
    .rcases kJ.mp D with h | h
     .exact(hU r h).mono Om
     .rw[jW.mp h];exact⟨0,b,I,rfl,ae.1,ae.2,.inl ⟨rfl,i,rm,Om,er⟩⟩
    .rw[jW.mp hq];exact Qbf tT.nd (hU r D) (.inl ⟨rfl,rm,er⟩)
   .refine⟨_,rfl,G,_,_,_,rfl,rfl,Qb j,Wx (x:="bench") rfl,rfl,_,rfl,ite2 (fun C=>Y21 C (neS w_bs)) (fun _=>?_)⟩
    refine⟨_,rfl,G,_,_,_,rfl,rfl,Qb j,Wx (x:="bench") rfl,rfl,_,rfl,ite2 (fun C=>Y21 C (neS w_bs)) (fun _=>?_)⟩
    exact key H6 vs U j ad S (fun r D=>(hU r D).mono Om) Y Om ag
  |store b rm ff=>
   refine⟨_,rfl,G,_,_,_,rfl,rfl,Qb j,Wx (x:="store") rfl,rfl,_,rfl,ite2 (fun C=>Y21 C (neS w_sb)) (fun _=>?_)⟩
   have fin:∀(u:Hp) (R:List V) (U7:List BR),u g=some (.lst R)->RowsB u R (.way w v L c::U7)->(∀r∈U7,UseOf T w v (i+1) r)->U7.Pairwise Apart->U7.length<=2*(i+1)->Same H u->∃(zz:Int) (v9 W:Option V) (vs:List V) (U:List BR),[some (.ref a),some (.int st),some (.int n),some (.str w),some (.str v),some (.ref d),some (.int N),some (.int L),some (.ref g),some (.ref G),some (.int I)]=[some (.ref a),some (.int st),some (.int n),some (.str w),some (.str v),some (.ref d),some (.int zz),some (.int L),some (.ref g),v9,W]/\u g=some (.lst vs)/\RowsB u vs (.way w v L c::U)/\(∀r∈U,UseOf T w v (i+1) r)/\U.Pairwise Apart/\U.length<=2*(i+1)/\Same H u :=
    fun u R U7 h2 h3 h4 h5 h6 h7=>⟨_,_,_,R,U7,rfl,h2,h3,h4,h5,h6,h7⟩
   refine⟨_,rfl,G,_,_,_,rfl,rfl,Qb j,Wx (x:="store") rfl,rfl,_,rfl,ite2 (fun _=>?_) (fun C=>Y21 (yesS _) C)⟩
   refine⟨_,rfl,_,_,rfl,rfl,Z0,rfl,_,rfl,ite2 (fun ne=>?_) (fun eq=>?_)⟩
   .obtain⟨kk,aG,k0,k2⟩:=pickTG N
    refine⟨_,rfl,.inl ⟨rfl,_,Qb ad⟩,Z1 2,fun p7 aF=>?_⟩
    have an:=Qd aF (.lst [.str "takes",.str "gives"])
    have am:upd H6 p7 (.lst [.str "takes",.str "gives"]) p7=some (.lst [.str "takes",.str "gives"]):=Qc
    generalize upd H6 p7 (.lst [.str "takes",.str "gives"])=H7a at an am⊢
    refine⟨_,rfl,_,_,rfl,rfl,Z0,p7,_,_,_,rfl,rfl,Qb am,aG,_,rfl,_,rfl,_,rfl,G,_,_,_,rfl,rfl,Qb (an _ _ j),at_s1 _ _ _,_,rfl,Z1 5,fun O ao=>?_⟩
    have s7:=an.trans (Qd ao (.lst [.str (useW kk),.str w,.str v,.str b,.int I]))
    have Z:upd H7a O (.lst [.str (useW kk),.str w,.str v,.str b,.int I]) O=some (.lst ((BR.use kk w v b I).cells.map kV)):=Qc
    generalize upd H7a O (.lst [.str (useW kk),.str w,.str v,.str b,.int I])=u at s7 Z⊢
    have ab:=s7 _ _ ad
    refine⟨g,_,_,rfl,rfl,ab,Om,?_⟩
    have aa:=((S.same s7).snoc Z).updL (zs:=vs++[.ref O]) ab S.noRow
    have X:upd u g (.lst (vs++[.ref O])) G=some (.lst ((BR.store b rm ff).cells.map kV)):=by rw[Qj (Yl (s7 _ _ j) ab fun e=>Qed S.noRow (.store b rm ff) (HO.lst.inj e))];exact s7 _ _ j
    have ac:upd u g (.lst (vs++[.ref O])) g=some (.lst (vs++[.ref O])):=Qc
    have s8:Same H (upd u g (.lst (vs++[.ref O]))):=fun c' o e=>by rw[Qj (Qk e gH)];exact(ag.trans s7) _ _ e
    generalize upd u g (.lst (vs++[.ref O]))=H8 at aa X ac s8⊢
    have az:∀r∈U++[BR.use kk w v b I],UseOf T w v (i+1) r:=fun r D=>by
     rcases kJ.mp D with h | h
     .exact(hU r h).mono Om
     .rw[jW.mp h];exact⟨kk,b,I,rfl,ae.1,ae.2,.inr ⟨k0,i,rm,ff,Om,er⟩⟩
    have ax:(U++[BR.use kk w v b I]).Pairwise Apart:=jYf.mpr ⟨Y,jKd _ _,fun r D q hq=>by
     rw[jW.mp hq];exact Qbf tT.nd (hU r D) (.inr ⟨k0,rm,ff,er⟩)⟩
    have aA:(U++[BR.use kk w v b I]).length=U.length+1:=by rw[jJ];rfl
    refine⟨_,rfl,G,_,_,_,rfl,rfl,Qb X,Wx (x:="store") rfl,rfl,_,rfl,ite2 (fun _=>?_) (fun C=>Y21 (yesS _) C)⟩
    refine⟨_,rfl,_,_,rfl,rfl,Z0,rfl,_,rfl,ite2 (fun y3=>?_) (fun _=>?_)⟩
    .have e3:N % 4=3:=by
      have:=kK y3
      injection this
     have aJ:kk=2:=k2 Om
     subst aJ
     have c0:=jQe (N / 12) (show(99:Int)≠0 by decide)
     have c1:=wZ (N / 12) (show(0:Int)<99 by decide)
     refine⟨_,rfl,.inl ⟨rfl,_,Qb ac⟩,_,rfl,_,rfl,_,rfl,G,_,_,_,rfl,rfl,Qb X,at_s1 _ _ _,_,rfl,_,_,rfl,rfl,⟨Dc,Dc⟩,_,_,rfl,rfl,Z0,_,_,rfl,rfl,Z1 5,fun l9 aN=>?_⟩
     have s9:=Qd aN (.lst [.str "takes",.str w,.str v,.str b,.int (1+N / 12 % 99)])
     have ai:upd H8 l9 (.lst [.str "takes",.str w,.str v,.str b,.int (1+N / 12 % 99)]) l9=some (.lst ((BR.use 1 w v b (1+N / 12 % 99)).cells.map kV)):=Qc
     generalize upd H8 l9 (.lst [.str "takes",.str w,.str v,.str b,.int (1+N / 12 % 99)])=H9 at s9 ai⊢
     have aC:=s9 _ _ ac
     refine⟨g,_,_,rfl,rfl,aC,by rw[jJ];show vs.length+1<_;lia,?_⟩
     have aq:=((aa.same s9).snoc ai).updL (zs:=vs++[.ref O]++[.ref l9]) aC aa.noRow
     refine fin _ _ (U++[BR.use 2 w v b I]++[BR.use 1 w v b (1+N / 12 % 99)]) Qc aq (fun r D=>?_) (jYf.mpr ⟨ax,jKd _ _,fun r D q hq=>?_⟩) (by rw[jJ,aA];show U.length+1+1<=_;lia) (fun c' o e=>by rw[Qj (Qk e gH)];exact(s8.trans s9) _ _ e)
     .rcases kJ.mp D with h | h
      .exact az r h
      .rw[jW.mp h];exact⟨1,b,_,rfl,Om,Om,.inr ⟨Dc,i,rm,ff,Om,er⟩⟩
     .rw[jW.mp hq]
      rcases kJ.mp D with h | h
      .exact Qbf tT.nd (hU r h) (.inr ⟨Dc,rm,ff,er⟩)
      .rw[jW.mp h];exact Qcp (Sn "gives" "takes")
    .exact fin H8 _ (U++[BR.use kk w v b I]) ac aa az ax (by rw[aA];lia) s8
   .have e0:N % 4=0:=by
     by_cases e0:N % 4=0
     .exact e0
     .exact Y21 (show(!decide (V.int (N % 4)=V.int 0))=true by rw[Bool.not_eq_true',decide_eq_false_iff_not];intro z';injection z' with z';exact e0 z') eq
    refine⟨_,rfl,G,_,_,_,rfl,rfl,Qb j,Wx (x:="store") rfl,rfl,_,rfl,ite2 (fun _=>?_) (fun C=>Y21 (yesS _) C)⟩
    refine⟨_,rfl,_,_,rfl,rfl,Z0,rfl,_,rfl,ite2 (fun y3=>?_) (fun _=>?_)⟩
    .have:=kK y3
     injection this with e3
     lia
    .exact fin H6 vs U ad S (fun r D=>(hU r D).mono Om) Y Om ag
 .rintro σ H5 ⟨zz,v9,W,vs,U,rfl,af,ah,hU,Y,aj,s5⟩
  rw[lu]at hU
  refine⟨_,rfl,q g vs _ H5 s5 gH af ah ⟨⟨L,c,U,rfl,av.1,av.2,ap.1,ap.2,hU⟩,jYe.mpr ⟨fun r D=>?_,Y⟩,by rw[yZ];lia⟩⟩
  obtain⟨k,t,m',rfl,_⟩:=hU r D
  exact way_apart
abbrev sPut:Stmt:=top 37
def ownN(k:Nat)(ns:List Str):List Str:=if k=9 then ns else if k<=3 then[]else ns.take 1
theorem Qut(r:BR):r.own=ownN r.kind r.names:=by
 cases r with
 |use k w v t m=>
  have a:=k.isLt
  show[w]=ownN (6+k.val) [w,v,t]
  unfold ownN
  rw[Y20 Om,Y20 Om]
  rfl
 |_=>rfl
theorem Qib{r q:BR}(h:r.key=q.key){w:Str}(g:w∈q.own):w∈r.own:=by
 have i:((inr r.word:Key)::r.names.map inr)=inr q.word::q.names.map inr:=h
 injection i with b a
 have f:r.word=q.word:=Y37 b
 have d:r.names=q.names:=(List.map_inj_right fun x y e=>Y37 e).mp a
 have c:r.kind=q.kind:=We _ (Qbc r) _ (Qbc q) (by rw[<-Wd,<-Wd];exact f)
 rw[Qut,d,c,<-Qut]
 exact g
structure WkOk(n:Int)(T:List BR)(nm:List Str)(W:List BR):Prop where
 ok:∀r∈W,r.ok n
 nd:W.Pairwise Apart
 own:∀r∈W,r.own≠[]/\∀w∈r.own,w∈nm
 wk:∀w∈nm,BR.work w∈W
 gn:∀r∈W,r.gn
 ah:Ahead ([.days n]++T) W
def OfWay(w:Str)(j:Nat)(r:BR):Prop:=∃v,fl v<97+j/\((∃l c,r=.way w v l c)\/∃k t m,r=.use k w v t m)
theorem OfWay.own{w:Str}{r:BR}(h:OfWay w j r):r.own=[w]:=by
 obtain⟨v,_,⟨l,c,rfl⟩ | ⟨k,t,m,rfl⟩⟩:=h
 .rfl
 .rfl
theorem OfWay.mono{w:Str}{r:BR}(h:OfWay w i r)(b:i<=j):OfWay w j r:=by
 obtain⟨v,c,a⟩:=h
 exact⟨v,Om,a⟩
theorem Qoh{T:List BR}{w:Str}{R:List BR}{r q:BR}(s:OfWay w j r)(M:fl v=97+j)(hR:WayBlk n T w v R)(A:q∈R):Apart r q:=by
 obtain⟨l,c,U,rfl,_,_,_,_,J⟩:=hR.hd
 obtain⟨g,h,p⟩:=s
 have B:g≠v:=fun z=>by rw[z]at h;lia
 have d:(∃l c,q=.way w v l c)\/∃k t m,q=.use k w v t m:=by
  rcases kZ.mp A with e | e
  .exact .inl ⟨l,c,e⟩
  .obtain⟨k,t,m,i,_⟩:=J q e
   exact .inr ⟨k,t,m,i⟩
 have f:∀{a b:Str} {x y:List Key},(inr a::(inr w:Key)::inr g::x)=(inr b::inr w::inr v::y)->False:=fun z=>by
  injection z with _ F
  injection F with _ u
  injection u with C
  injection C with I
  exact B I
 rcases p with⟨P,L,rfl⟩ | ⟨N,K,O,rfl⟩
 .rcases d with⟨o,G,rfl⟩ | ⟨E,D,H,rfl⟩
  .exact .inr (.inr fun z=>f z)
  .exact way_apart
 .rcases d with⟨o,G,rfl⟩ | ⟨E,D,H,rfl⟩
  .exact way_apart.symm
  .exact .inr (.inr fun z=>f z)
theorem blk_of{T:List BR}{w:Str}{R:List BR}(r:fl v=97+j)(hR:WayBlk n T w v R):(∀q∈R,OfWay w (j+1) q)/\∀q∈R,q.ok n:=by
 obtain⟨l,c,U,rfl,g,f,h,p,d⟩:=hR.hd
 refine⟨fun q b=>?_,fun q b=>?_⟩
 .rcases kZ.mp b with e | e
  .exact⟨v,Om,.inl ⟨l,c,e⟩⟩
  .obtain⟨k,t,m,a,_⟩:=d q e
   exact⟨v,Om,.inr ⟨k,t,m,a⟩⟩
 .rcases kZ.mp b with e | e
  .rw[e];exact⟨g,f,h,p⟩
  .obtain⟨k,t,m,a,i,o,_⟩:=d q e
   rw[a];exact⟨i,o⟩
theorem blk_gn{T:List BR}{w:Str}{R:List BR}(g:ThOk n T)(h:NmOk w)(f:NmOk v)(hR:WayBlk n T w v R):∀q∈R,q.gn:=by
 obtain⟨l,c,U,rfl,_,_,_,_,i⟩:=hR.hd
 intro q r x a
 rcases kZ.mp r with e | e
 .rw[e]at a
  rcases kZ.mp a with e1 | e1
  .rw[e1];exact h
  .rw[jW.mp e1];exact f
 .obtain⟨k,t,m,e1,_,_,o⟩:=i q e
  have p:NmOk t:=by
   rcases o with⟨_,j,b,_,d⟩ | ⟨_,j,b,s,_,d⟩
   .exact g.gn _ (kW d) t jY
   .exact g.gn _ (kW d) t jY
  rw[e1]at a
  rcases kZ.mp a with e2 | e2
  .rw[e2];exact h
  .rcases kZ.mp e2 with e3 | e3
   .rw[e3];exact f
   .rw[jW.mp e3];exact p
theorem Qoi{S T:List BR}(h:∀r∈T,∀k∈r.needs,Said S k):Ahead S T:=by
 induction T generalizing S with
 |nil=>exact True.intro
 |cons r T ih=>exact⟨h r jY,ih fun q c k a=>(h q (kQ _ c) k a).mono fun x b=>zZ _ b⟩
theorem blk_ah{T:List BR}{w:Str}{R S:List BR}(h:∀q∈T,q∈S)(r:BR.work w∈S)(hR:WayBlk n T w v R):Ahead S R:=by
 obtain⟨l,c,U,rfl,_,_,_,_,o⟩:=hR.hd
 refine⟨fun k a=>?_,Qoi fun q s k a=>?_⟩
 .rw[jW.mp a]
  exact⟨.work w,r,rfl⟩
 .obtain⟨i,t,m,rfl,_,_,p⟩:=o q s
  rcases p with⟨rfl,j,b,_,f⟩ | ⟨g,j,b,u,_,f⟩
  .rcases kZ.mp a with e | e
   .rw[e];exact⟨.way w v l c,yX _ jY,rfl⟩
   .rw[jW.mp e];exact⟨_,zZ _ (h _ (kW f)),rfl⟩
  .have d:k∈[[(inr ("way":Str):Key),inr w,inr v],[inr ("store":Str),inr t]]:=by
    match i,g,a with
    |0,g,_=>exact Y21 rfl g
    |1,_,a=>exact a
    |2,_,a=>exact a
   rcases kZ.mp d with e | e
   .rw[e];exact⟨.way w v l c,yX _ jY,rfl⟩
   .rw[jW.mp e];exact⟨_,zZ _ (h _ (kW f)),rfl⟩
structure BlkOk(n:Int)(T:List BR)(nm:List Str)(w:Str)(W Y:List BR):Prop where
 ok:∀r∈Y,r.ok n
 nd:Y.Pairwise Apart
 own:∀r∈Y,w∈r.own/\∀x∈r.own,x∈nm++[w]
 gn:∀r∈Y,r.gn
 ah:Ahead ([.days n]++T++W) Y
theorem BlkOk.snoc{T:List BR}{w:Str}{W Y:List BR}{r:BR}(h:BlkOk n T nm w W Y)(g:r.ok n)(d:w∈r.own)(j:∀x∈r.own,x∈nm++[w])(m:∀q∈Y,Apart q r)(e:r.gn)(l:∀k∈r.needs,Said ([.days n]++T++W++Y) k):BlkOk n T nm w W (Y++[r]):=by
 refine⟨fun q c=>?_,jYf.mpr ⟨h.nd,jKd _ _,fun a i b f=>?_⟩,fun q c=>?_,fun q c=>?_,h.ah.app (Ahead.one l)⟩
 .rcases kJ.mp c with z | z
  .exact h.ok q z
  .rw[jW.mp z];exact g
 .rw[jW.mp f];exact m a i
 .rcases kJ.mp c with z | z
  .exact h.own q z
  .rw[jW.mp z];exact⟨d,j⟩
 .rcases kJ.mp c with z | z
  .exact h.gn q z
  .rw[jW.mp z];exact e
theorem WkOk.join{T:List BR}{w:Str}{W Y:List BR}(h:WkOk n T nm W)(f:w∉nm)(b:BlkOk n T nm w W Y)(d:BR.work w∈Y):WkOk n T (nm++[w]) (W++Y):=by
 refine⟨fun r a=>?_,jYf.mpr ⟨h.nd,b.nd,fun r a q g=>?_⟩,fun r a=>?_,fun x c=>?_,fun r a=>?_,h.ah.app b.ah⟩
 .rcases kJ.mp a with z | z
  .exact h.ok r z
  .exact b.ok r z
 .refine .inr (.inr fun z=>f ?_)
  exact(h.own r a).2 w (Qib z (b.own q g).1)
 .rcases kJ.mp a with z | z
  .exact⟨(h.own r z).1,fun x c=>zZ _ ((h.own r z).2 x c)⟩
  .exact⟨fun e=>(by have:=(b.own r z).1;rw[e]at this;exact nomatch this),(b.own r z).2⟩
 .rcases kJ.mp c with z | z
  .exact zZ _ (h.wk x z)
  .rw[jW.mp z];exact yX _ d
 .rcases kJ.mp a with z | z
  .exact h.gn r z
  .exact b.gn r z
theorem Quu:∀{ks ls:List Key},ks.map kV=ls.map kV->ks=ls
 |[],[],_=>rfl
 |[],_::_,h=>nomatch h
 |_::_,[],h=>nomatch h
 |a::ks,b::ls,h=>by
  injection h with d c
  rw[Quu c]
  cases a<;>cases b<;>cases d<;>rfl
def Hit1(q r:BR):Prop:=∃a x:Str,(a="bench"\/a="store"\/a="work")/\q.key=[inr a,inr x]/\x∈r.names
def Hit2(q r:BR):Prop:=∃(w v:Str) (t:List Str),q.key=[inr ("way":Str),inr w,inr v]/\r.names=w::v::t
theorem Qjw{q:BR}{a:Str}(h:q.key=inr a::ks):q.word=a:=by
 have c:(inr q.word:Key)::q.names.map inr=inr a::ks:=h
 injection c with b _
 exact Y37 b
theorem Qws{q r:BR}(h:Hit1 q r):inV (.str q.word) [.str "bench",.str "store",.str "work"]=true:=by
 obtain⟨a,x,b,e,_⟩:=h
 rw[Qjw e]
 rcases b with rfl | rfl | rfl<;>decide +kernel
theorem Qbg(r:BR):r.cells.map kV=r.key.map kV++r.nums.map V.int:=by
 unfold BR.cells
 rw[zQ,jZd]
 rfl
theorem Qwt{q r:BR}(h:Hit1 q r):∃x:Str,atI (q.cells.map kV) 1=some (.str x)/\x∈r.names:=by
 obtain⟨a,x,c,e,b⟩:=h
 exact⟨x,by rw[Qbg,e];exact Kx (k:=1) rfl,b⟩
theorem Qcs(r:BR):r.cells.map kV=.str r.word::(r.names.map V.str++r.nums.map V.int):=by
 rw[Qbg]
 unfold BR.key
 rw[zX,jZd]
 rfl
theorem cut1{α:Type}(x:V)(xs:List V):cutV (x::xs) (some 1) none=xs:=by
 unfold cutV
 rw[HT.sIx_none,show(1:Int)=((1:Nat):Int)from rfl,HT.sIx_nat,yZ,wK Om]
 show List.take (xs.length+1-1) xs=xs
 exact wQ Om
theorem Qsm{r:BR}(h:x∈r.names):inV (.str x) (cutV (r.cells.map kV) (some 1) none)=true:=by
 rw[Qcs,cut1 (α:=V)]
 unfold inV
 rw[jXb]
 refine⟨.str x,zZ _ (kJa h),?_⟩
 show(x == x)=true
 exact beq_self_eq_true x
theorem cut13(x:V)(a b:V)(xs:List V):cutV (x::a::b::xs) (some 1) (some 3)=[a,b]:=by
 unfold cutV
 rw[show(1:Int)=((1:Nat):Int)from rfl,show(3:Int)=((3:Nat):Int)from rfl,HT.sIx_nat,HT.sIx_nat,yZ,yZ,yZ,wK Om,wK Om]
 rfl
theorem Qjx{q r:BR}(h:Hit2 q r):q.word="way"/\cutV (q.cells.map kV) (some 1) (some 3)=cutV (r.cells.map kV) (some 1) (some 3):=by
 obtain⟨w,v,t,e,a⟩:=h
 refine⟨Qjw e,?_⟩
 rw[Qbg q,e,Qcs r,a]
 show cutV (V.str "way" :: V.str w::V.str v::(q.nums.map V.int)) (some 1) (some 3)=cutV (V.str r.word::V.str w::V.str v::(t.map V.str++r.nums.map V.int)) (some 1) (some 3)
 rw[cut13,cut13]
theorem Qsn{q r:BR}(h:q.key∈r.needs):q.key=[inr ("days":Str)]\/Hit1 q r\/Hit2 q r:=by
 have i:∀{k:List Key},q.key∈[k]->q.key=k:=fun z=>jW.mp z
 have j:∀{k l:List Key},q.key∈[k,l]->q.key=k\/q.key=l:=fun z=>by
  rcases kZ.mp z with z | z
  .exact .inl z
  .exact .inr (jW.mp z)
 cases r with
 |days n=>exact nomatch h
 |bench b r=>exact .inl (i h)
 |shut b f t=>exact .inr (.inl ⟨"bench",b,.inl rfl,i h,jY⟩)
 |store s m f=>exact .inl (i h)
 |work w=>exact .inl (i h)
 |way w v l c=>exact .inr (.inl ⟨"work",w,.inr (.inr rfl),i h,jY⟩)
 |late w d c=>exact .inr (.inl ⟨"work",w,.inr (.inr rfl),i h,jY⟩)
 |after w x g=>
  rcases j h with e | e
  .exact .inr (.inl ⟨"work",w,.inr (.inr rfl),e,jY⟩)
  .exact .inr (.inl ⟨"work",x,.inr (.inr rfl),e,kQ _ jY⟩)
 |use k w v t m=>
  have p:q.key=[inr ("way":Str),inr w,inr v]\/(∃a:Str,(a="bench"\/a="store"\/a="work")/\q.key=[inr a,inr t]):=by
   match k,h with
   |0,h=>
    rcases j h with e | e
    .exact .inl e
    .exact .inr ⟨"bench",.inl rfl,e⟩
   |1,h=>
    rcases j h with e | e
    .exact .inl e
    .exact .inr ⟨"store",.inr (.inl rfl),e⟩
   |2,h=>
    rcases j h with e | e
    .exact .inl e
    .exact .inr ⟨"store",.inr (.inl rfl),e⟩
  rcases p with e | ⟨a,o,e⟩
  .exact .inr (.inr ⟨w,v,[t],e,rfl⟩)
  .exact .inr (.inl ⟨a,t,o,e,kQ _ (kQ _ jY)⟩)
theorem Qso{B:List BR}{r:BR}{k:Nat}(l:B[0]?=some (.days n))(o:1<=k)(c:∀j q,B[j]?=some q->Hit1 q r\/Hit2 q r->j<k){κ:List Key}(f:κ∈r.needs)(d:Said B κ):Said (B.take k) κ:=by
 obtain⟨q,m,rfl⟩:=d
 obtain⟨j,b⟩:=wJ.mp m
 have fin:∀(j:Nat) (a:BR),B[j]?=some a->a.key=q.key->j<k->Said (B.take k) q.key:=fun j a e h g=>⟨a,kW (i:=j) (by rw[List.getElem?_take,Y22 g];exact e),h⟩
 rcases Qsn f with e | e
 .exact fin 0 _ l e.symm Om
 .exact fin j q b rfl (c j q b e)
theorem Qab(ks:List Key)(lo a:Option Int):∃ls:List Key,cutV (ks.map kV) lo a=ls.map kV:=by
 unfold cutV
 rw[jX]
 exact⟨(ks.drop (HT.sIx ks.length 0 lo)).take (HT.sIx ks.length ks.length a-HT.sIx ks.length 0 lo),by rw[kQc,List.map_drop]⟩
theorem flat_keys(ks:List Key):(ks.map kV).all Wv=true:=by
 rw[jXa]
 intro v a
 obtain⟨k,_,rfl⟩:=zV.mp a
 exact Qdy k
theorem in3{a b c:Str}{r:BR}(h:inV (.str r.word) [.str a,.str b,.str c]=true):a=r.word\/b=r.word\/c=r.word:=by
 have d:(a == r.word||(b == r.word||(c == r.word||false)))=true:=h
 simp only[kZe,beq_iff_eq,jJa,or_false]at d
 exact d
theorem cell1{r:BR}(h:("bench":Str)=r.word\/("store":Str)=r.word\/("work":Str)=r.word):∃x:Str,atI (r.cells.map kV) 1=some (.str x):=by
 cases r with
 |days n=>
  rcases h with h | h | h
  .exact Y21 h (Sn "bench" "days")
  .exact Y21 h (Sn "store" "days")
  .exact Y21 h (Sn "work" "days")
 |bench b r=>exact⟨b,rfl⟩
 |shut b f t=>exact⟨b,rfl⟩
 |store s m f=>exact⟨s,rfl⟩
 |work w=>exact⟨w,rfl⟩
 |way w v l c=>exact⟨w,rfl⟩
 |use k w v t m=>exact⟨w,rfl⟩
 |after w x g=>exact⟨w,rfl⟩
 |late w d c=>exact⟨w,rfl⟩
theorem Qic{t1 t2:TS}(a:St->Hp->Prop)(b:∀σ' H',a σ' H'->t2 D σ' H')(c:(∀σ' H',a σ' H'->t2 D σ' H')->t1 { D with nx:=t2 D } σ H):tSeq t1 t2 D σ H:=c b
def spPut(K:Fg):Sp:=fun vs H Q _=>∃(d l:Addr) (z:Int) (us:List V) (B:List BR) (r:BR),vs=[.ref d,.ref l,.int z]/\H d=some (.lst us)/\RowsB H us B/\1<=B.length/\B.length<=1000/\H l=some (.lst (r.cells.map kV)) /\
 ∀(g:Addr) (k:Nat) (H':Hp),1<=k->k<=B.length->(∀j q,B[j]?=some q->Hit1 q r\/Hit2 q r->j<k)->Same H H'->H g=none->H' g=some (.lst (us.take k++[.ref l]++us.drop k))->Q (.ref g) H'
theorem scPut:FnScope ["_law_rows","_law_row","_law_number","_law_least","_law_k","_law_at"] ["_law_rows","_law_row","_law_number"] (Qh sPut):=Sc
theorem okPut(F:Fn K mg "_law_put" sPut)(M:Mg mg):Cal P w K mg base 1 "_law_put" ["_law_rows","_law_row","_law_number"] (spPut K):=by
 refine Xt F scPut (fun _ _ _ _ _ _=>Ww (fun _ _ _=>rfl)) (fun vs H Q E h=>?_) (fun f ay A af s H vs Q E Z h=>?_)
 .obtain⟨d,l,z,a,B,r,rfl,_⟩:=h
  rfl
 obtain⟨d,l,z,a,B,r,rfl,X,hB,b1,b2,hl,q⟩:=h
 have ag:=Z6 6 Z.un
 refine⟨_,(Qg (Z4 3 scPut.nd Qe)
  (Qg (Ye Y33 rfl (Xo rfl M.range_ (Qa (Qt Qu rfl M.len Ys (Qa (pv 0) Qf)) Qf)) (Z3 4 scPut.nd) (Qg (Xy (PW.pt (Zq (Qm Vk (Qr Qn (Qr Qn (pv 0) (pv 4)) Qe) (Xd (Qa Qq (Qa Qq (Qa Qq Qf)))) rfl) (Zb (Qm Vk (Qr Qn (Qr Qn (pv 0) (pv 4)) Qe) (Xi Jj (pv 1) (Xn Qe) Yi) rfl)))) (Qi (Z4 3 scPut.nd (Ql Xc (pv 4) Qe))) Xa)
  (Qi (Xy (PW.pt (Zq (Qm Yq (Qr Qn (Qr Qn (pv 0) (pv 4)) Qe) Qq (Qs _)) (Zb (Qm (Qjo (K:=K) (n:=6) rfl ag) (Xi Jj (Qr Qn (pv 0) (pv 4)) (Xn Qe) (Xn Qe)) (Xi Jj (pv 1) (Xn Qe) (Xn Qe)) (Qs _))))) (Qi (Z4 3 scPut.nd (Ql Xc (pv 4) Qe))) Xa))))
  (Qg (Z4 5 scPut.nd (Ql Xc (pv 3) (Ql Xf (pv 2) (Ql Xc (Ql Qfd (Qt Qu rfl M.len Ys (Qa (pv 0) Qf)) (pv 3)) Qe))))
  (Qi (Xb (Ql Kc (Ql Kc (Xi Jj (pv 0) Yi (Xn (pv 5))) (Xd (Qa (pv 1) Qf))) (Xi Jj (pv 0) (Xn (pv 5)) Yi))))))),?_⟩
 refine Ju ?_
 intro ax au av
 have hz:=X0 20000
 have lu:=hB.length
 let ao:Nat->St->Hp->Prop:=fun i σ H1=>∃(e:Nat) (v5 U:Option V),σ=[some (.ref d),some (.ref l),some (.int z),some (.int ((e:Nat):Int)),v5,U]/\1<=e/\e<=B.length/\(∀j q,j<i->B[j]?=some q->Hit1 q r\/Hit2 q r->j<e)/\Same H H1
 refine⟨_,rfl,d,_,rfl,.inl (Qb X),_,rfl,Om,Om,Yh (lo:=0) (n:=Int.toNat ((a.length:Nat):Int)) ao ⟨1,none,none,rfl,jK _,b1,fun _ _ h=>Y21 h (kZf _),Same.refl _⟩ ?_ ?_⟩
 .rintro i σ H1 hi ⟨e,v5,U,rfl,e1,e2,eh,m⟩
  have S:i<a.length:=Om
  obtain⟨C,lr,er,ev,Z⟩:=(hB.same m).get (gE S)
  have ai:atI a (0+(i:Int))=some (.ref lr):=by
   rw[show(0:Int)+(i:Int)=((i:Nat):Int)by lia]
   exact Kx (by rw[gE S,ev])
  have si:(0:Int)+(i:Int)+1=((i+1:Nat):Int):=Om
  refine Qic (fun O H'=>∃(b:Nat) (U:Option V),O=[some (.ref d),some (.ref l),some (.int z),some (.int ((b:Nat):Int)),some (.int (0+(i:Int))),U]/\1<=b/\b<=B.length/\((∀j q,j<i->B[j]?=some q->Hit1 q r\/Hit2 q r->j<b)/\(Hit1 C r->i<b))/\Same H1 H') ?_ fun REST=>?_
  .rintro O H2 ⟨b,aw,rfl,ab,aa,⟨aj,ad⟩,D⟩
   have ac:∀L:Nat,i<L->∀j q,j<i+1->B[j]?=some q->Hit1 q r\/Hit2 q r->j<L:=fun L h5 j q h6 _ _=>Om
   have u:(Hit2 C r->False)->∀j q,j<i+1->B[j]?=some q->Hit1 q r\/Hit2 q r->j<b:=fun no j q h6 e6 h7=>by
    by_cases h8:j<i
    .exact aj j q h8 e6 h7
    .have e8:j=i:=Om
     subst e8
     rw[er]at e6
     cases e6
     rcases h7 with h7 | h7
     .exact ad h7
     .exact Y21 h7 no
   have W:=D _ _ Z
   have R:=(m.trans D) _ _ X
   have ar:=(m.trans D) _ _ hl
   refine⟨_,rfl,_,rfl,d,_,_,_,rfl,rfl,Qb R,ai,lr,_,_,_,rfl,rfl,Qb W,Yp _,rfl,_,rfl,ite2 (fun _=>?_) (fun n1=>?_)⟩
   .refine⟨_,rfl,_,rfl,d,_,_,_,rfl,rfl,Qb R,ai,_,rfl,_,rfl,lr,_,rfl,Qb W,fun p T=>?_⟩
    have N:Hit2 C r->cutV (C.cells.map kV) (some 1) (some 3)=cutV (r.cells.map kV) (some 1) (some 3):=fun h=>(Qjx h).2
    obtain⟨ks,ek⟩:=Qab C.cells (some 1) (some 3)
    rw[ek]at N⊢
    have t:=Qd T (.lst (ks.map kV))
    refine⟨_,rfl,_,rfl,_,rfl,l,_,rfl,Qb (t _ _ ar),fun p' G=>?_⟩
    obtain⟨ls,el⟩:=Qab r.cells (some 1) (some 3)
    rw[el]at N⊢
    have v:=Qd G (.lst (ls.map kV))
    refine⟨p,p',ks,ls,rfl,rfl,Qb (v _ _ Qc),Qb Qc,fun c hc=>⟨_,rfl,ite2 (fun _=>?_) (fun n2=>?_)⟩⟩
    .refine⟨_,rfl,_,_,rfl,rfl,?_⟩
     dsimp only
     rw[si]
     exact⟨i+1,_,_,rfl,Om,Om,ac _ Om,((m.trans D).trans t).trans v⟩
    .exact⟨b,_,_,rfl,ab,aa,u (fun h=>n2 (hc.mpr (Quu (N h)))),((m.trans D).trans t).trans v⟩
   .exact⟨b,_,_,rfl,ab,aa,u (fun h=>n1 (by rw[(Qjx h).1];exact yesS _)),m.trans D⟩
  .refine⟨_,rfl,_,rfl,d,_,_,_,rfl,rfl,Qb (m _ _ X),ai,lr,_,_,_,rfl,rfl,Qb Z,Yp _,Z1 3,fun p T=>?_⟩
   have t:=Qd T (.lst [.str "bench",.str "store",.str "work"])
   have ae:=t _ _ Z
   have ap:=(m.trans t) _ _ X
   have an:=(m.trans t) _ _ hl
   refine⟨p,_,rfl,.inl (Qb Qc),rfl,rfl,_,rfl,ite2 (fun y=>?_) (fun n1=>?_)⟩
   .obtain⟨x,ex⟩:=cell1 (in3 y)
    refine⟨_,rfl,_,rfl,d,_,_,_,rfl,rfl,Qb ap,ai,lr,_,_,_,rfl,rfl,Qb ae,ex,_,rfl,_,rfl,l,_,rfl,Qb an,fun p' G=>?_⟩
    have Y:Hit1 C r->inV (.str x) (cutV (r.cells.map kV) (some 1) none)=true:=fun h=>by
     obtain⟨x',e5,h5⟩:=Qwt h
     rw[e5]at ex
     cases ex
     exact Qsm h5
    obtain⟨ls,el⟩:=Qab r.cells (some 1) none
    rw[el]at Y⊢
    have v:=t.trans (Qd G (.lst (ls.map kV)))
    refine⟨p',_,rfl,.inl (Qb Qc),rfl,flat_keys ls,_,rfl,ite2 (fun _=>?_) (fun n2=>?_)⟩
    .refine⟨_,rfl,_,_,rfl,rfl,?_⟩
     dsimp only
     rw[si]
     exact REST _ _ ⟨i+1,_,rfl,Om,Om,⟨fun j q h6 _ _=>Om,fun _=>Om⟩,v⟩
    .exact REST _ _ ⟨e,_,rfl,e1,e2,⟨eh,fun h=>Y21 (Y h) n2⟩,v⟩
   .exact REST _ _ ⟨e,_,rfl,e1,e2,⟨eh,fun h=>Y21 (Qws h) n1⟩,t⟩
 .rintro σ H1 ⟨e,v5,U,rfl,e1,e2,eh,m⟩
  have I:=m _ _ X
  have p0:(0:Int)<((a.length:Nat):Int)-((e:Nat):Int)+1:=Om
  have m0:=jQe z (kKd p0)
  have m1:=wZ z p0
  refine⟨_,rfl,_,rfl,_,rfl,d,_,rfl,.inl (Qb I),_,rfl,_,_,rfl,rfl,_,_,rfl,rfl,_,_,rfl,rfl,p0,_,_,rfl,rfl,?_⟩
  obtain⟨k,ek⟩:∃k:Nat,((e:Nat):Int)+z % (((a.length:Nat):Int)-((e:Nat):Int)+1)=((k:Nat):Int):=⟨(((e:Nat):Int)+z % (((a.length:Nat):Int)-((e:Nat):Int)+1)).toNat,Om⟩
  have k1:1<=k/\k<=a.length:=Om
  have ak:e<=k:=Om
  dsimp only
  rw[ek]
  have c1:cutV a none (some ((k:Nat):Int))=a.take k:=by
   unfold cutV
   rw[HT.sIx_none,HT.sIx_nat,wK k1.2,jZc,kYe]
  have c2:cutV a (some ((k:Nat):Int)) none=a.drop k:=by
   unfold cutV
   rw[HT.sIx_none,HT.sIx_nat,wK k1.2,<-jJd,yV]
  refine⟨_,rfl,_,rfl,_,rfl,d,_,rfl,Qb I,fun p T=>?_⟩
  rw[c1]
  have D:=Qd T (.lst (a.take k))
  refine⟨_,rfl,Z1 1,fun p2 al=>?_⟩
  have t:=Qd al (.lst [.ref l])
  refine⟨p,p2,_,_,rfl,rfl,t _ _ Qc,Qc,by rw[xJ];show min k a.length+1<=_;lia,fun p3 am=>?_⟩
  have v:=Qd am (.lst (a.take k++[.ref l]))
  have J:=(D.trans t).trans v
  refine⟨_,rfl,_,rfl,_,rfl,d,_,rfl,Qb (J _ _ I),fun p4 ah=>?_⟩
  rw[c2]
  have s5:=Qd ah (.lst (a.drop k))
  refine⟨p3,p4,_,_,rfl,rfl,s5 _ _ Qc,Qc,by rw[jJ,xJ,jJd];show min k a.length+1+_<=_;lia,fun g hg=>?_⟩
  have s6:=Qd hg (.lst (a.take k++[.ref l]++a.drop k))
  have aq:=m.trans ((J.trans s5).trans s6)
  have gH:H g=none:=by
   cases e5:H g with
   |none=>rfl
   |some o=>rw[(m.trans (J.trans s5)) _ _ e5]at hg;cases hg
  exact q g k _ k1.1 Om (fun j C ej h=>xZ (eh j C (by have:=(kX.mp ej).1;lia) ej h) ak) aq gH Qc
abbrev Qjy:Stmt:=top 36
theorem pick8{a b d e f g h:Int}:∃m:Int,atI [V.int a,V.int b,V.int c,V.int d,V.int e,V.int f,V.int g,V.int h] (z % 8)=some (.int m)/\(m=a\/m=b\/m=c\/m=d\/m=e\/m=f\/m=g\/m=h):=by
 rcases(show z % 8=0\/z % 8=1\/z % 8=2\/z % 8=3\/z % 8=4\/z % 8=5\/z % 8=6\/z % 8=7 by lia)with q | q | q | q | q | q | q | q<;>rw[q]
 .exact⟨a,rfl,Om⟩
 .exact⟨b,rfl,Om⟩
 .exact⟨c,rfl,Om⟩
 .exact⟨d,rfl,Om⟩
 .exact⟨e,rfl,Om⟩
 .exact⟨f,rfl,Om⟩
 .exact⟨g,rfl,Om⟩
 .exact⟨h,rfl,Om⟩
theorem Qlm{r:BR}(h:r.nums≠[]):r.cells.map kV≠nm.map V.str:=fun e=>by
 obtain⟨z,a,c⟩:∃z a,r.nums=z::a:=by
  cases f:r.nums with
  |nil=>exact Y21 f h
  |cons z a=>exact⟨z,a,rfl⟩
 have b:V.int z∈r.cells.map kV:=by
  unfold BR.cells
  rw[c,zQ]
  exact yX _ jY
 rw[e]at b
 obtain⟨x,_,d⟩:=zV.mp b
 cases d
theorem Qsp{T:List BR}{w:Str}{R:List BR}(hR:WayBlk n T w v R):∀q∈R,q.nums≠[]:=fun q d=>by
 obtain⟨l,c,U,rfl,_,_,_,_,a⟩:=hR.hd
 rcases kZ.mp d with e | e
 .rw[e];exact fun z=>nomatch z
 .obtain⟨k,t,m,b,_⟩:=a q e
  rw[b];exact fun z=>nomatch z
theorem RowsB.mem{B:List BR}(h:RowsB H vs B)(d:V.ref l∈vs):∃r∈B,H l=some (.lst (r.cells.map kV)):=by
 obtain⟨i,e⟩:=wJ.mp d
 obtain⟨r,f,c,b,a⟩:=h.get e
 cases b
 exact⟨r,kW c,a⟩
theorem Qjz{t1 t2:TS}{x:V}(a:St->Hp->Prop)(b:∀σ' H',a σ' H'->t2 D σ' H')(c:(∀σ' H',a σ' H'->t2 D σ' H')->t1 { D with nx:=t2 D } (σ.set i (some x)) H):Vi i x σ H ({ D with nx:=tSeq t1 t2 D }:Ends).nx:=c b
def Qoj(K:Fg):Sp:=fun vs H Q _=>∃(a d:Addr) (ns:List Int) (n:Int) (us:List V) (T:List BR),vs=[.ref a,.int n,.ref d]/\SqL K H a (ns.map V.int)/\1<=n/\n<=12/\SqL K H d us/\RowsB H us T/\ThOk n T/\T.length<=11 /\
 ∀(g:Addr) (vs:List V) (nm:List Str) (W:List BR) (H':Hp),Same H H'->H g=none->H' g=some (.lst vs)->RowsB H' vs W->WkOk n T nm W->W.length<=370->nm.length<=5->Q (.ref g) H'
theorem scWorks:FnScope ["_law_script","_law_days","_law_things_here","_law_found","_law_names","_law_many_here","_law_k","_law_work","_law_number","_law_j","_law_rows","_law_pair"] ["_law_script","_law_days","_law_things_here"] (Qh Qjy):=Sc
theorem Qwu(F:Fn K mg "_law_works" Qjy)(M:Mg mg)(J:Cal P w K mg base 2 "_law_mixed" ["_law_script","_law_k"] (Kw K))(O:Cal P w K mg base 3 "_law_name" ["_law_script","_law_k","_law_first"] (Qog K))(aF:Cal P w K mg base 3 "_law_way" ["_law_script","_law_start","_law_days","_law_work","_law_way_here","_law_things_here"] (spWay K)):Cal P w K mg base 4 "_law_works" ["_law_script","_law_days","_law_things_here"] (Qoj K):=by
 refine Xt F scWorks (fun _ _ _ _ _ _=>Ww (fun _ _ _=>rfl)) (fun D H Q E h=>?_) (fun f ci A bS s H D Q E B h=>?_)
 .obtain⟨a,d,ns,n,us,T,rfl,_⟩:=h
  rfl
 obtain⟨a,d,ns,n,us,T,rfl,hS,n1,b3,hd,hT,tT,tl,q⟩:=h
 refine⟨_,(Qg (Z4 3 scWorks.nd (Xd Qf))
  (Qg (Z4 4 scWorks.nd (Xd Qf))
  (Qg (Z4 5 scWorks.nd Qe)
  (Qg (Ye Y33 rfl (Xo rfl M.range_ (Qa (Qr Qn (Xd (Qa Qe (Qa Qe (Qa Qe (Qa Qe (Qa Qe (Qa Qe (Qa Qe (Qa Qe Qf))))))))) (Ql Xf (Xj J (B.mono Dc) (Qa (pv 0) (Qa Qe Qf))) Qe)) Qf)) (Z3 6 scWorks.nd) (Qg (Z4 7 scWorks.nd (Xj O (B.mono Dc) (Qa (pv 0) (Qa (Ql Xc Qe (Ql Jg Qe (pv 6))) (Qa (pv 6) Qf)))))
  (Qg (Yg (Zh Y1 Y2 Y3 Xh (pv 4) (Qa (pv 7) Qf)))
  (Qg (Yg (Zh Y1 Y2 Y3 Xh (pv 3) (Qa (Xd (Qa Qq (Qa (pv 7) Qf))) Qf)))
  (Qg (Z4 8 scWorks.nd (Xj J (B.mono Dc) (Qa (pv 0) (Qa (Ql Xc Qe (pv 6)) Qf))))
  (Qg (Ye Y33 rfl (Xo rfl M.range_ (Qa (Qr Qn (Xd (Qa Qe (Qa Qe (Qa Qe (Qa Qe (Qa Qe (Qa Qe (Qa Qe (Qa Qe Qf))))))))) (Ql Xf (pv 8) Qe)) Qf)) (Z3 9 scWorks.nd) (Qg (Z4 10 scWorks.nd (Xj aF (B.mono Dc) (Qa (pv 0) (Qa (Ql Xc (Ql Xc Qe (Ql Jg Qe (pv 6))) (Ql Jg Qe (pv 9))) (Qa (pv 1) (Qa (pv 7) (Qa (Xj O (B.mono Dc) (Qa (pv 0) (Qa (Ql Xc (Ql Xc Qe (Ql Jg Qe (pv 6))) (Ql Jg Qe (pv 9))) (Qa (pv 9) Qf)))) (Qa (pv 2) Qf))))))))
  (Qi (Xy (Qm Wu (Ql Xc (Ql Qfd (Ql Xc (pv 5) (pv 1)) (Qr Qn (Qr Qn (pv 10) Qe) Qe)) Qe) Qe (Qs _)) (Qg (Z4 5 scWorks.nd (Ql Xc (Ql Qfd (Ql Xc (pv 5) (pv 1)) (Qr Qn (Qr Qn (pv 10) Qe) Qe)) Qe))
  (Qi (Z4 3 scWorks.nd (Ql Kc (pv 3) (pv 10))))) Xa))))
  (Qg (Xy (Qm Yq (Ql Xf (Ql Xu (pv 8) Qe) Qe) Qe (Qs _)) (Qi (Yg (Zh Y1 Y2 Y3 Xh (pv 3) (Qa (Xd (Qa Qq (Qa (pv 7) (Qa (Ql Xf (Ql Xu (pv 8) Qe) (Ql Xc (pv 1) Qe)) (Qa (Ql Xc Qe (Ql Xf (Ql Xu (pv 8) Qe) Qe)) Qf))))) Qf)))) Xa)
  (Qi (Xy (PW.pt (Zq (Qm Qdm (pv 6) Qe (Qs _)) (Zb (Qm Qdm (Ql Xf (Ql Xu (pv 8) Qe) Qe) Qe (Qs _))))) (Qg (Z4 11 scWorks.nd (Xd (Qa (Qr Qn (pv 4) (Ql Xf (Ql Xu (pv 8) Qe) (pv 6))) (Qa (pv 7) Qf))))
  (Qg (Xy (Qm Yq (Ql Xf (Ql Xu (pv 8) Qe) Qe) Qe (Qs _)) (Qi (Yg (Qmx Y1 PySem.F.slot_list_reverse PySem.F.type_list_reverse Qlc (pv 11)))) Xa)
  (Qi (Yg (Zh Y1 Y2 Y3 Xh (pv 3) (Qa (Xd (Qa Qq (Qa (Qr Qn (pv 11) Qe) (Qa (Qr Qn (pv 11) Qe) (Qa (Ql Xf (Ql Xu (pv 8) Qe) (Qt (Qaf rfl) rfl M.min Qnj (Qa (Ql Xc (pv 1) Qe) (Qa Qe Qf)))) Qf))))) Qf)))))) Xa)))))))))
  (Qi (Xb (pv 3))))))),?_⟩
 refine Qaa ?_
 intro b5 ce cb cd
 have hz:=X0 20000
 have up:∀{Hy Hz:Hp} {g:Addr},Hz g=none->Same Hy Hz->Hy g=none:=fun{Hy Hz g} h s=>by
  cases e5:Hy g with
  |none=>rfl
  |some o=>rw[s _ _ e5]at h;cases h
 refine⟨Z1 0,fun g0 bD=>?_⟩
 have aT:=Qd bD (.lst [])
 have a6:upd H g0 (.lst []) g0=some (.lst []):=Qc
 generalize upd H g0 (.lst [])=Ha at aT a6⊢
 refine⟨Z1 0,fun N hN=>?_⟩
 have NH:H N=none:=up hN aT
 have bY:g0≠N:=Qk a6 hN
 have sb:=Qd hN (.lst [])
 have s0:=aT.trans sb
 have bn:=sb _ _ a6
 have bw:upd Ha N (.lst []) N=some (.lst []):=Qc
 generalize upd Ha N (.lst [])=H0 at s0 bn bw⊢
 clear sb
 refine⟨Z1 8,fun p hp=>?_⟩
 have s1:=Qd hp (.lst [.int 0,.int 1,.int 2,.int 2,.int 3,.int 3,.int 4,.int 5])
 have bj:upd H0 p (.lst [.int 0,.int 1,.int 2,.int 2,.int 3,.int 3,.int 4,.int 5]) p=some (.lst [.int 0,.int 1,.int 2,.int 2,.int 3,.int 3,.int 4,.int 5]):=Qc
 generalize upd H0 p (.lst [.int 0,.int 1,.int 2,.int 2,.int 3,.int 3,.int 4,.int 5])=H0p at s1 bj⊢
 refine⟨_,rfl,a,ns,2,rfl,(s0.trans s1).seq hS,Dc,Dc,fun z z0 z1=>?_⟩
 obtain⟨m,em,hm⟩:=pick8 (a:=0) (b:=1) (c:=2) (d:=2) (e:=3) (f:=3) (g:=4) (h:=5) (z:=z)
 have cj:0<=m/\m<=5:=Om
 let bU:Nat->St->Hp->Prop:=fun i σ H1=>∃(v6 v7 v8 v9 G I:Option V) (g:Addr) (my:Int) (D:List V) (W:List BR) (u:List Str),σ=[some (.ref a),some (.int n),some (.ref d),some (.ref g),some (.ref N),some (.int my),v6,v7,v8,v9,G,I]/\H1 g=some (.lst D)/\H g=none/\g≠N/\RowsB H1 D W/\H1 N=some (.lst (u.map V.str))/\V.ref N∉D/\WkOk n T u W/\u.length=i/\(∀j x,u[j]?=some x->fl x=97+j)/\W.length<=73*i/\Same H H1
 refine⟨_,_,rfl,rfl,Z0,p,_,_,_,rfl,rfl,Qb bj,em,m,rfl,Om,Om,Yh (lo:=0) (n:=m.toNat) bU ⟨none,none,none,none,none,none,g0,0,[],[],[],rfl,s1 _ _ bn,bD,bY,.nil,s1 _ _ bw,fun h=>(nomatch h),⟨fun _ h=>(nomatch h),.nil,fun _ h=>(nomatch h),fun _ h=>(nomatch h),fun _ h=>(nomatch h),True.intro⟩,rfl,fun _ _ h=>(nomatch h),xW _,s0.trans s1⟩ ?_ ?_⟩
 .rintro i σ H1 hi ⟨v6,v7,v8,v9,G,I,g,my,D,W,u,rfl,aY,gH,gN,aw,bH,a8,hW,be,aB,bf,aI⟩
  have b6:i<5:=Om
  have lv:=aw.length
  refine⟨_,rfl,_,rfl,_,_,rfl,rfl,mulC _ _ Dc Dc,_,_,rfl,rfl,_,rfl,a,ns,_,_,rfl,aI.seq hS,Om,Om,Om,Om,fun w H2 hw aG s2=>?_⟩
  have bv:fl w=97+i:=by rw[hw];lia
  have wn:w∉u:=fun hm=>by
   obtain⟨j,ej⟩:=wJ.mp hm
   have h5:=aB j w ej
   have h6:=(kX.mp ej).1
   lia
  have bg:=s2 _ _ bH
  refine⟨_,rfl,.inl ⟨rfl,_,Qb bg⟩,_,rfl,N,_,_,rfl,rfl,bg,by rw[jX];lia,?_⟩
  have a1:upd H2 N (.lst (u.map V.str++[.str w])) N=some (.lst ((u++[w]).map V.str)):=by rw[Qc,zQ];rfl
  have a9:upd H2 N (.lst (u.map V.str++[.str w])) g=some (.lst D):=by rw[Qj gN];exact s2 _ _ aY
  have aZ:RowsB (upd H2 N (.lst (u.map V.str++[.str w]))) D W:=(aw.same s2).imp fun l r hm z=>by
   rw[Qj (fun e=>a8 (by rw[<-e];exact hm))];exact z
  have s3:Same H (upd H2 N (.lst (u.map V.str++[.str w]))):=fun c o e=>by rw[Qj (Qk e NH)];exact(aI.trans s2) _ _ e
  generalize upd H2 N (.lst (u.map V.str++[.str w]))=H3 at a1 a9 aZ s3⊢
  refine⟨_,rfl,.inl ⟨rfl,_,Qb a9⟩,_,rfl,Z1 2,fun l hl=>?_⟩
  have lN:l≠N:=fun e=>by rw[e,a1]at hl;cases hl
  have s4:=Qd hl (.lst [.str "work",.str w])
  have bq:upd H3 l (.lst [.str "work",.str w]) l=some (.lst ((BR.work w).cells.map kV)):=Qc
  generalize upd H3 l (.lst [.str "work",.str w])=H4 at s4 bq⊢
  have bu:=s4 _ _ a9
  refine⟨g,_,_,rfl,rfl,bu,Om,?_⟩
  have bz:RowsB (upd H4 g (.lst (D++[.ref l]))) (D++[.ref l]) (W++[BR.work w]):=((aZ.same s4).snoc bq).updL bu aZ.noRow
  have bG:upd H4 g (.lst (D++[.ref l])) g=some (.lst (D++[.ref l])):=Qc
  have bi:upd H4 g (.lst (D++[.ref l])) N=some (.lst ((u++[w]).map V.str)):=by rw[Qj gN.symm];exact s4 _ _ a1
  have s5:Same H (upd H4 g (.lst (D++[.ref l]))):=fun c o e=>by rw[Qj (Qk e gH)];exact(s3.trans s4) _ _ e
  have bM:V.ref N∉D++[.ref l]:=fun h=>by
   rcases kJ.mp h with h | h
   .exact a8 h
   .have h2:=jW.mp h
    injection h2 with h3
    exact lN h3.symm
  generalize upd H4 g (.lst (D++[.ref l]))=H5 at bz bG bi s5⊢
  refine⟨_,rfl,_,rfl,_,_,rfl,rfl,a,ns,_,rfl,s5.seq hS,Om,Om,fun C ca b9=>?_⟩
  refine⟨Z1 8,fun p6 bT=>?_⟩
  have s6:=Qd bT (.lst [.int 1,.int 1,.int 2,.int 2,.int 2,.int 3,.int 3,.int 0])
  have aP:upd H5 p6 (.lst [.int 1,.int 1,.int 2,.int 2,.int 2,.int 3,.int 3,.int 0]) p6=some (.lst [.int 1,.int 1,.int 2,.int 2,.int 2,.int 3,.int 3,.int 0]):=Qc
  generalize upd H5 p6 (.lst [.int 1,.int 1,.int 2,.int 2,.int 2,.int 3,.int 3,.int 0])=H5p at s6 aP⊢
  obtain⟨m2,b1,cg⟩:=pick8 (a:=1) (b:=1) (c:=2) (d:=2) (e:=2) (f:=3) (g:=3) (h:=0) (z:=C)
  have b4:0<=m2/\m2<=3:=Om
  let bE:Nat->St->Hp->Prop:=fun j σ H6=>∃(v9 G I:Option V) (g:Addr) (my:Int) (D:List V) (Y:List BR),σ=[some (.ref a),some (.int n),some (.ref d),some (.ref g),some (.ref N),some (.int my),some (.int (0+(i:Int))),some (.str w),some (.int C),v9,G,I]/\H6 g=some (.lst D)/\H g=none/\g≠N/\RowsB H6 D (W++BR.work w::Y)/\H6 N=some (.lst ((u++[w]).map V.str))/\V.ref N∉D/\(∀r∈Y,OfWay w j r)/\((∀r∈Y,r.ok n)/\(∀r∈Y,r.gn)/\Ahead ([.days n]++T++W++[.work w]) Y)/\Y.Pairwise Apart/\Y.length<=23*j/\Same H H6
  refine⟨_,rfl,_,_,rfl,rfl,Z0,p6,_,_,_,rfl,rfl,Qb aP,b1,m2,rfl,Om,Om,Yh (lo:=0) (n:=m2.toNat) bE ⟨_,_,_,g,my,_,[],rfl,s6 _ _ bG,gH,gN,bz.same s6,s6 _ _ bi,bM,fun _ h=>(nomatch h),⟨fun _ h=>(nomatch h),fun _ h=>(nomatch h),True.intro⟩,.nil,xW _,s5.trans s6⟩ ?_ ?_⟩
  .rintro j σ H6 hj ⟨a2,ar,ah,g6,aE,ad,Y,rfl,ap,ao,am,Z,aj,al,hY,⟨aD,aA,au⟩,aJ,bQ,X⟩
   have cf:j<3:=Om
   have ay:=Z.length
   rw[jJ,yZ]at ay
   refine⟨_,rfl,_,rfl,_,_,rfl,rfl,mulC _ _ Dc Dc,_,_,rfl,rfl,_,rfl,_,_,rfl,rfl,mulC _ _ Dc Dc,_,_,rfl,rfl,_,rfl,_,rfl,_,rfl,_,rfl,_,_,rfl,rfl,mulC _ _ Dc Dc,_,_,rfl,rfl,_,rfl,_,_,rfl,rfl,mulC _ _ Dc Dc,_,_,rfl,rfl,_,rfl,a,ns,_,_,rfl,X.seq hS,Om,Om,Om,Om,fun v H7 hv bO s7=>?_⟩
   have bs:fl v=97+j:=by rw[hv];lia
   refine⟨_,rfl,a,d,ns,_,n,w,v,us,T,rfl,(X.trans s7).seq hS,Om,Om,n1,b3,(X.trans s7).seq hd,hT.same (X.trans s7),tT,tl,fun gr vr R H8 s8 cc aS aC hR=>?_⟩
   have an:=s7.trans s8
   have a4:=X.trans an
   have br:=an _ _ ap
   have az:=an _ _ aj
   obtain⟨L,c,U,eR,_⟩:=hR.hd
   have bc:=aC.length
   obtain⟨v0,bA⟩:∃v0,vr[0]?=some v0:=⟨_,gE (by rw[bc,eR];exact Nat.zero_lt_succ _)⟩
   obtain⟨r0,lr,bm,rfl,bb⟩:=aC.get bA
   rw[eR]at bm
   cases bm
   have a0:atI vr 0=some (.ref lr):=Kx (k:=0) bA
   have a3:atI ((BR.way w v L c).cells.map kV) 3=some (.int L):=rfl
   obtain⟨bo,bk⟩:=blk_of bs hR
   refine⟨_,rfl,_,rfl,_,_,rfl,rfl,_,rfl,gr,_,_,_,rfl,rfl,Qb aS,a0,lr,_,_,_,rfl,rfl,Qb bb,a3,_,_,rfl,rfl,_,_,rfl,rfl,_,_,rfl,rfl,_,rfl,ite2 (fun _=>?_) (fun _=>?_)⟩
   .refine⟨_,rfl,_,rfl,_,_,rfl,rfl,_,rfl,gr,_,_,_,rfl,rfl,Qb aS,a0,lr,_,_,_,rfl,rfl,Qb bb,a3,_,_,rfl,rfl,_,_,rfl,rfl,?_⟩
    have lR:=hR.len
    refine⟨_,rfl,_,rfl,g6,gr,_,_,rfl,rfl,br,aS,by rw[ay,bc];lia,fun p8 aX=>?_⟩
    have s9:=Qd aX (.lst (ad++vr))
    have b2:H p8=none:=up aX a4
    refine⟨_,_,_,p8,_,ad++vr,Y++R,rfl,Qc,b2,(Qk az aX).symm,?_,s9 _ _ az,fun h=>?_,fun r B=>?_,⟨fun r B=>?_,fun r B=>(kJ.mp B).elim (fun h=>aA r h) (fun h=>blk_gn tT aG bO hR r h),au.app (blk_ah (fun q hq=>zZ _ (zZ _ (zZ _ (yX _ hq)))) (zZ _ (yX _ jY)) hR)⟩,jYf.mpr ⟨aJ,hR.nd,fun r B q hq=>Qoh (hY r B) bs hR hq⟩,by rw[jJ];lia,a4.trans s9⟩
    .have h5:=((Z.same an).same s9).app (aC.same s9)
     rw[zJ,List.cons_append]at h5
     exact h5
    .rcases kJ.mp h with h | h
     .exact al h
     .obtain⟨r,B,hh⟩:=aC.mem h
      rw[az]at hh
      exact Qlm (Qsp hR r B) (HO.lst.inj (Y5 hh)).symm
    .rcases kJ.mp B with h | h
     .exact(hY r h).mono Om
     .exact bo r h
    .rcases kJ.mp B with h | h
     .exact aD r h
     .exact bk r h
   .exact⟨_,_,_,g6,aE,ad,Y,rfl,br,ao,am,Z.same an,az,al,fun r B=>(hY r B).mono Om,⟨aD,aA,au⟩,aJ,Om,a4⟩
  .rintro σ H6 ⟨a2,ar,ah,g6,aE,ad,Y,rfl,ap,ao,am,Z,aj,al,hY,⟨aD,aA,au⟩,aJ,bQ,X⟩
   have ay:=Z.length
   rw[jJ,yZ]at ay
   have a7:∀r∈Y,r.kind≠4/\r.kind≠10/\r.kind≠9:=fun r B=>by
    obtain⟨v,_,⟨l',c',rfl⟩ | ⟨k',t',m',rfl⟩⟩:=hY r B
    .exact⟨by show(5:Nat)≠4;decide,by show(5:Nat)≠10;decide,by show(5:Nat)≠9;decide⟩
    .have:=k'.isLt
     exact⟨by show 6+k'.val≠4;lia,by show 6+k'.val≠10;lia,by show 6+k'.val≠9;lia⟩
   have bx:BlkOk n T u w W (BR.work w::Y):=by
    refine⟨fun r B=>?_,jYe.mpr ⟨fun r B=>Zk (fun e=>(a7 r B).1 e.symm),aJ⟩,fun r B=>?_,fun r B=>?_,fun k hk=>?_,au⟩
    .rcases kZ.mp B with e | e
     .rw[e];exact True.intro
     .exact aD r e
    .rcases kZ.mp B with e | e
     .rw[e];exact⟨jY,fun x hx=>by rw[jW.mp hx];exact yX _ jY⟩
     .rw[(hY r e).own];exact⟨jY,fun x hx=>by rw[jW.mp hx];exact yX _ jY⟩
    .rcases kZ.mp B with e | e
     .rw[e];exact gn1 aG
     .exact aA r e
    .rw[jW.mp hk];exact⟨.days n,zZ _ (zZ _ jY),rfl⟩
   have bl:∀r∈BR.work w::Y,r.kind≠9:=fun r B=>by
    rcases kZ.mp B with e | e
    .rw[e];show(4:Nat)≠9;decide
    .exact(a7 r e).2.2
   have bp:∀r∈BR.work w::Y,r.kind≠10:=fun r B=>by
    rcases kZ.mp B with e | e
    .rw[e];show(4:Nat)≠10;decide
    .exact(a7 r e).2.1
   dsimp only
   refine Qic (fun ag H'=>∃(v9 G I:Option V) (g:Addr) (my:Int) (D:List V) (Y:List BR),ag=[some (.ref a),some (.int n),some (.ref d),some (.ref g),some (.ref N),some (.int my),some (.int (0+(i:Int))),some (.str w),some (.int C),v9,G,I]/\H' g=some (.lst D)/\H g=none/\g≠N/\RowsB H' D (W++Y)/\H' N=some (.lst ((u++[w]).map V.str))/\V.ref N∉D/\BlkOk n T u w W Y/\BR.work w∈Y/\(∀r∈Y,r.kind≠9)/\Y.length<=71/\Same H H') ?_ fun REST=>?_
   .rintro ag H7 ⟨v9,G,I,g7,aU,av,Y7,rfl,S,bB,ba,ae,af,aW,aV,ac,bW,aH,s7⟩
    have b0:=ae.length
    rw[jJ]at b0
    have fin:∀(v9 G I:Option V) (H8:Hp) (aq:List V) (Y8:List BR),H8 g7=some (.lst aq)->RowsB H8 aq (W++Y8)->H8 N=some (.lst ((u++[w]).map V.str))->V.ref N∉aq->BlkOk n T u w W Y8->BR.work w∈Y8->Y8.length<=72->Same H H8->∃(v6 v7 v8 a2 ar ah:Option V) (g:Addr) (my:Int) (D:List V) (W:List BR) (u:List Str),[some (V.ref a),some (V.int n),some (V.ref d),some (V.ref g7),some (V.ref N),some (V.int aU),some (V.int (0+(i:Int))),some (V.str w),some (V.int C),v9,G,I]=[some (.ref a),some (.int n),some (.ref d),some (.ref g),some (.ref N),some (.int my),v6,v7,v8,a2,ar,ah]/\H8 g=some (.lst D)/\H g=none/\g≠N/\RowsB H8 D W/\H8 N=some (.lst (u.map V.str))/\V.ref N∉D/\WkOk n T u W/\u.length=i+1/\(∀j x,u[j]?=some x->fl x=97+j)/\W.length<=73*(i+1)/\Same H H8:=by
     intro v9 G I H8 aq Y8 f1 f2 f3 f4 f5 f6 f7 f8
     refine⟨_,_,_,_,_,_,g7,aU,aq,W++Y8,u++[w],rfl,f1,bB,ba,f2,f3,f4,hW.join wn f5 f6,by rw[jJ];show u.length+1=_;lia,fun j x e=>?_,by rw[jJ];lia,f8⟩
     by_cases hj:j<u.length
     .rw[jXc hj]at e
      exact aB j x e
     .have bh:=(kX.mp e).1
      rw[jJ]at bh
      have b8:j<u.length+1:=bh
      have ej:j=u.length:=Om
      subst ej
      rw[jJf (jK _),Nat.sub_self]at e
      cases e
      rw[bv,be]
    refine⟨_,rfl,_,_,rfl,rfl,_,rfl,ite2 (fun yk=>?_) (fun _=>?_)⟩
    .have ch:0<i:=by
      have:=kK yk
      lia
     refine⟨_,rfl,_,_,rfl,rfl,⟨Dc,Dc⟩,_,_,rfl,rfl,Z0,_,_,rfl,rfl,_,rfl,ite2 (fun _=>?_) (fun _=>?_)⟩
     .have pi:(0:Int)<0+(i:Int):=Om
      have x0:=jQe (C / 48) (kKd pi)
      have x1:=wZ (C / 48) pi
      obtain⟨kx,bL⟩:∃kx:Nat,C / 48 % (0+(i:Int))=((kx:Nat):Int):=⟨(C / 48 % (0+(i:Int))).toNat,Om⟩
      have bd:kx<u.length:=Om
      obtain⟨x,ex⟩:∃x,u[kx]?=some x:=⟨_,gE bd⟩
      have hx:=aB kx x ex
      have xw:x≠w:=fun e=>by rw[e,bv]at hx;lia
      have xm:x∈u:=kW ex
      have ax:atI ((u++[w]).map V.str) (C / 48 % (0+(i:Int)))=some (.str x):=by
       rw[bL]
       exact Kx (by rw[yW,jXc bd,ex];rfl)
      refine⟨_,rfl,_,rfl,_,_,rfl,rfl,⟨Dc,Dc⟩,_,rfl,_,_,rfl,rfl,pi,N,_,_,_,rfl,rfl,Qb af,ax,_,rfl,Z1 2,fun pr aa=>?_⟩
      have s8:=Qd aa (.lst [.str x,.str w])
      have ab:upd H7 pr (.lst [.str x,.str w]) pr=some (.lst [.str x,.str w]):=Qc
      have bP:pr≠g7:=fun e=>by rw[e,S]at aa;cases aa
      have bZ:pr≠N:=fun e=>by rw[e,af]at aa;cases aa
      have bV:H pr=none:=up aa s7
      have bR:V.ref pr∉av:=fun h=>by
       obtain⟨r,_,hh⟩:=ae.mem h
       rw[aa]at hh
       cases hh
      generalize upd H7 pr (.lst [.str x,.str w])=H8 at s8 ab⊢
      have mn:∃mn:Int,(if (3:Int)<n+1 then 3 else n+1)=mn:=⟨_,rfl⟩
      obtain⟨mn,bt⟩:=mn
      have b7:1<=mn/\mn<=n+1:=by rw[<-bt];split<;>lia
      have q0:=jQe (C / 500) (show mn≠0 by lia)
      have q1:=wZ (C / 500) (show 0<mn by lia)
      refine Qjz (fun ag H'=>∃(x1 x2:Str),ag=[some (.ref a),some (.int n),some (.ref d),some (.ref g7),some (.ref N),some (.int aU),some (.int (0+(i:Int))),some (.str w),some (.int C),v9,G,some (.ref pr)]/\H' pr=some (.lst [.str x1,.str x2])/\H' g7=some (.lst av)/\RowsB H' av (W++Y7)/\H' N=some (.lst ((u++[w]).map V.str))/\Same H H'/\x1≠x2/\(w=x1\/w=x2)/\x1∈u++[w]/\x2∈u++[w]) ?_ fun ak=>?_
      .rintro ag H9 ⟨x1,x2,rfl,aL,bF,bI,bC,s9,bJ,bK,m1,m2⟩
       have aN:∀y,y∈u++[w]->NmOk y:=fun y hy=>by
        rcases kJ.mp hy with h | h
        .exact hW.gn _ (hW.wk y h) y jY
        .rw[jW.mp h];exact aG
       have aO:∀y,y∈u++[w]->Said ([.days n]++T++W++Y7) [inr ("work":Str),inr y]:=fun y hy=>by
        rcases kJ.mp hy with h | h
        .exact⟨.work y,zZ _ (yX _ (hW.wk y h)),rfl⟩
        .rw[jW.mp h];exact⟨.work w,yX _ ac,rfl⟩
       refine⟨_,rfl,.inl ⟨rfl,_,Qb bF⟩,_,rfl,pr,_,_,_,rfl,rfl,Qb aL,at0,_,rfl,pr,_,_,_,rfl,rfl,Qb aL,at1,_,rfl,_,_,rfl,rfl,⟨Dc,Dc⟩,_,rfl,_,_,rfl,rfl,_,_,rfl,?_⟩
       rw[bt]
       refine⟨_,_,rfl,rfl,(by show 0<mn;lia),Z1 4,fun l9 a5=>?_⟩
       have bX:l9≠N:=fun e=>by rw[e,bC]at a5;cases a5
       have ai:=Qd a5 (.lst [.str "after",.str x1,.str x2,.int (C / 500 % mn)])
       have aK:upd H9 l9 (.lst [.str "after",.str x1,.str x2,.int (C / 500 % mn)]) l9=some (.lst ((BR.after x1 x2 (C / 500 % mn)).cells.map kV)):=Qc
       generalize upd H9 l9 (.lst [.str "after",.str x1,.str x2,.int (C / 500 % mn)])=H10 at ai aK⊢
       have aM:=ai _ _ bF
       refine⟨g7,_,_,rfl,rfl,aM,Om,?_⟩
       have aQ:=((bI.same ai).snoc aK).updL (zs:=av++[.ref l9]) aM bI.noRow
       rw[zJ]at aQ
       refine fin _ _ _ _ _ (Y7++[BR.after x1 x2 (C / 500 % mn)]) Qc aQ (by rw[Qj ba.symm];exact ai _ _ bC) (fun h=>?_) (aV.snoc ⟨bJ,q0,Om⟩ ?_ (fun y hy=>?_) (fun r B=>Zk (bW r B)) (fun y hy=>?_) (fun y hy=>?_)) (zZ _ ac) (by rw[jJ];show Y7.length+1<=72;lia) (fun c o e=>by rw[Qj (Qk e bB)];exact(s9.trans ai) _ _ e)
       .rcases kJ.mp h with h | h
        .exact aW h
        .have h2:=jW.mp h
         injection h2 with h3
         exact bX h3.symm
       .rcases bK with e | e
        .rw[e];exact jY
        .rw[e];exact kQ _ jY
       .rcases kZ.mp hy with e | e
        .rw[e];exact m1
        .rw[jW.mp e];exact m2
       .rcases kZ.mp hy with e | e
        .rw[e];exact aN x1 m1
        .rw[jW.mp e];exact aN x2 m2
       .rcases kZ.mp hy with e | e
        .rw[e];exact aO x1 m1
        .rw[jW.mp e];exact aO x2 m2
      .have xi:x∈u++[w]:=zZ _ xm
       have wi:w∈u++[w]:=yX _ jY
       refine⟨_,rfl,_,_,rfl,rfl,⟨Dc,Dc⟩,_,_,rfl,rfl,Z0,rfl,_,rfl,ite2 (fun _=>?_) (fun _=>?_)⟩
       .refine⟨_,rfl,.inl ⟨rfl,_,Qb ab⟩,pr,_,rfl,rfl,ab,ak _ _ ⟨w,x,rfl,Qc,?_,?_,?_,fun c o e=>?_,xw.symm,.inl rfl,wi,xi⟩⟩
        .rw[Qj bP.symm];exact s8 _ _ S
        .exact(ae.same s8).imp fun l r hm z=>by rw[Qj (fun e=>bR (by rw[<-e];exact hm))];exact z
        .rw[Qj bZ.symm];exact s8 _ _ af
        .rw[Qj (Qk e bV)];exact(s7.trans s8) _ _ e
       .exact ak _ _ ⟨x,w,rfl,ab,s8 _ _ S,ae.same s8,s8 _ _ af,s7.trans s8,xw,.inr rfl,xi,wi⟩
     .exact fin _ _ _ _ _ _ S ae af aW aV ac Om s7
    .exact fin _ _ _ _ _ _ S ae af aW aV ac Om s7
   .have e0:=jQe (C / 24) (show(n+1)≠0 by lia)
    have e1:=wZ (C / 24) (show 0<n+1 by lia)
    have c0:=jQe (C / 400) (show(999:Int)≠0 by decide)
    have c1:=wZ (C / 400) (show(0:Int)<999 by decide)
    refine⟨_,rfl,_,_,rfl,rfl,⟨Dc,Dc⟩,_,_,rfl,rfl,Z0,rfl,_,rfl,ite2 (fun _=>?_) (fun _=>?_)⟩
    .refine⟨_,rfl,.inl ⟨rfl,_,Qb ap⟩,_,rfl,_,rfl,_,_,rfl,rfl,⟨Dc,Dc⟩,_,rfl,_,_,rfl,rfl,_,_,rfl,rfl,(by show 0<n+1;lia),_,rfl,_,_,rfl,rfl,⟨Dc,Dc⟩,_,_,rfl,rfl,Z0,_,_,rfl,rfl,Z1 4,fun l7 aH=>?_⟩
     have bN:l7≠N:=fun e=>by rw[e,aj]at aH;cases aH
     have s7:=Qd aH (.lst [.str "late",.str w,.int (C / 24 % (n+1)),.int (1+C / 400 % 999)])
     have aR:upd H6 l7 (.lst [.str "late",.str w,.int (C / 24 % (n+1)),.int (1+C / 400 % 999)]) l7=some (.lst ((BR.late w (C / 24 % (n+1)) (1+C / 400 % 999)).cells.map kV)):=Qc
     generalize upd H6 l7 (.lst [.str "late",.str w,.int (C / 24 % (n+1)),.int (1+C / 400 % 999)])=H7 at s7 aR⊢
     have S:=s7 _ _ ap
     refine⟨g6,_,_,rfl,rfl,S,Om,REST _ _ ⟨_,_,_,g6,aE,_,BR.work w::Y++[BR.late w (C / 24 % (n+1)) (1+C / 400 % 999)],rfl,Qc,ao,am,?_,?_,fun h=>?_,bx.snoc ⟨e0,Om,Om,Om⟩ jY (fun x hx=>?_) (fun r B=>Zk (bp r B)) (gn1 aG) (fun k hk=>by rw[jW.mp hk];exact⟨.work w,yX _ jY,rfl⟩),zZ _ jY,fun r B=>?_,?_,fun c o e=>?_⟩⟩
     .have h5:=((Z.same s7).snoc aR).updL (zs:=ad++[.ref l7]) S Z.noRow
      rw[zJ]at h5
      exact h5
     .rw[Qj am.symm];exact s7 _ _ aj
     .rcases kJ.mp h with h | h
      .exact al h
      .have h2:=jW.mp h
       injection h2 with h3
       exact bN h3.symm
     .rw[jW.mp hx];exact yX _ jY
     .rcases kJ.mp B with h | h
      .exact bl r h
      .rw[jW.mp h];show(10:Nat)≠9;decide
     .rw[jJ,yZ];show Y.length+1+1<=71;lia
     .rw[Qj (Qk e ao)];exact(X.trans s7) _ _ e
    .exact REST _ _ ⟨_,_,_,g6,aE,ad,BR.work w::Y,rfl,ap,ao,am,Z,aj,al,bx,jY,bl,by rw[yZ];lia,X⟩
 .rintro σ H1 ⟨v6,v7,v8,v9,G,I,g,my,D,W,u,rfl,aY,gH,gN,aw,bH,a8,hW,be,aB,bf,aI⟩
  exact⟨_,rfl,q g D u W H1 aI gH aY aw hW Om Om⟩
abbrev Qsq:Stmt:=top 38
theorem Qbh{r:BR}(h:Thing r):r.own=[]:=by cases h<;>rfl
theorem Qln{r:BR}(h:Thing r):r.kind≠0:=by
 cases h with
 |bench b r=>show(1:Nat)≠0;decide
 |shut b f t=>show(2:Nat)≠0;decide
 |store b m f=>show(3:Nat)≠0;decide
theorem Qwv{T W:List BR}(d:ThOk n T)(c:WkOk n T nm W)(j:T.length<=11)(k:W.length<=370)(h:nm.length<=5):WB n (.days n::(T++W)):=by
 refine⟨fun r b=>?_,jYe.mpr ⟨fun r b=>?_,jYf.mpr ⟨d.nd,c.nd,fun r b q i=>?_⟩⟩,fun r b w a=>?_,?_,nm,h,fun r b w a=>?_⟩
 .rcases kZ.mp b with e | e
  .rw[e];rfl
  .rcases kJ.mp e with e | e
   .exact d.ok r e
   .exact c.ok r e
 .rcases kJ.mp b with e | e
  .exact Zk (fun z=>Qln (d.th r e) z.symm)
  .refine .inr (.inr fun z=>?_)
   cases f:r.own with
   |nil=>exact(c.own r e).1 f
   |cons w ws=>
    have g:w∈(BR.days n).own:=Qib z (by rw[f];exact jY)
    exact nomatch g
 .refine .inr (.inr fun z=>?_)
  cases f:q.own with
  |nil=>exact(c.own q i).1 f
  |cons w ws=>
   have g:w∈r.own:=Qib z (by rw[f];exact jY)
   rw[Qbh (d.th r b)]at g
   exact nomatch g
 .rcases kZ.mp b with e | e
  .rw[e]at a;exact nomatch a
  .rcases kJ.mp e with e | e
   .rw[Qbh (d.th r e)]at a;exact nomatch a
   .exact kQ _ (yX _ (c.wk w ((c.own r e).2 w a)))
 .rw[yZ,jJ];lia
 .rcases kZ.mp b with e | e
  .rw[e]at a;exact nomatch a
  .rcases kJ.mp e with e | e
   .rw[Qbh (d.th r e)]at a;exact nomatch a
   .exact(c.own r e).2 w a
theorem ah_at:∀{X S:List BR} {i:Nat} {r:BR},Ahead S X->X[i]?=some r->∀k∈r.needs,Said (S++X.take i) k
 |x::X,S,0,r,h,e=>by
  cases e
  rw[yXb,xX]
  exact h.1
 |x::X,S,i+1,r,h,e=>by
  have a:=ah_at h.2 (show X[i]?=some r from e)
  rw[zJ]at a
  exact a
 |[],_,_,_,_,e=>nomatch e
structure BookOk(n:Int)(B:List BR):Prop where
 n1:1<=n
 n12:n<=12
 wb:WB n B
 hd:B[0]?=some (.days n)
 gn:∀r∈B,r.gn
theorem Qww{α:Type}(B:List α)(k:Nat)(r:α):(B.take k++[r]++B.drop k).Perm (r::B):=by
 have h:=List.perm_middle (a:=r) (l₁:=B.take k) (l₂:=B.drop k)
 rw[yQd]at h
 rwa [zJ]
def Quv(K:Fg):Sp:=fun vs H Q _=>∃(a:Addr) (ns:List Int),vs=[.ref a]/\SqL K H a (ns.map V.int) /\
 ∀(g:Addr) (vs:List V) (n:Int) (B:List BR) (H':Hp),Same H H'->H' g=some (.lst vs)->RowsB H' vs B->BookOk n B->Q (.ref g) H'
theorem scBook:FnScope ["_law_script","_law_days","_law_things_here","_law_rows","_law_mixed_here","_law_k","_law_row"] ["_law_script"] (Qh Qsq):=Sc
theorem okBook(F:Fn K mg "_law_book" Qsq)(M:Mg mg)(b:Cal P w K mg base 2 "_law_mixed" ["_law_script","_law_k"] (Kw K))(d:Cal P w K mg base 4 "_law_things" ["_law_script","_law_days"] (Qjv K))(u:Cal P w K mg base 4 "_law_works" ["_law_script","_law_days","_law_things_here"] (Qoj K))(J:Cal P w K mg base 1 "_law_put" ["_law_rows","_law_row","_law_number"] (spPut K)):Cal P w K mg base 5 "_law_book" ["_law_script"] (Quv K):=by
 refine Xt F scBook (fun _ _ _ _ _ _=>bind1 (fun _=>rfl)) (fun vs H Q E h=>?_) (fun f aJ A av s H vs Q E R h=>?_)
 .obtain⟨a,ns,rfl,_⟩:=h
  rfl
 obtain⟨a,ns,rfl,hS,q⟩:=h
 refine⟨_,(Qg (Z4 1 scBook.nd (Ql Xc Qe (Ql Xf (Xj b (R.mono Dc) (Qa (pv 0) (Qa Qe Qf))) Qe)))
  (Qg (Z4 2 scBook.nd (Xj d (R.mono Dc) (Qa (pv 0) (Qa (pv 1) Qf))))
  (Qg (Z4 3 scBook.nd (Xd (Qa (Xd (Qa Qq (Qa (pv 1) Qf))) Qf)))
  (Qg (Z4 4 scBook.nd (Kb Yq (Ql Xf (Xj b (R.mono Dc) (Qa (pv 0) (Qa Qe Qf))) Qe) Qe (Qs _)))
  (Qg (Ye Y33 rfl (Qns true rfl M.enumerate_ (Qa (Ql Kc (pv 2) (Xj u (R.mono Dc) (Qa (pv 0) (Qa (pv 1) (Qa (pv 2) Qf))))) Qf)) (Qas (K:=K) (i:=5) (j:=6) rfl rfl scBook.nd rfl rfl rfl rfl) (Qi (Xy (Jk (pv 4)) (Qi (Z4 3 scBook.nd (Xj J (R.mono Dc) (Qa (pv 3) (Qa (pv 6) (Qa (Xj b (R.mono Dc) (Qa (pv 0) (Qa (Ql Xc Qe (pv 5)) Qf))) Qf)))))) (Qi (Z4 3 scBook.nd (Ql Kc (pv 3) (Xd (Qa (pv 6) Qf))))))))
  (Qi (Xb (pv 3)))))))),?_⟩
 refine Qsg ?_
 intro aH ay aE aB aC
 have hz:=X0 20000
 refine⟨_,rfl,a,ns,0,rfl,hS,Dc,Dc,fun z z0 z1=>?_⟩
 refine⟨_,_,rfl,rfl,Z0,_,_,rfl,rfl,?_⟩
 dsimp only
 generalize hn:1+z % 12=n
 have n1:1<=n/\n<=12:=Om
 refine⟨_,rfl,_,rfl,a,ns,n,rfl,hS,n1.1,n1.2,fun gt S T H1 s1 aI ak ac tT tl=>?_⟩
 refine⟨_,rfl,Z1 2,fun l hl=>?_⟩
 have s2:=s1.trans (Qd hl (.lst [.str "days",.int n]))
 have ag:=Qd hl (.lst [.str "days",.int n])
 have an:upd H1 l (.lst [.str "days",.int n]) l=some (.lst ((BR.days n).cells.map kV)):=Qc
 generalize upd H1 l (.lst [.str "days",.int n])=H2 at s2 ag an⊢
 refine⟨Z1 1,fun g0 aw=>?_⟩
 have D:=Qd aw (.lst [.ref l])
 have s3:=s2.trans D
 have v:=ag.trans D
 have ap:upd H2 g0 (.lst [.ref l]) g0=some (.lst [.ref l]):=Qc
 have al:RowsB (upd H2 g0 (.lst [.ref l])) [.ref l] [.days n]:=RowsB.snoc (vs:=[]) (B:=[]) .nil (D _ _ an)
 generalize upd H2 g0 (.lst [.ref l])=H3 at D s3 v ap al⊢
 refine⟨_,rfl,a,ns,3,rfl,s3.seq hS,Dc,Dc,fun y y0 y1=>?_⟩
 refine⟨_,_,rfl,rfl,Z0,rfl,?_⟩
 generalize decide (V.int (y % 2)=V.int 1)=bb
 refine⟨_,rfl,_,rfl,_,rfl,_,rfl,a,gt,ns,n,S,T,rfl,s3.seq hS,n1.1,n1.2,Qb (v _ _ ak),ac.same v,tT,tl,fun gw vw nm W H4 s4 az aq af hW wl nl=>?_⟩
 have aA:=ac.length
 have aF:=af.length
 refine⟨gt,gw,_,_,rfl,rfl,s4 _ _ (v _ _ ak),aq,Om,fun p hp=>?_⟩
 have t:=Qd hp (.lst (S++vw))
 have X:upd H4 p (.lst (S++vw)) p=some (.lst (S++vw)):=Qc
 have ab:RowsB (upd H4 p (.lst (S++vw))) (S++vw) (T++W):=((ac.same (v.trans s4)).same t).app (af.same t)
 have s5:=(s3.trans s4).trans t
 have ao:=(s4.trans t) _ _ ap
 have am:=al.same (s4.trans t)
 generalize upd H4 p (.lst (S++vw))=H5 at t X ab s5 ao am⊢
 have lx:=ab.length
 let aj:Nat->St->Hp->Prop:=fun i σ O=>∃(v5 v6:Option V) (g:Addr) (vs:List V) (B:List BR),σ=[some (.ref a),some (.int n),some (.ref gt),some (.ref g),some (.bl bb),v5,v6]/\O g=some (.lst vs)/\RowsB O vs B/\B.Perm (BR.days n::(T++W).take i)/\(B[0]?=some (.days n)/\Ahead [] B)/\Same H5 O
 refine⟨p,rfl,⟨_,Qb X⟩,Qjn (K:=K) (m:=true) (a:=p) (xs:=S++vw) aj ⟨none,none,g0,_,[.days n],rfl,ao,am,.refl _,⟨rfl,fun _ h=>(nomatch h),True.intro⟩,Same.refl _⟩ (fun i σ O _ h=>?_) ?_ ?_⟩
 .obtain⟨v5,v6,g,vs,B,rfl,I,C,c,o,s6⟩:=h
  exact s6.seq (Qb X)
 .rintro i x σ O T' e1 ⟨v5,v6,g,vs,B,rfl,I,C,c,⟨o,Y⟩,s6⟩ au
  obtain⟨r,lr,er,rfl,ar⟩:=ab.get e1
  have hi:=(kX.mp er).1
  rw[jJ]at hi
  have lB:B.length=i+1:=by
   rw[c.length_eq,yZ,xJ,jJ]
   lia
  have aK:=C.length
  have N:=Qd au (.tup [.int ((i:Nat):Int),.ref lr])
  refine⟨T',_,rfl,Qz Qc,rfl,_,_,rfl,_,_,rfl,rfl,?_⟩
  generalize upd O T' (.tup [.int ((i:Nat):Int),.ref lr])=H7 at N⊢
  have G:=s6.trans N
  have aa:=G _ _ ar
  have ae:=N _ _ I
  have L:=C.same N
  have ai:∀k∈r.needs,Said B k:=fun k hk=>(ah_at (tT.ah.app hW.ah) er k hk).mono fun q hq=>c.mem_iff.mpr hq
  have tk:(T++W).take (i+1)=(T++W).take i++[r]:=Ka er
  have fin:∀{B':List BR},B'.Perm (r::B)->B'.Perm (BR.days n::(T++W).take (i+1)):=fun h=>by
   rw[tk]
   refine h.trans ((List.Perm.cons r c).trans ?_)
   refine(List.Perm.swap _ _ _).trans (.cons _ ?_)
   have h5:=List.perm_append_comm (l₁:=[r]) (l₂:=(T++W).take i)
   exact h5
  refine⟨_,rfl,_,rfl,ite2 (fun _=>?_) (fun _=>?_)⟩
  .refine⟨_,rfl,_,rfl,_,rfl,_,rfl,_,_,rfl,rfl,a,ns,_,rfl,(s5.trans G).seq hS,Om,Om,fun y' aD aG=>?_⟩
   refine⟨g,lr,_,vs,B,r,rfl,ae,L,Om,Om,aa,fun g8 k H8 k1 k2 hh s8 aL Z=>?_⟩
   refine⟨_,_,g8,_,B.take k++[r]++B.drop k,rfl,Z,(((L.same s8).take k).snoc (s8 _ _ aa)).app ((L.same s8).drop k),fin (Qww B k r),⟨?_,Ahead.ins (by rw[yQd];exact Y) fun κ ad=>Qso o k1 hh ad (ai κ ad)⟩,G.trans s8⟩
   rw[zJ,jXc (by rw[xJ];lia),List.getElem?_take]
   rw[Y22 Om]
   exact o
  .refine⟨_,rfl,_,rfl,Z1 1,fun p9 ax=>?_⟩
   have s9:=Qd ax (.lst [.ref lr])
   refine⟨g,p9,_,_,rfl,rfl,s9 _ _ ae,Qc,by show vs.length+1<=_;lia,fun g8 Z=>?_⟩
   have U:=s9.trans (Qd Z (.lst (vs++[.ref lr])))
   refine⟨_,_,g8,_,B++[r],rfl,Qc,(L.same U).snoc (U _ _ aa),fin (List.perm_append_comm (l₁:=B) (l₂:=[r])),⟨?_,Y.app (Ahead.one (by rw[kKf];exact ai))⟩,G.trans U⟩
   rw[jXc Om]
   exact o
 .rintro σ O ⟨v5,v6,g,vs,B,rfl,I,C,c,⟨o,Y⟩,s6⟩
  rw[lx,yV]at c
  refine⟨_,rfl,q g vs n B O (s5.trans s6) I C ⟨n1.1,n1.2,(Qwv tT hW tl wl nl).perm c.symm,o,fun r R=>?_⟩⟩
  rcases kZ.mp (c.mem_iff.mp R)with e | e
  .rw[e];exact fun _ h=>nomatch h
  .rcases kJ.mp e with e | e
   .exact tT.gn r e
   .exact hW.gn r e
abbrev Qsr:Stmt:=top 39
abbrev Qbi:Stmt:=top 41
theorem Jv(a:X.K=K):SlR X (rSlL K):=by subst a;exact Jj
def Zs(w:Str):BR->Bool
 |.way w' _ _ _=>decide (w'=w)
 |_=>false
theorem Qss{w:Str}{r:BR}(h:r.word≠"way"):Zs w r=false:=by
 cases r with
 |way w' v l c=>exact Y21 rfl h
 |_=>rfl
theorem filter_next{α:Type}{B:List α}{r:α}(p:α->Bool)(h:B[i]?=some r):(B.take (i+1)).filter p=(B.take i).filter p++(if p r=true then[r]else[]):=by
 rw[Ka h,jKa]
 by_cases c:p r=true
 .rw[Y22 c,jQd c,List.filter_nil]
 .rw[Y20 c,wX c,List.filter_nil]
def Qok(_:Fg):Sp:=fun vs H Q _=>∃(d:Addr) (w:Str) (us:List V) (B:List BR),vs=[.ref d,.str w]/\H d=some (.lst us)/\RowsB H us B/\B.length<=1000 /\
 ∀(D:Addr) (ys:List V) (H':Hp),Same H H'->H D=none->H' D=some (.lst ys)->RowsB H' ys (B.filter (Zs w))->Q (.ref D) H'
def lenOf(w v:Str):BR->Option Int
 |.way w' v' l _=>if w'=w/\v'=v then some l else none
 |_=>none
def cut3(ks:List Key):cutV (ks.map kV) none (some 3)=(ks.take 3).map kV:=by
 unfold cutV
 rw[HT.sIx_none,jZc,kYe,jX,show(3:Int)=((3:Nat):Int)from rfl,HT.sIx_nat,<-kQc]
 by_cases h:3<=ks.length
 .rw[wK h]
 .rw[kZa Om,yV,wQ Om]
theorem way3{r:BR}{w:Str}:r.cells.take 3=[inr ("way":Str),inr w,inr v]↔∃l c,r=.way w v l c:=by
 constructor
 .intro h
  have i:r.word="way":=by
   have b:(r.cells.take 3).head?=some (inr ("way":Str)):=by rw[h];rfl
   have a:(r.cells.take 3).head?=some (inr r.word):=by cases r<;>rfl
   rw[a]at b
   exact Y37 (Y5 b)
  obtain⟨f,g,l,c,rfl⟩:=Qec i
  have k:[(inr ("way":Str):Key),inr f,inr g]=[inr ("way":Str),inr w,inr v]:=h
  injection k with _ a
  injection a with e j
  injection j with d
  cases e
  cases d
  exact⟨l,c,rfl⟩
 .rintro⟨l,c,rfl⟩
  rfl
theorem lenOf_some{w:Str}{r:BR}{x:Int}:lenOf w v r=some x↔∃c,r=.way w v x c:=by
 constructor
 .intro h
  cases r with
  |way w' v' l c=>
   have a:(if w'=w/\v'=v then some l else none)=some x:=h
   by_cases e:w'=w/\v'=v
   .rw[Y22 e]at a
    cases a
    rw[e.1,e.2]
    exact⟨c,rfl⟩
   .rw[Y20 e]at a;cases a
  |_=>cases h
 .rintro⟨c,rfl⟩
  exact Y22 ⟨rfl,rfl⟩
theorem Jn{α β:Type}{B:List α}{r:α}(p:α->Option β)(h:B[i]?=some r):(B.take (i+1)).filterMap p=(B.take i).filterMap p++(p r).toList:=by
 rw[Ka h,List.filterMap_append]
 congr 1
theorem Vr{g:Addr}{o:HO}(s:Same H0 H)(h:H0 g=none):Same H0 (upd H g o):=fun b u e=>by
 rw[Qj (Qk e h)];exact s _ _ e
theorem Qcd{α:Type}{f:BR->Option α}(R:Hp->V->α->Prop)(q:∀{H H' v x},Same H H'->R H v x->R H' v x)(u:∀{H g ys zs v x},H g=some (.lst ys)->R H v x->R (upd H g (.lst zs)) v x)
    {D:Addr} {us:List V} {B:List BR}    {Q:Addr->Hp->Prop} (p:τ0=none::cs) (m:H d=some (.lst us)) (s:RowsB H us B) (I:B.length<=1000) (w:H D=none)
  (E:∀(r:BR) (lr:Addr) (H1:Hp),r∈B->Same H H1->H1 lr=some (.lst (r.cells.map kV))->∀(P1:V->Hp->Prop) (P2:Hp->Prop),(∀v H2 x,f r=some x->Same H1 H2->R H2 v x->P1 v H2)->(f r=none->∀H2,Same H1 H2->P2 H2) ->
   tt (some (.ref lr)::cs) H1 fun ok H3=>if ok=true then te (some (.ref lr)::cs) H3 P1 else P2 H3)
  (C:∀ys H1,Same H H1->H1 D=some (.lst ys)->Paired (R H1) ys (B.filterMap f)->Q D H1) :
  LcW (Itl K d) D τ0 H (Vi 0) tt te Q:=by
 subst p
 have G:=s.length
 have J:=X0 20000
 let l:Nat->St->List V->Hp->Prop:=fun i j ys H1=>∃v:Option V,j=v::cs/\Paired (R H1) ys ((B.take i).filterMap f)/\ys.length<=i/\H1 D=some (.lst ys)/\Same H H1
 refine Ze (n:=B.length) l ?_ (fun i j ys H1 t h=>?_) (fun i j ys H1 t h=>?_) (fun j ys H1 h=>?_) ?_ ?_
 .exact⟨none,rfl,.nil,jK _,Qc,Qd w _⟩
 .obtain⟨v,rfl,hR,k,b,a⟩:=h
  exact⟨b,Om⟩
 .obtain⟨v,rfl,hR,k,b,a⟩:=h
  exact⟨us,_,Qb (a _ _ m),gE Om⟩
 .obtain⟨v,rfl,hR,k,b,a⟩:=h
  exact⟨us,Qb (a _ _ m),Om⟩
 .rintro i j ys H1 x H2 t ⟨v,rfl,hR,k,b,a⟩ ⟨rfl,y⟩
  obtain⟨r,lr,o,rfl,A⟩:=(s.same a).get (y _ (Qb (a _ _ m)))
  refine E r lr _ (kW o) a A _ _ (fun v H3 x e c F=>⟨c _ _ b,_,rfl,?_,by rw[jJ];exact jQb k,Qc,Vr (a.trans c) w⟩) (fun e H3 c=>⟨_,rfl,?_,Om,c _ _ b,a.trans c⟩)
  .rw[Jn f o,e]
   exact Paired.snoc (Paired.mapP hR fun _ _ z=>u (c _ _ b) (q c z)) (u (c _ _ b) F)
  .rw[Jn f o,e,Option.toList_none,xX]
   exact Paired.mapP hR fun _ _ z=>q c z
 .rintro j ys H1 ⟨v,rfl,hR,k,b,a⟩
  rw[yV]at hR
  exact C ys H1 a b hR
theorem Je:∀{ys:List V} {xs:List Str},Paired (fun v x=>v=V.str x) ys xs->ys=xs.map V.str
 |_,_,.nil=>rfl
 |_,_,.cons e t=>by rw[e,Je t,zX]
theorem Va:∀{ys:List V} {xs:List Int},Paired (fun v x=>v=V.int x) ys xs->ys=xs.map V.int
 |_,_,.nil=>rfl
 |_,_,.cons e t=>by rw[e,Va t,zX]
theorem WB.uniq{B:List BR}(h:WB n B){r q:BR}(k:r∈B)(m:q∈B)(b:r.key=q.key)(d:r.word≠"shut"):r=q:=by
 obtain⟨i,e⟩:=wJ.mp k
 obtain⟨j,f⟩:=wJ.mp m
 have a:q.word≠"shut":=by
  have l:((inr r.word:Key)::r.names.map inr)=inr q.word::q.names.map inr:=b
  injection l with g
  rw[<-Y37 g];exact d
 rcases Nat.lt_trichotomy i j with c | c | c
 .rcases Qga h.nd c e f with z | z | z
  .exact Y21 z d
  .exact Y21 z a
  .exact Y21 b z
 .subst c
  exact Y5 (e.symm.trans f)
 .rcases Qga h.nd c f e with z | z | z
  .exact Y21 z a
  .exact Y21 z d
  .exact Y21 b.symm z
theorem WB.way1{B:List BR}(h:WB n B){w:Str}{l l' c':Int}(b:.way w v l c∈B)(a:.way w v l' c'∈B):l=l'/\c=c':=by
 have:=h.uniq b a rfl (Sn "way" "shut")
 cases this
 exact⟨rfl,rfl⟩
def Qef(_:Fg):Sp:=fun vs H Q _=>∃(d:Addr) (w v:Str) (n:Int) (us:List V) (B:List BR) (l c:Int),vs=[.ref d,.str w,.str v]/\H d=some (.lst us)/\RowsB H us B/\WB n B/\.way w v l c∈B/\∀(H':Hp),Same H H'->Q (.int l) H'
theorem scWays:FnScope ["_law_book_here","_law_work"] ["_law_book_here","_law_work"] (Qh Qsr):=Sc
theorem okWays(F:Fn K mg "_law_ways" Qsr)(M:Mg mg):Cal P w K mg base 1 "_law_ways" ["_law_book_here","_law_work"] (Qok K):=by
 refine Xt F scWays (fun _ _ _ _ _ _=>Jt (fun _ _=>rfl)) (fun Z H Q E h=>?_) (fun f aa A J s H Z Q E t h=>?_)
 .obtain⟨d,w,S,B,rfl,_⟩:=h
  rfl
 obtain⟨d,w,S,B,rfl,I,U,bl,q⟩:=h
 refine⟨_,(Qi (Xb (Yu ["_law_row","_law_work"] [none,some 1] rfl (Qx (pv 0)) (fun _ _ _=>(Z3 0 (show(["_law_row","_law_work"]:List Str).Nodup by decide +kernel))) (fun _ _ _=>(Zw (PW.pt (Zq (Qm Yq (Qr (Yf (K:=K) rfl) (pv 0) Qe) Qq (Qs _)) (Zb (Qm Yq (Qr (Yf (K:=K) rfl) (pv 0) Qe) (pv 1) (Qs _))))))) (fun _ _ _=>(pv 0))))),?_⟩
 have hz:=X0 20000
 have lu:=U.length
 refine⟨_,rfl,d,rfl,⟨_,Qb I⟩,fun D L=>?_⟩
 let n:Nat->St->List V->Hp->Prop:=fun m p a k=>∃v:Option V,p=[v,some (.str w)]/\RowsB k a ((B.take m).filter (Zs w))/\a.length<=m/\k D=some (.lst a)/\Same H k
 refine Z5 S (show _=B.length from Om) n ?_ (fun m p a k hm h=>?_) ?_ ?_
 .exact⟨none,rfl,.nil,jK _,Qc,Qd L _⟩
 .obtain⟨v,rfl,j,z,i,g⟩:=h
  exact⟨⟨i,Om⟩,g.seq (Qb I)⟩
 .rintro m p a k x G hm ⟨v,rfl,j,z,i,g⟩ ⟨rfl,Y⟩
  obtain⟨r,u,T,rfl,t⟩:=(U.same g).get (Y _ (g.seq (Qb I)))
  have O:Zs w r=false->∃v:Option V,([some (.ref u),some (.str w)]:St)=[v,some (.str w)]/\RowsB G a ((B.take (m+1)).filter (Zs w))/\a.length<=m+1/\G D=some (.lst a)/\Same H G:=fun h=>by
   refine⟨_,rfl,?_,Om,i,g⟩
   rw[filter_next (Zs w) T,h,Y20 Dc,xX]
   exact j
  refine⟨_,rfl,u,_,_,_,rfl,rfl,Qb t,Yp r,rfl,_,rfl,ite2 (fun y=>?_) (fun y=>iteF (O (Qss fun e=>y (by rw[e];exact yesS _))))⟩
  obtain⟨N,W,X,R,rfl⟩:=Qec (eqS y)
  refine⟨_,rfl,u,_,_,_,rfl,rfl,Qb t,(show atI ((BR.way N W X R).cells.map kV) 1=some (.str N)from rfl),_,rfl,rfl,_,rfl,ite2 (fun C=>?_) (fun C=>O ?_)⟩
  .have ew:=eqS C
   refine⟨_,rfl,i,_,rfl,?_,by rw[jJ];exact jQb z,Qc,fun b o e=>?_⟩
   .rw[filter_next (Zs w) T,show Zs w (.way N W X R)=true from yJ ew,Y22 rfl]
    exact(j.snoc t).updL i j.noRow
   .rw[Qj (Qk e L)];exact g _ _ e
  .exact xV fun e=>C (by rw[e];exact yesS _)
 .rintro p a k ⟨v,rfl,j,z,i,g⟩
  rw[yV]at j
  exact q D a k g L i j
theorem Qst:FnScope ["_law_book_here","_law_work","_law_way_here"] ["_law_book_here","_law_work","_law_way_here"] (Qh Qbi):=Sc
theorem Qsu(F:Fn K mg "_law_length" Qbi)(M:Mg mg):Cal P w K mg base 1 "_law_length" ["_law_book_here","_law_work","_law_way_here"] (Qef K):=by
 refine Xt F Qst (fun _ _ _ _ _ _=>Ww (fun _ _ _=>rfl)) (fun vs H Q E h=>?_) (fun f aa A C s H vs Q E j h=>?_)
 .obtain⟨d,w,v,n,us,B,l,c,rfl,_⟩:=h
  rfl
 obtain⟨d,w,v,n,us,B,l,c,rfl,T,S,V,g,q⟩:=h
 have G:=Z6 6 j.un
 refine⟨_,(Qi (Xb (Qr Qn (Yu ["_law_row","_law_work","_law_way_here"] [none,some 1,some 2] rfl (Qx (pv 0)) (fun _ _ _=>(Z3 0 (show(["_law_row","_law_work","_law_way_here"]:List Str).Nodup by decide +kernel))) (fun _ _ _=>(Zw (Qm (Qjo (K:=K) (n:=6) rfl G) (Xi (Jv (K:=K) rfl) (pv 0) Yi (Xn Qe)) (Xd (Qa Qq (Qa (pv 1) (Qa (pv 2) Qf)))) (Qs _)))) (fun _ _ _=>(Qr (Yf (K:=K) rfl) (pv 0) Qe))) Qe))),?_⟩
 have hz:=X0 20000
 have lu:=S.length
 have bl:=V.len
 refine⟨_,rfl,d,rfl,⟨_,Qb T⟩,fun D hD=>Qcd (f:=lenOf w v) (fun _ v x=>v=.int x) (fun _ e=>e) (fun _ e=>e) rfl T S Om hD (fun r O X hm U j P1 P2 k1 k2=>?_) (fun ys X U Z hi=>?_)⟩
 .refine⟨_,rfl,_,rfl,O,_,rfl,Qb j,fun p hp=>?_⟩
  rw[cut3]
  have s2:=Qd hp (.lst ((r.cells.take 3).map kV))
  refine⟨_,rfl,_,rfl,Z1 3,fun p2 z=>?_⟩
  have L:=Qd z (.lst [.str "way",.str w,.str v])
  have i:=s2.trans L
  refine⟨p,p2,r.cells.take 3,[inr ("way":Str),inr w,inr v],rfl,rfl,Qb (L _ _ Qc),Qb Qc,fun b R=>⟨_,rfl,ite2 (fun y=>?_) (fun y=>k2 ?_ _ i)⟩⟩
  .obtain⟨J,o,rfl⟩:=way3.mp (R.mp y)
   exact⟨_,rfl,O,_,_,_,rfl,rfl,Qb (i _ _ j),(show atI ((BR.way w v J o).cells.map kV) 3=some (.int J)from rfl),k1 _ _ J (lenOf_some.mpr ⟨o,rfl⟩) i rfl⟩
  .cases e:lenOf w v r with
   |none=>rfl
   |some x=>
    obtain⟨o,Y⟩:=lenOf_some.mp e
    exact Y21 (R.mpr (way3.mpr ⟨x,o,Y⟩)) y
 .have N:=Va hi
  have I:∀x∈B.filterMap (lenOf w v),x=l:=fun x I=>by
   obtain⟨r,j,e⟩:=xQ.mp I
   obtain⟨o,rfl⟩:=lenOf_some.mp e
   exact(V.way1 j g).1
  have t:l∈B.filterMap (lenOf w v):=xQ.mpr ⟨_,g,lenOf_some.mpr ⟨c,rfl⟩⟩
  obtain⟨u,m,W⟩:∃u m,B.filterMap (lenOf w v)=u::m:=by
   cases e:B.filterMap (lenOf w v)with
   |nil=>rw[e]at t;exact nomatch t
   |cons a b=>exact⟨a,b,rfl⟩
  have ex:u=l:=I u (by rw[W];exact jY)
  rw[W,ex]at N
  refine⟨D,_,_,_,rfl,rfl,Qb Z,?_,q X U⟩
  rw[N]
  exact Kx (k:=0) rfl
abbrev Qol:Stmt:=top 42
def Kh(k:Fin 3)(w v t:Str):BR->Option Int
 |.use k' w' v' t' m=>if k'=k/\w'=w/\v'=v/\t'=t then some m else none
 |_=>none
def Yx(B:List BR)(k:Fin 3)(w v t:Str):Int:=(B.filterMap (Kh k w v t)).sum
def cut4(ks:List Key):cutV (ks.map kV) none (some 4)=(ks.take 4).map kV:=by
 unfold cutV
 rw[HT.sIx_none,jZc,kYe,jX,show(4:Int)=((4:Nat):Int)from rfl,HT.sIx_nat,<-kQc]
 by_cases h:4<=ks.length
 .rw[wK h]
 .rw[kZa Om,yV,wQ Om]
theorem Qka{r:BR}{k:Fin 3}(h:r.word=useW k):∃w v t m,r=.use k w v t m:=by
 have a:r.kind=6+k.val:=by
  have e:useW k=wordOf (6+k.val):=by match k with | 0=>rfl | 1=>rfl | 2=>rfl
  exact(Xq r (by have:=k.isLt;lia)).mp (h.trans e)
 cases r with
 |use k' w v t m=>
  have e:6+k'.val=6+k.val:=a
  have i:k'=k:=Fin.ext Om
  subst i
  exact⟨w,v,t,m,rfl⟩
 |days n=>exact Y21 (show(0:Nat)=6+k.val from a) Om
 |bench b r=>exact Y21 (show(1:Nat)=6+k.val from a) Om
 |shut b f t=>exact Y21 (show(2:Nat)=6+k.val from a) Om
 |store b m f=>exact Y21 (show(3:Nat)=6+k.val from a) Om
 |work w=>exact Y21 (show(4:Nat)=6+k.val from a) Om
 |way w v l c=>exact Y21 (show(5:Nat)=6+k.val from a) Om
 |after w x g=>exact Y21 (show(9:Nat)=6+k.val from a) (by have:=k.isLt;lia)
 |late w d c=>exact Y21 (show(10:Nat)=6+k.val from a) (by have:=k.isLt;lia)
theorem use4{r:BR}{k:Fin 3}{w t:Str}:r.cells.take 4=[inr (useW k),inr w,inr v,inr t]↔∃m,r=.use k w v t m:=by
 constructor
 .intro h
  have l:r.word=useW k:=by
   have b:(r.cells.take 4).head?=some (inr (useW k)):=by rw[h];rfl
   have a:(r.cells.take 4).head?=some (inr r.word):=by cases r<;>rfl
   rw[a]at b
   exact Y37 (Y5 b)
  obtain⟨f,j,c,m,rfl⟩:=Qka l
  have o:[(inr (useW k):Key),inr f,inr j,inr c]=[inr (useW k),inr w,inr v,inr t]:=h
  injection o with _ a
  injection a with e n
  injection n with d g
  injection g with i
  cases e
  cases d
  cases i
  exact⟨m,rfl⟩
 .rintro⟨m,rfl⟩
  rfl
theorem manyOf_some{k:Fin 3}{w t:Str}{r:BR}{x:Int}:Kh k w v t r=some x↔r=.use k w v t x:=by
 constructor
 .intro h
  cases r with
  |use k' w' v' t' m=>
   have a:(if k'=k/\w'=w/\v'=v/\t'=t then some m else none)=some x:=h
   by_cases e:k'=k/\w'=w/\v'=v/\t'=t
   .rw[Y22 e]at a
    cases a
    obtain⟨rfl,rfl,rfl,rfl⟩:=e
    rfl
   .rw[Y20 e]at a;cases a
  |_=>cases h
 .rintro rfl
  exact Y22 ⟨rfl,rfl,rfl,rfl⟩
def Quw(_:Fg):Sp:=fun vs H Q _=>∃(d:Addr) (k:Fin 3) (w v t:Str) (us:List V) (B:List BR),vs=[.ref d,.str (useW k),.str w,.str v,.str t]/\H d=some (.lst us)/\RowsB H us B/\B.length<=1000/\∀(H':Hp),Same H H'->Q (.int (Yx B k w v t)) H'
theorem scMany:FnScope ["_law_book_here","_law_word","_law_work","_law_way_here","_law_thing"] ["_law_book_here","_law_word","_law_work","_law_way_here","_law_thing"] (Qh Qol):=Sc
theorem okMany(F:Fn K mg "_law_many" Qol)(M:Mg mg):Cal P w K mg base 1 "_law_many" ["_law_book_here","_law_word","_law_work","_law_way_here","_law_thing"] (Quw K):=by
 refine Xt F scMany (fun _ _ _ _ _ _=>bind5 (fun _ _ _ _ _=>rfl)) (fun N H Q E h=>?_) (fun f S A j s H N Q E c h=>?_)
 .obtain⟨d,k,w,v,t,T,B,rfl,_⟩:=h
  rfl
 obtain⟨d,k,w,v,t,T,B,rfl,I,C,U,q⟩:=h
 have l:=Z6 6 c.un
 refine⟨_,(Qi (Xb (Qt (Vm rfl) rfl M.sum Qji (Qa (Yu ["_law_row","_law_word","_law_work","_law_way_here","_law_thing"] [none,some 1,some 2,some 3,some 4] rfl (Qx (pv 0)) (fun _ _ _=>(Z3 0 (show(["_law_row","_law_word","_law_work","_law_way_here","_law_thing"]:List Str).Nodup by decide +kernel))) (fun _ _ _=>(Zw (Qm (Qjo (K:=K) (n:=6) rfl l) (Xi (Jv (K:=K) rfl) (pv 0) Yi (Xn Qe)) (Xd (Qa (pv 1) (Qa (pv 2) (Qa (pv 3) (Qa (pv 4) Qf))))) (Qs _)))) (fun _ _ _=>(Qr (Yf (K:=K) rfl) (pv 0) Qe))) Qf)))),?_⟩
 have hz:=X0 20000
 have lu:=C.length
 refine⟨_,rfl,d,rfl,⟨_,Qb I⟩,fun D Z=>Qcd (f:=Kh k w v t) (fun _ v x=>v=.int x) (fun _ e=>e) (fun _ e=>e) rfl I C U Z (fun r z L hm J c P1 P2 R W=>?_) (fun ys L J u O=>?_)⟩
 .refine⟨_,rfl,_,rfl,z,_,rfl,Qb c,fun p X=>?_⟩
  rw[cut4]
  have V:=Qd X (.lst ((r.cells.take 4).map kV))
  refine⟨_,rfl,_,rfl,_,rfl,_,rfl,Z1 4,fun Y i=>?_⟩
  have o:=Qd i (.lst [.str (useW k),.str w,.str v,.str t])
  have a:=V.trans o
  refine⟨p,Y,r.cells.take 4,[inr (useW k),inr w,inr v,inr t],rfl,rfl,Qb (o _ _ Qc),Qb Qc,fun b G=>⟨_,rfl,ite2 (fun y=>?_) (fun y=>?_)⟩⟩
  .obtain⟨g,rfl⟩:=use4.mp (G.mp y)
   exact⟨_,rfl,z,_,_,_,rfl,rfl,Qb (a _ _ c),(show atI ((BR.use k w v t g).cells.map kV) 4=some (.int g)from rfl),R _ _ g (manyOf_some.mpr rfl) a rfl⟩
  .refine W ?_ _ a
   cases e:Kh k w v t r with
   |none=>rfl
   |some x=>exact Y21 (G.mpr (use4.mpr ⟨x,manyOf_some.mp e⟩)) y
 .rw[Va O]at u
  exact⟨D,_,rfl,Qb u,q L J⟩
end
end Nb
variable{r:Nb.BR}{B B':List Nb.BR}
namespace L2
open PySem PySem.Spec PyProof.Rows
theorem Qbj:isSubtype (.type "range_iterator") (.type "reversed")=pure false:=by rw[isSubtype_type];kernel_rfl
def Qeg(n:Int):Obj:={ cls:=.type "range_iterator",data:=.fields #[rawInt (0+(n-1)*1),rawInt n,rawInt (-1)] }
section
variable{w:World}
theorem Qom(a:0<=n):Builtin.Range.rangeSize 0 n 1=n:=by
 rw[rangeSize_one]
 split<;>lia
theorem Vb{r:Addr}{t u v:Tok}{Q:VP}(b:s.heap.get? r=some { cls:=.type "range",data:=.fields #[.int 0 t,.int n u,.int 1 v] })(c:0<=n)(e:n<1000000)
  (h:Q (.ref s.heap.objs.size) { s with heap:=s.heap.push (Qeg n) }):wpAny (model prog w) A (call (.builtin "range.__reversed__") [.ref r]) Q E s:=by
 refine Y25 F.slot_range_reversed ⟨_,b,rfl⟩ F.entry_range_reversed ?_ (F.args_range_reversed_1 _)
 unfold Builtin.«range.__reversed__»
 refine jQ (Y32 (a:=Value.ref r) rfl ?_)
 refine jQ ?_
 unfold Builtin.Range.rangeFields
 refine jQ (Y23 b rfl (x:=.int 0 t) rfl ?_)
 refine jQ (Y32 (a:=some 0) rfl ?_)
 refine jQ (Y23 b rfl (x:=.int n u) rfl ?_)
 refine jQ (Y32 (a:=some n) rfl ?_)
 refine jQ (Y23 b rfl (x:=.int 1 v) rfl ?_)
 refine jQ (Y32 (a:=some 1) rfl ?_)
 refine jV ?_
 have d:(Builtin.Range.rangeFitsLong 0&&Builtin.Range.rangeFitsLong n&&Builtin.Range.rangeFitsLong 1&&Builtin.Range.rangeFitsLong (-1)&&Builtin.Range.rangeFitsLong (0-1)&&Builtin.Range.rangeFitsLong (Builtin.Range.rangeSize 0 n 1))=true:=by
  rw[Qom c]
  simp only[Builtin.Range.rangeFitsLong,wV,decide_eq_true_eq]
  lia
 dsimp only
 rw[d,Qom c]
 rw[Y20 Dc,Y22 rfl]
 unfold newFields
 exact jQ (Y26 (jV ⟨_,rfl,h⟩))
theorem Vc{r:Addr}{t u v:Tok}(b:s.heap.get? r=some { cls:=.type "range",data:=.fields #[.int 0 t,.int n u,.int 1 v] })(c:0<=n)(d:n<1000000)
  (h:Q₁ (.ref s.heap.objs.size) { s with heap:=s.heap.push (Qeg n) }) :
  codeAny (model prog w) A (.call (.builtin "reversed.__new__") ⟨[.type "reversed",.ref r],[]⟩) (wants Q₁ E) s:=by
 refine codeAny_of_tree ?_
 show wpAny _ A.in1 (do checkBuiltinCall "reversed.__new__" ⟨[.type "reversed",.ref r],[]⟩;again (.builtin "reversed.__new__" ⟨[.type "reversed",.ref r],[]⟩)) _ _ s
 refine jQ (Y32 (F.newCall_reversed_1 _) (jV ⟨jJc F.plain_reversed_new _,Y28 F.entry_reversed_new ?_⟩))
 rw[Y35 F.plain_reversed_new _]
 unfold Builtin.«reversed.__new__»
 refine jQ (Y32 (newClass_reversed _) ?_)
 try dsimp only
 refine jQ (Y32 (a:=()) (by first | rfl | kernel_rfl) ?_)
 refine jQ (Y32 (a:=()) (by first | rfl | kernel_rfl) ?_)
 try dsimp only
 refine jQ (Y64 (T:="range") ⟨_,b,rfl⟩ F.slot_range_reversed.lookup ?_)
 try dsimp only
 refine jQ (Y32 (F.slot_range_reversed.bind _) ?_)
 try dsimp only
 first
 |rw[Y20 (show ¬((Value.builtin "range.__reversed__" == Value.none)=true)from yQ)]
 |(show wpAny _ _ (if (Value.builtin "range.__reversed__" == Value.none)=true then _ else _) _ _ _;rw[Y20 (show ¬((Value.builtin "range.__reversed__" == Value.none)=true)from yQ)])
 refine jQ (Y58 ?_)
 refine jQ (m:=runValue (.call (.builtin "range.__reversed__") ⟨[.ref r],[]⟩)) (show wpAny _ _ (call (.builtin "range.__reversed__") [.ref r]) _ _ _ from Vb b c d ?_)
 first
 |exact jV h
 |exact jQ (jV (jV h))
theorem Vd{r:Addr}{t u v:Tok}{Q:VP}(c:s.heap.get? r=some { cls:=.type "range",data:=.fields #[.int 0 t,.int n u,.int 1 v] })(e:0<=n)(d:n<1000000)
  (h:Q (.ref s.heap.objs.size) { s with heap:=s.heap.push (Qeg n) }):wpAny (model prog w) A (call (.type "reversed") [.ref r]) Q E s:=by
 refine callType_other (U:="range_iterator") (Q₁:=fun b a=>b=.ref s.heap.objs.size/\a={ s with heap:=s.heap.push (Qeg n) }) Dk F.create_reversed ⟨_,_,F.mro_reversed⟩ F.made_reversed Qbj (F.typeCall_reversed_1 _) (Vc c e d ⟨rfl,rfl⟩) ?_
 rintro b a ⟨rfl,rfl⟩
 exact⟨⟨_,yY _ rfl,rfl⟩,h⟩
end
def iRevR(ta:TA):TI:=fun σ H R=>ta σ H fun vs H1=>∃(p:Addr) (n:Nat),vs=[.ref p]/\H1 p=some (.rng 0 ((n:Nat):Int))/\n<1000000/\R (Itr3 (((n:Nat):Int)-1) (-1) n) H1
theorem Qwx{a:Expr}{p:Pos}(K:Gl X "reversed")(D:X.mg "reversed"=none)(J:PA X [a] ta)(G:autoParam (starEach [a] X.env=[(false,eval a X.env)]) J1._auto_1) :
  PI X tg (.Call (.Name "reversed" p) [a] [] pos) (iRevR ta):=by
 intro d s k H R I h
 refine Call_ (Vg I K D Qho (Y38 (thn (J pos d s k H _ I h) fun M c i=>?_) G rfl))
 obtain⟨L,j,f,F,z⟩:=i
 obtain⟨l,n,e,C,N,q⟩:=z
 subst e
 obtain⟨u,rfl,r⟩:=F.one
 cases r
 obtain⟨t,u,v,A⟩:=(show ObjOk X.prog X.w j c.heap l (.rng 0 ((n:Nat):Int))from f.hok l _ C)
 refine Vd A Om Om ?_
 have g:(c.heap.push (Qeg ((n:Nat):Int))).get? c.heap.objs.size=some (Qeg ((n:Nat):Int)):=yY _ rfl
 have m:IsRangeIter (c.heap.push (Qeg ((n:Nat):Int))) c.heap.objs.size ((((n:Nat):Int)-1)+((0:Nat):Int)*(-1)) (((n:Nat):Int)-((0:Nat):Int)) (-1):=by
  have y:(((n:Nat):Int)-1)+((0:Nat):Int)*(-1)=0+(((n:Nat):Int)-1)*1:=Om
  have x:((n:Nat):Int)-((0:Nat):Int)=((n:Nat):Int):=Om
  rw[y,x]
  exact g
 refine wpAny_pyIter_rangeiter (s:={ c with heap:=c.heap.push (Qeg ((n:Nat):Int)) }) m ?_
 have B:Inv X d k j { c with heap:=c.heap.push (Qeg ((n:Nat):Int)) }:=f.kept (t':=c.toks) fun b o e=>jZ _ e
 refine⟨c.heap.objs.size,[c.heap.objs.size],_,_,j,rfl,B,Qht _ (((n:Nat):Int)-1) (-1) n,m,fun b E=>?_,q⟩
 have e:b=c.heap.objs.size:=by simpa using E
 subst e
 exact f.fpOk (jK _) (f.hok.fresh (jK _))
theorem is_kV{w:World}{k:Key}(h:(Xg P w).is k u=true):RelV (kV k) u:=by
 rw[Qkr]at h
 rcases Yc h with⟨i,t,rfl,rfl⟩ | ⟨x,t,rfl,rfl⟩
 .exact⟨t,rfl⟩
 .exact⟨t,rfl⟩
section
variable{kvs:List (Key×V)}
def NF(X:Cx)(d:Addr):Prop:=∀o u,X.H₀ d≠some (.frz o u)
theorem Inv.nf(I:Inv X pins σ H s)(e:H d=some (.dK kvs)):NF X d:=fun o u z=>by
 have:=I.base.frzs d o u z
 rw[e]at this
 cases this
theorem Inv.freeze(I:Inv X pins σ H s)(e:H d=some (.dK kvs)):∃o,s.heap.get? d=some o/\Inv X pins σ (upd H d (.frz o (.dK kvs))) s:=by
 obtain⟨z,g,f,b,c⟩:=Ky I.hok e
 obtain⟨o,i,j,a,h⟩:=id c
 exact⟨o,a,Kg (t':=s.toks) I (by rw[e];exact True.intro) (Heap.SameBut.refl _ _) ⟨o,a⟩ ⟨a,z,g,f,b,c⟩⟩
theorem Inv.thaw(I:Inv X pins σ H s)(nf:NF X d)(e:H d=some (.frz o (.dK kvs))):Inv X pins σ (upd H d (.dK kvs)) s:=by
 have g:∀b,H b=none->b≠d:=fun b n z=>by rw[z,e]at n;cases n
 have ok:ObjOk X.prog X.w H s.heap d (.frz o (.dK kvs)):=I.hok d _ e
 obtain⟨_,z,E,l,h,B⟩:=ok
 refine⟨I.ok,I.os,I.bare,⟨I.base.keep,I.base.slot,fun b q C n v=>?_,I.base.there,fun b j q=>?_,fun b y u q=>?_,fun b ps q=>?_⟩,I.loc,I.cell,?_,fun x c q=>?_,fun p t=>?_,fun b u q=>?_,I.len⟩
 .have f:=I.base.free b q C n v
  rw[Qj (g b f)];exact f
 .have a:=I.base.tups b j q
  rw[Qj (Yl a e (by intro z;cases z))];exact a
 .have a:=I.base.frzs b y u q
  rw[Qj (fun z=>by subst z;exact nf _ _ q)];exact a
 .obtain⟨m,a⟩:=I.base.tbls b ps q
  exact⟨m,by rw[Qj (Yl a e (by intro z;cases z))];exact a⟩
 .rw[Qj (g _ I.free)];exact I.free
 .have f:=I.freeC x c q
  rw[Qj (g _ f)];exact f
 .obtain⟨A,k,D⟩:=I.pin p t
  exact⟨A,by rw[Qj (g _ k)];exact k,D⟩
 .by_cases i:b=d
  .subst i
   rw[Qc]at q
   cases q
   exact⟨z,E,l,h,B⟩
  .rw[Qj i]at q
   exact(I.hok b u q).stay (fun _ _ _ r=>r) (fun c r=>by rw[Qj (Yl r e (by intro z;cases z))];exact r) fun c j r=>by rw[Qj (Yl r e (by intro z;cases z))];exact r
end
def Itd(d:Addr)(o:Obj)(kvs:List (Key×V)):It :=
  ⟨fun i H=>H d=some (.frz o (.dK kvs))/\i<kvs.length,
   fun i H v H'=>∃T k x,v=.ref T/\H T=none/\H'=upd H T (.tup [kV k,x])/\kvs[i]?=some (k,x),
   fun i H=>H d=some (.frz o (.dK kvs))/\kvs.length<=i⟩
def dTn(it d:Addr)(o:Obj)(n i:Nat)(h:Heap):Prop:=∃es ep ok ov,o.data=.dict es ep/\IsItemIter h it d i n ep ok ov
theorem Qct{w:World}{h:Heap}{kvs:List (Key×V)}{es:Array DictEntry}(ok:HOk P w H h)(e:H d=some (.frz o (.dK kvs)))(g:o.data=.dict es ep):∃vs,KV kvs vs/\h.DictAt (Xg P w) d vs ep:=by
 obtain⟨f,z,m,vs,a,n,l,j,b,i,c,k⟩:=(show ObjOk P w H h d (.frz o (.dK kvs))from ok d _ e)
 rw[f]at b
 cases b
 rw[g]at c
 cases c
 exact⟨vs,a,o,es,f,i,g,k⟩
theorem Qlo{w:World}{kvs:List (Key×V)} :
  Turn P w K (.Tuple es kk tp) (Itd d o kvs) [it] it (dTn it d o kvs.length) where
 mem:=by simp
 obj:=fun i h l c a=>by
  obtain⟨_,_,ok,u,_,f⟩:=l
  simp only[kZ,jQa,or_false]at a
  subst a
  exact⟨_,f,fun v z=>by cases z⟩
 keep:=fun i h h' l k=>by
  obtain⟨p,e2,ok,u,m,f⟩:=l
  exact⟨p,e2,ok,u,m,k it (by simp) _ f⟩
 item:=by
  intro X O F Q a i g s G H E I y l S
  subst O F Q
  obtain⟨M,Y⟩:=S
  obtain⟨p,T,ok,u,m,f⟩:=l
  obtain⟨vs,j,L⟩:=Qct I.hok M m
  have r:=j.length
  obtain⟨B,ek⟩:∃B,kvs[i]?=some B:=⟨_,gE Y⟩
  obtain⟨k,x⟩:=B
  obtain⟨⟨k',v⟩,ev,e4,rv⟩:=Qv j ek
  have R:k=k':=e4
  subst R
  rw[r]at f
  refine wpAny_pyNext_items_item f L ev fun key h' hk Z a2 a3 a4=>⟨_,rfl,?_⟩
  obtain⟨A,J,f2,D,C,N⟩:=y it (by simp)
  have n:it<s.heap.objs.size:=yK f
  have I1:Inv X g G (upd H s.heap.objs.size (.tup [kV k,x])) { s with heap:=h' }:=I.tupNew (ch:=[it]) (its:=[key,v]) (jK _) (.cons (is_kV hk) (.cons rv .nil)) (Z1 2) a2 y (fun c q a e=>a4 c q (by simpa using a) e) (fun c a=>by
   simp only[kZ,jQa,or_false]at a
   subst a
   exact⟨_,Z⟩)
  refine wpAny_letOwnedTupleGo_items (s:={ s with heap:=h' }) Z fun U g1 g2=>?_
  have I2:Inv X g G (upd H s.heap.objs.size (.tup [kV k,x])) { s with heap:=U }:=I1.turned (h':=U) (t':=s.toks) (fun c q a z=>g2.extBut c q a z) (by rw[Qj (zW n)];exact A) J D C N
  refine⟨.ref s.heap.objs.size,_,I2,rfl,⟨_,k,x,rfl,I.hok.fresh (jK _),rfl,ek⟩,⟨p,T,_,_,m,by rw[r];exact g1⟩,fun c a=>?_⟩
  simp only[kZ,jQa,or_false]at a
  subst a
  rw[Qj (zW n)]
  exact A
 done:=by
  intro X O F Q a i g s G H E I y l S
  subst O F Q
  obtain⟨M,Y⟩:=S
  obtain⟨p,T,ok,u,m,f⟩:=l
  obtain⟨vs,j,L⟩:=Qct I.hok M m
  have r:=j.length
  rw[r]at f
  obtain⟨A,J,f2,D,C,N⟩:=y it (by simp)
  exact wpAny_pyNext_items_end (I.ok.hd a) f L (kXd.mpr Om) fun h' eb=>⟨rfl,I.turned (t':=s.toks) (fun b o hb z=>eb b o hb z) A J D C N⟩
 self:=fun _ _ _ _ _ l h=>by
  obtain⟨_,_,_,_,_,f⟩:=l
  exact PySem.W.kcp_self f h
def iItems(F:Addr->Prop)(td:TE):TI:=fun σ H R=>td σ H fun v H1=>∃d kvs,v=.ref d/\H1 d=some (.dK kvs)/\(F d->∀o,R (Itd d o kvs) (upd H1 d (.frz o (.dK kvs))))
theorem Qsv{a:Expr}(ha:PE X a td)(k:autoParam (attributeBase a "items" X.env (eval a X.env)=eval a X.env) J1._auto_1)(j:autoParam ((apos.endLine == cpos.line)=true) J1._auto_1) :
  PI X (.Tuple es kk tp) (.Call (.Attribute a "items" apos) [] [] cpos) (iItems (NF X) td):=by
 intro g s r H R I h
 refine wpAny_Call_method0_late k j (thn (ha g s r H _ I h) fun v f y=>?_)
 obtain⟨x,M,p,Z,S⟩:=y
 obtain⟨d,i,e,n,q⟩:=S
 subst e
 obtain rfl:v=Value.ref d:=Z
 obtain⟨L,t2,V⟩:=Qjl p (.inl ⟨i,.inl n⟩)
 refine⟨"dict","dict.items",PySem.F.plainAttrs_dict,PySem.F.slot_dict_items,PySem.F.type_dict_items,L,t2,Y39 rfl (PySem.evalArgs_none ?_)⟩
 have nf:=p.nf n
 obtain⟨o,P,U⟩:=p.freeze n
 obtain⟨z,aa,T,O,D⟩:=Ky p.hok n
 obtain⟨o',A,C,B,h2,E,h4⟩:=id D
 rw[P]at B
 cases B
 refine Y50 PySem.F.slot_dict_items L PySem.F.entry_dict_items (PySem.F.args_dict_items_1 _) (meets_dict_items (Xg X.prog X.w) d V) ⟨⟨T,D⟩,?_⟩
 have N:(f.heap.push { cls:=.type "dict_items",data:=.fields #[.ref d] }).objs.size=f.heap.objs.size+1:=jZb ..
 have K:(f.heap.push { cls:=.type "dict_items",data:=.fields #[.ref d] }).get? f.heap.objs.size=some { cls:=.type "dict_items",data:=.fields #[.ref d] }:=yY _ rfl
 have G:∀b o,f.heap.get? b=some o->(f.heap.push { cls:=.type "dict_items",data:=.fields #[.ref d] }).get? b=some o:=fun b o z=>jZ _ z
 generalize f.heap.push { cls:=.type "dict_items",data:=.fields #[.ref d] }=h' at N K G
 have m:Inv X g r (upd M d (.frz o (.dK i))) { f with heap:=h' }:=U.kept (t':=f.toks) G
 obtain⟨u,l,Q⟩:=Qct m.hok Qc E
 have W:=l.length
 refine wpAny_pyIter_items (s:={ f with heap:=h' }) ⟨_,K,rfl,rfl⟩ Q ?_
 have Y:Inv X g r (upd M d (.frz o (.dK i))) { f with heap:=h'.push { cls:=.type "dict_itemiterator",data:=.fields #[.none,.bool false,.ref d,.int 0 0,.int u.length 0,.int C 0,.none,.none] } }:=m.kept (t':=f.toks) fun b o z=>jZ _ z
 refine⟨h'.objs.size,[h'.objs.size],_,Itd d o i,_,rfl,Y,Qlo,⟨A,C,.none,.none,E,?_⟩,fun c J=>?_,q nf o⟩
 .rw[W]
  exact yY _ rfl
 .simp only[kZ,jQa,or_false]at J
  subst J
  exact m.fpOk (jK _) (m.hok.fresh (jK _))
def Thw(F:Addr->Prop)(D:Ends):Ends where
 nx:=fun σ H=>∃d o kvs,F d/\H d=some (.frz o (.dK kvs))/\D.nx σ (upd H d (.dK kvs))
 rt:=fun v H=>∃d o kvs,F d/\H d=some (.frz o (.dK kvs))/\D.rt v (upd H d (.dK kvs))
 bk:=fun σ H=>∃d o kvs,F d/\H d=some (.frz o (.dK kvs))/\D.bk σ (upd H d (.dK kvs))
 ct:=fun σ H=>∃d o kvs,F d/\H d=some (.frz o (.dK kvs))/\D.ct σ (upd H d (.dK kvs))
def tThw(F:Addr->Prop)(t:TS):TS:=fun D σ H=>t (Thw F D) σ H
theorem Qon{t:TS}(h:PS X st t):PS X st (tThw (NF X) t):=by
 intro g s k H D I q
 refine thn (h g s k H _ I q) fun f l p=>?_
 cases f with
 |next=>obtain⟨a,i,b,d,o,c,nf,e,r⟩:=p;exact⟨a,_,b.thaw nf e,r⟩
 |brk=>obtain⟨a,i,b,d,o,c,nf,e,r⟩:=p;exact⟨a,_,b.thaw nf e,r⟩
 |cont=>obtain⟨a,i,b,d,o,c,nf,e,r⟩:=p;exact⟨a,_,b.thaw nf e,r⟩
 |ret u=>obtain⟨v,a,i,b,j,d,o,c,nf,e,r⟩:=p;exact⟨v,a,_,b.thaw nf e,j,r⟩
theorem Qoo{kvs:List (Key×V)}(a:Nat->St->Hp->Prop)(r:a 0 σ H)(s:∀i σ H,i<=kvs.length->a i σ H->H d=some (.frz o (.dK kvs)))
  (h:∀i k x σ H T,kvs[i]?=some (k,x)->a i σ H->H T=none->g (.ref T) σ (upd H T (.tup [kV k,x])) fun σ2 H2=>tb { D with nx:=a (i+1),ct:=a (i+1),bk:=D.nx } σ2 H2) (t:∀σ H,a kvs.length σ H->D.nx σ H) :
  ∃W:Nat->Nat->St->Hp->Prop,(∃m,W 0 m σ H)/\∀i n σ H,W i n σ H ->
   ((Itd d o kvs).stop i H/\D.nx σ H)\/((Itd d o kvs).go i H/\∃N:St->Hp->Prop,(∀σ' H',N σ' H'->∃m',m'<n/\W (i+1) m' σ' H')/\∀x H',(Itd d o kvs).yld i H x H'->g x σ H' fun σ2 H2=>tb { D with nx:=N,ct:=N,bk:=D.nx } σ2 H2):=by
 refine⟨fun i n σ H=>n=kvs.length-i/\i<=kvs.length/\a i σ H,⟨_,rfl,xW _,r⟩,?_⟩
 rintro i n σ H ⟨rfl,l,p⟩
 have c:=s i σ H l p
 by_cases b:i<kvs.length
 .refine .inr ⟨⟨c,b⟩,a (i+1),fun σ' H' f=>⟨kvs.length-(i+1),Om,rfl,b,f⟩,fun x H' y=>?_⟩
  obtain⟨T,k,u,rfl,j,rfl,q⟩:=y
  exact h i k u σ H T q p j
 .have e:i=kvs.length:=Om
  subst e
  exact .inl ⟨⟨c,jK _⟩,t σ H p⟩
end L2
namespace Nb
open PySem L2
abbrev Qlp:Stmt:=top 40
def Ki:BR->Option Str
 |.work w=>some w
 |_=>none
def wks(B:List BR):List Str:=B.filterMap Ki
theorem Qbk(h:r.word≠"work"):Ki r=none:=by
 cases r with
 |work w=>exact Y21 rfl h
 |_=>rfl
theorem wks_mem:w∈wks B↔BR.work w∈B:=by
 unfold wks
 rw[xQ]
 constructor
 .rintro⟨r,a,e⟩
  cases r with
  |work w'=>cases e;exact a
  |_=>cases e
 .exact fun h=>⟨_,h,rfl⟩
theorem Qop(h:WB n B):(wks B).Nodup:=by
 unfold wks List.Nodup
 rw[List.pairwise_filterMap]
 refine h.nd.imp fun{r q} a w hw w' hw' e=>?_
 cases r with
 |work x=>
  cases hw
  cases q with
  |work y=>
   cases hw'
   subst e
   rcases a with z | z | z
   .exact Y21 z (Sn "work" "shut")
   .exact Y21 z (Sn "work" "shut")
   .exact z rfl
  |_=>cases hw'
 |_=>cases hw
theorem PlanAt.same(h:PlanAt K H d pl)(s:Same H H'):PlanAt K H' d pl:=by
 obtain⟨a,c,b⟩:=h
 exact⟨a,s _ _ c,Paired.mapP b fun _ _ ⟨e,t,e2,z⟩=>⟨e,t,e2,s.tup z⟩⟩
theorem Qkb{P t:Addr}{kvs kvs':List (Key×V)}(a:H P=some (.dK kvs))(h:SqT K H t xs):SqT K (upd H P (.dK kvs')) t xs:=by
 rcases h with(h | ⟨p,h⟩) | h
 .exact .inl (.inl (by rw[Qj (Yl h a (by intro z;cases z))];exact h))
 .exact .inl (.inr ⟨p,by rw[Qj (Yl h a (by intro z;cases z))];exact h⟩)
 .exact .inr h
def hasW(B:List BR)(w:Str):Bool:=!(B.filter (Zs w)).isEmpty
theorem Qwy{yw:List V}(l:yw.length=(B.filter (Zs w)).length):hasW B w=!yw.isEmpty:=by
 unfold hasW
 generalize B.filter (Zs w)=L at l⊢
 cases yw with
 |nil=>cases L with
  |nil=>rfl
  |cons a b=>exact nomatch l
 |cons c d=>cases L with
  |nil=>exact nomatch l
  |cons a b=>rfl
theorem hasW_iff:hasW B w=true↔∃v l c,BR.way w v l c∈B:=by
 unfold hasW
 constructor
 .intro h
  cases e:B.filter (Zs w)with
  |nil=>rw[e]at h;cases h
  |cons r L=>
   have d:r∈B.filter (Zs w):=by rw[e];exact jY
   obtain⟨f,a⟩:=xY.mp d
   cases r with
   |way w' v l c=>
    have g:w'=w:=kK a
    subst g
    exact⟨v,l,c,f⟩
   |_=>cases a
 .rintro⟨v,l,c,h⟩
  have b:BR.way w v l c∈B.filter (Zs w):=xY.mpr ⟨h,yJ rfl⟩
  cases e:B.filter (Zs w)with
  |nil=>rw[e]at b;exact nomatch b
  |cons r L=>rfl
structure PlanFor(n:Int)(B:List BR)(pl:Z7):Prop where
 keys:(pl.map (·.1)).Perm ((wks B).filter (hasW B))
 good:∀p∈pl,∃l c,BR.way p.1 p.2.1 l c∈B/\0<=p.2.2/\p.2.2+l<=n
theorem Kj{kvs:List (Key×V)}(h:Paired (fun(p:Key×V) (q:Str×Str×Int)=>p.1=inr q.1/\∃t,p.2=.ref t/\SqT K H t [.str q.2.1,.int q.2.2]) kvs pl):kvs.map (·.1)=(pl.map (·.1)).map inr:=by
 induction h with
 |nil=>rfl
 |cons z _ ih=>rw[zX,zX,zX,ih,z.1]
theorem Qsw{κ:Type}[DecidableEq κ]{kvs:List (κ×V)}{k:κ}(h:k∉kvs.map (·.1)):valV kvs k=none:=by
 cases e:valV kvs k with
 |none=>rfl
 |some v=>exact Y21 (Qwe e) h
def Qux(K:Fg):Sp:=fun vs H Q _=>∃(a d:Addr) (ns:List Int) (st n:Int) (us:List V) (B:List BR),vs=[.ref a,.int st,.ref d]/\SqL K H a (ns.map V.int)/\0<=st/\st<=1000/\H d=some (.lst us)/\RowsB H us B/\BookOk n B /\
 ∀(P:Addr) (pl:Z7) (H':Hp),Same H H'->H P=none->PlanAt K H' P pl->PlanFor n B pl->Q (.ref P) H'
section
variable{w:World}
theorem scPlan:FnScope ["_law_script","_law_start","_law_book_here","_law_found","_law_works_here","_law_k","_law_ways_here","_law_number","_law_way_here"] ["_law_script","_law_start","_law_book_here"] (Qh Qlp):=Sc
theorem okPlan(F:Fn K mg "_law_plan" Qlp)(M:Mg mg)(I:Cal P w K mg base 2 "_law_mixed" ["_law_script","_law_k"] (Kw K))(N:Cal P w K mg base 1 "_law_ways" ["_law_book_here","_law_work"] (Qok K)):Cal P w K mg base 3 "_law_plan" ["_law_script","_law_start","_law_book_here"] (Qux K):=by
 refine Xt F scPlan (fun _ _ _ _ _ _=>Ww (fun _ _ _=>rfl)) (fun vs H Q E h=>?_) (fun f aK A av s H vs Q E R h=>?_)
 .obtain⟨a,d,ns,st,n,us,B,rfl,_⟩:=h
  rfl
 obtain⟨a,d,ns,st,n,us,B,rfl,hS,aB,aF,hd,hB,bk,q⟩:=h
 have au:=Z6 6 R.un
 have hu:=Z6 1 R.un
 refine⟨_,(Qg (Z4 3 scPlan.nd Qrr)
  (Qg (Qaq (i:=4) ["_law_row"] [none] rfl scPlan.nd rfl (inl rfl) (Qx (pv 2)) (fun _ _ _=>(Z3 0 Z2)) (fun _ _ _=>(Zw (Qm Yq (Qr (Yf (K:=K) rfl) (pv 0) Qe) Qq (Qs _)))) (fun _ _ _=>(Qr (Yf (K:=K) rfl) (pv 0) Qe)))
  (Qg (Ye Y33 rfl (Qwx rfl M.reversed_ (Qa (Qrn M.range_ (Qa (Qt Qu rfl M.len Ys (Qa (pv 4) Qf)) Qf)) Qf)) (Z3 5 scPlan.nd) (Qg (Z4 6 scPlan.nd (Xj N (R.mono Dc) (Qa (pv 2) (Qa (Qr Qn (pv 4) (pv 5)) Qf))))
  (Qi (Xy (Qm (Qrt (K:=K) (n:=6) rfl au) (pv 6) (Xd Qf) (Qs _)) (Qg (Z4 7 scPlan.nd (Xj I (R.mono Dc) (Qa (pv 0) (Qa (Ql Xc (pv 1) (pv 5)) Qf))))
  (Qg (Z4 8 scPlan.nd (Qr Qn (pv 6) (Ql Xf (pv 7) (Qt Qu rfl M.len Ys (Qa (pv 6) Qf)))))
  (Qi (Qwd hu (pv 3) (Qr Qn (pv 4) (pv 5)) (Yy (Qa (Qr Qn (pv 8) Qe) (Qa (Ql Xf (Ql Xu (pv 7) Qe) (Ql Xc (Ql Qfd (Qr Qn (Qr Qn (pv 2) Qe) Qe) (Qr Qn (pv 8) Qe)) Qe)) Qf))) rfl)))) Xa))))
  (Qi (Xb (pv 3)))))),?_⟩
 refine Ju ?_
 intro aI aE aG
 have hz:=X0 20000
 have lu:=hB.length
 have bl:=bk.wb.len
 intro P hP
 have s0:=Qd hP (.dK [])
 have ai:upd H P (.dK []) P=some (.dK []):=Qc
 generalize upd H P (.dK [])=H0 at s0 ai⊢
 refine⟨_,rfl,d,rfl,⟨_,Qb (s0 _ _ hd)⟩,fun D hD=>Qcd (f:=Ki) (fun _ v x=>v=.str x) (fun _ e=>e) (fun _ e=>e) rfl (s0 _ _ hd) (hB.same s0) Om hD (fun r lr H1 hm s1 R P1 P2 k1 k2=>?_) (fun ys H1 s1 hE hi=>?_)⟩
 .refine⟨_,rfl,lr,_,_,_,rfl,rfl,Qb R,Yp r,rfl,_,rfl,ite2 (fun y=>?_) (fun y=>k2 (Qbk fun e=>y (by rw[e];exact yesS _)) _ (Same.refl _))⟩
  obtain⟨w,rfl⟩:=Vq (eqS y)
  exact⟨_,rfl,lr,_,_,_,rfl,rfl,Qb R,(show atI ((BR.work w).cells.map kV) 1=some (.str w)from rfl),k1 _ _ w rfl (Same.refl _) rfl⟩
 .have ey:=Je hi
  have hL:H1 D=some (.lst ((wks B).map V.str)):=by rw[hE,ey];rfl
  have ax:=s0.trans s1
  have aL:H D=none:=by
   cases e5:H D with
   |none=>rfl
   |some o=>rw[s0 _ _ e5]at hD;cases hD
  have lw:(wks B).length<=B.length:=zY _ _
  have lm:((wks B).map V.str).length=(wks B).length:=jX ..
  refine⟨_,rfl,D,_,rfl,.inl (Qb hL),_,rfl,fun rr ar=>?_⟩
  have s2:=Qd ar (.rng 0 ((((wks B).map V.str).length:Nat):Int))
  refine⟨rr,((wks B).map V.str).length,rfl,Qc,Om,Qlg (lo:=((((wks B).map V.str).length:Nat):Int)-1) (c:=-1) (n:=((wks B).map V.str).length) (fun i σ H3=>∃(v5 v6 v7 v8:Option V) (Y:Z7),σ=[some (.ref a),some (.int st),some (.ref d),some (.ref P),some (.ref D),v5,v6,v7,v8]/\PlanAt K H3 P Y/\Y.map (·.1)=(((wks B).drop ((wks B).length-i)).filter (hasW B)).reverse/\(∀p∈Y,∃l c,BR.way p.1 p.2.1 l c∈B/\0<=p.2.2/\p.2.2+l<=n)/\H3 D=some (.lst ((wks B).map V.str))/\Same H H3) ⟨none,none,none,none,[],rfl,⟨[],s2 _ _ (s1 _ _ ai),.nil⟩,?_,fun _ h=>(nomatch h),s2 _ _ hL,ax.trans s2⟩ ?_ ?_⟩
  .rw[kYe,List.drop_length];rfl
  .rintro i σ H3 hi ⟨v5,v6,v7,v8,Y,rfl,S,m,W,C,s3⟩
   rw[lm]at hi
   obtain⟨k,hk⟩:∃k:Nat,k=(wks B).length-1-i:=⟨_,rfl⟩
   have T:k<(wks B).length:=Om
   have ek:(((((wks B).map V.str).length:Nat):Int)-1)+((i:Nat):Int)*(-1)=((k:Nat):Int):=by rw[lm];lia
   rw[ek]
   obtain⟨w,ew⟩:∃w,(wks B)[k]?=some w:=⟨_,gE T⟩
   have aw:atI ((wks B).map V.str) ((k:Nat):Int)=some (.str w):=Kx (by rw[yW,ew];rfl)
   have e5:(wks B)[k]=w:=Y5 ((gE T).symm.trans ew)
   have ed:(wks B).drop ((wks B).length-(i+1))=w::(wks B).drop ((wks B).length-i):=by
    rw[show(wks B).length-(i+1)=k by lia,kJc T,show k+1=(wks B).length-i by lia,e5]
   refine⟨_,rfl,_,rfl,_,rfl,D,_,_,_,rfl,rfl,Qb C,aw,d,w,us,B,rfl,s3 _ _ hd,hB.same s3,Om,fun Dw O H4 s4 aJ ap ah=>?_⟩
   have am:=ah.length
   have ae:=Qwy am
   have aH:O.length<=B.length:=by rw[am];exact jXf _ _
   refine⟨_,rfl,Z1 0,fun p5 aq=>?_⟩
   have s5:=Qd aq (.lst [])
   have G:=s4.trans s5
   have u:=s5 _ _ ap
   have X:=ah.same s5
   refine⟨Dw,p5,O,rfl,rfl,Qb u,Qb Qc,_,rfl,ite2 (fun y=>?_) (fun y=>⟨_,_,_,_,Y,rfl,PlanAt.same S G,?_,W,G _ _ C,s3.trans G⟩)⟩
   rotate_left
   .rw[ed,wX (by rw[ae];exact y)];exact m
   have aA:hasW B w=true:=by rw[ae];exact y
   have aD:0<O.length:=by
    cases O with
    |nil=>exact nomatch y
    |cons a b=>exact Nat.succ_pos _
   generalize upd H4 p5 (.lst [])=H5 at s5 G u X⊢
   have Z:=s3.trans G
   refine⟨_,rfl,_,rfl,_,rfl,_,_,rfl,rfl,a,ns,_,rfl,Z.seq hS,Om,Om,fun z z0 z1=>?_⟩
   have py:(0:Int)<((O.length:Nat):Int):=Om
   have j0:=jQe z (kKd py)
   have j1:=wZ z py
   obtain⟨j,ej⟩:∃j:Nat,z % ((O.length:Nat):Int)=((j:Nat):Int):=⟨(z % ((O.length:Nat):Int)).toNat,Om⟩
   have jl:j<O.length:=Om
   obtain⟨r,lr,er,ev,R⟩:=X.get (gE jl)
   obtain⟨ak,ag⟩:=xY.mp (kW er)
   obtain⟨J,g,c',rfl⟩:∃J g c',r=.way w J g c':=by
    cases r with
    |way w' J g c'=>
     have e:w'=w:=kK ag
     subst e
     exact⟨J,g,c',rfl⟩
    |_=>cases ag
   have af:=bk.wb.ok _ ak
   have aC:1<=g/\g<=n:=⟨af.1,af.2.1⟩
   have aj:atI O (z % ((O.length:Nat):Int))=some (.ref lr):=by
    rw[ej]
    exact Kx (by rw[gE jl,ev])
   refine⟨_,rfl,_,rfl,_,rfl,Dw,_,rfl,.inl (Qb u),_,_,rfl,rfl,py,Dw,_,_,_,rfl,rfl,Qb u,aj,?_⟩
   obtain⟨u0,ab⟩:∃u0,us[0]?=some u0:=⟨_,gE (by
    rw[lu]
    exact(kX.mp bk.hd).1)⟩
   obtain⟨r0,ld,ac,rfl,ao⟩:=(hB.same Z).get ab
   rw[bk.hd]at ac
   cases ac
   have a0:atI us 0=some (.ref ld):=Kx (k:=0) ab
   have b0:=jQe (z / 3) (show(n-g+1)≠0 by lia)
   have b1:=wZ (z / 3) (show 0<n-g+1 by lia)
   refine⟨_,rfl,lr,_,_,_,rfl,rfl,Qb R,(show atI ((BR.way w J g c').cells.map kV) 2=some (.str J)from rfl),_,rfl,_,_,rfl,rfl,⟨Dc,Dc⟩,_,rfl,d,_,_,_,rfl,rfl,Qb (Z _ _ hd),a0,ld,_,_,_,rfl,rfl,Qb ao,(show atI ((BR.days n).cells.map kV) 1=some (.int n)from rfl),_,rfl,lr,_,_,_,rfl,rfl,Qb R,(show atI ((BR.way w J g c').cells.map kV) 3=some (.int g)from rfl),_,_,rfl,rfl,_,_,rfl,rfl,_,_,rfl,rfl,(by show 0<n-g+1;lia),Z1 2,fun t ht=>?_⟩
   have s6:=Qd ht (.tup [.str J,.int (z / 3 % (n-g+1))])
   have al:upd H5 t (.tup [.str J,.int (z / 3 % (n-g+1))]) t=some (.tup [.str J,.int (z / 3 % (n-g+1))]):=Qc
   generalize upd H5 t (.tup [.str J,.int (z / 3 % (n-g+1))])=H6 at s6 al⊢
   have L:=G.trans s6
   obtain⟨ad,U,aa⟩:=PlanAt.same S L
   have az:(inr w:Key)∉ad.map (·.1):=fun h=>by
    rw[Kj aa,m]at h
    obtain⟨x,hx,e⟩:=zV.mp h
    cases e
    have ay:=(xY.mp (List.mem_reverse.mp hx)).1
    obtain⟨j',an⟩:=wJ.mp ay
    rw[List.getElem?_drop]at an
    have:=(List.getElem?_inj T (Qop bk.wb)).mp (ew.trans an.symm)
    lia
   have lk:ad.length<=400:=by
    have h5:=congrArg List.length (Kj aa)
    rw[jX,jX,m,List.length_reverse]at h5
    have h6:=jXf (hasW B) ((wks B).drop ((wks B).length-i))
    rw[jJd]at h6
    lia
   refine⟨_,rfl,_,rfl,_,rfl,D,_,_,_,rfl,rfl,Qb (L _ _ C),aw,P,_,rfl,DPut.k (k:=inr w) U Om,_,_,_,_,Y++[(w,J,z / 3 % (n-g+1))],rfl,⟨_,Qc,?_⟩,?_,fun p hp=>?_,?_,fun b o e=>?_⟩
   .rw[Qrp _ (Qsw az)]
    exact Paired.snoc (Paired.mapP aa fun _ _ ⟨e,t',e2,z'⟩=>⟨e,t',e2,Qkb U z'⟩) ⟨rfl,t,rfl,Qkb U (Qz al)⟩
   .rw[zQ,m,ed,jQd aA,List.reverse_cons]
    rfl
   .rcases kJ.mp hp with h | h
    .exact W p h
    .rw[jW.mp h];exact⟨g,c',ak,b0,(by show z / 3 % (n-g+1)+g<=n;lia)⟩
   .rw[Qj (Yl (L _ _ C) U (by intro z';cases z'))];exact L _ _ C
   .rw[Qj (Qk e hP)];exact(s3.trans L) _ _ e
  .rintro σ H3 ⟨v5,v6,v7,v8,Y,rfl,S,m,W,C,s3⟩
   rw[lm,Nat.sub_self,jZc]at m
   exact⟨_,rfl,q P Y H3 s3 hP S ⟨by rw[m];exact List.reverse_perm _,W⟩⟩
end
def lenB(B:List BR)(w v:Str):Int:=(B.filterMap (lenOf w v)).headD 0
def Ks(b:Str)(day:Int):BR->Bool
 |.shut b' f t=>decide (b'=b/\f<=day/\day<t)
 |_=>false
theorem Qoq(h:r.word="shut"):∃b f t,r=.shut b f t:=by
 have a:r.kind=2:=(Xq r (k:=2) Dc).mp h
 cases r with
 |shut b f t=>exact⟨b,f,t,rfl⟩
 |use k _ _ _ _=>exact Y21 (show 6+k.val=2 from a) Om
 |_=>exact nomatch a
def Qid(B:List BR)(b:Str)(r day:Int):Int:=if (B.filter (Ks b day)).length=0 then r else 0
def useR(B:List BR)(b:Str)(day:Int)(p:Str×Str×Int):Int:=if p.2.2<=day/\day<p.2.2+lenB B p.1 p.2.1 then Yx B 0 p.1 p.2.1 b else 0
def Vs(B:List BR)(pl:Z7)(b:Str)(r day:Int):Int:=Qid B b r day-(pl.map (useR B b day)).sum
def wo(H:Hp)(P:Addr):Hp:=fun c=>if c=P then none else H c
theorem Qor{P c:Addr}{o:HO}(h:H c=some o)(n:c≠P):wo H P c=some o:=by
 unfold wo
 rw[Y20 n];exact h
theorem wo_out{P c:Addr}{o:HO}(h:wo H P c=some o):c≠P/\H c=some o:=by
 unfold wo at h
 by_cases e:c=P
 .rw[Y22 e]at h;cases h
 .rw[Y20 e]at h;exact⟨e,h⟩
theorem RowsB.wo{P:Addr}{kvs:List (Key×V)}{us:List V}(a:H P=some (.dK kvs))(h:RowsB H us B):RowsB (wo H P) us B:=h.imp fun _ _ _ z=>Qor z (Yl z a (by intro e;cases e))
theorem Quy{P t:Addr}{kvs:List (Key×V)}(a:H P=some (.dK kvs))(h:SqT K H t xs):SqT K (wo H P) t xs:=by
 rcases h with(h | ⟨p,h⟩) | h
 .exact .inl (.inl (Qor h (Yl h a (by intro z;cases z))))
 .exact .inl (.inr ⟨p,Qor h (Yl h a (by intro z;cases z))⟩)
 .exact .inr h
theorem Qgb{P:Addr}{kvs:List (Key×V)}(a:H P=some (.dK kvs))(s:Same (wo H P) H'):Same H (upd H' P (.dK kvs)):=fun c o h=>by
 by_cases e:c=P
 .subst e
  rw[a]at h
  cases h
  exact Qc
 .rw[Qj e];exact s _ _ (Qor h e)
theorem Qkc{P:Addr}{u:HO}(s:Same H H'):Same (wo H P) (upd H' P u):=fun c o h=>by
 obtain⟨n,a⟩:=wo_out h
 rw[Qj n];exact s _ _ a
def Qkd(n:Int)(B:List BR)(pl:Z7):Prop:=∀p∈pl,∃l c,BR.way p.1 p.2.1 l c∈B/\0<=p.2.2/\p.2.2+l<=n
theorem Zl(i:WB n B){l:Int}(h:BR.way w v l c∈B):lenB B w v=l:=by
 have f:∀x∈B.filterMap (lenOf w v),x=l:=fun x f=>by
  obtain⟨r,g,e⟩:=xQ.mp f
  obtain⟨j,rfl⟩:=lenOf_some.mp e
  exact(i.way1 g h).1
 have d:l∈B.filterMap (lenOf w v):=xQ.mpr ⟨_,h,lenOf_some.mpr ⟨c,rfl⟩⟩
 unfold lenB
 cases e:B.filterMap (lenOf w v)with
 |nil=>rw[e]at d;exact nomatch d
 |cons a b=>exact f a (by rw[e];exact jY)
def chP(B:List BR)(st:Str)(day:Int)(p:Str×Str×Int):Int:=(if p.2.2+lenB B p.1 p.2.1=day then Yx B 2 p.1 p.2.1 st else 0)-(if p.2.2=day then Yx B 1 p.1 p.2.1 st else 0)
def chR(B:List BR)(pl:Z7)(st:Str)(day:Int):Int:=(pl.map (chP B st day)).sum
def Yt(B:List BR)(pl:Z7)(st:Str)(f:Int)(day:Nat):Int:=f+((List.range (day+1)).map fun dd:Nat=>chR B pl st dd).sum
theorem Yz(f:Nat->Int)(i:Nat):((List.range (i+1)).map f).sum=((List.range i).map f).sum+f i:=by
 rw[yQa,zQ,List.sum_append]
 show _+(f i+0)=_
 lia
def hasK(pl:Z7)(w:Str):Bool:=pl.any fun p=>decide (p.1=w)
theorem Qos{kvs:List (Key×V)}(h:Paired (fun(p:Key×V) (q:Str×Str×Int)=>p.1=inr q.1/\∃t,p.2=.ref t/\SqT K H t [.str q.2.1,.int q.2.2]) kvs pl):(valV kvs (inr w)).isSome=hasK pl w:=by
 induction h with
 |nil=>rfl
 |@cons p q ps qs z _ ih=>
  unfold hasK at ih⊢
  rw[kZc]
  by_cases e:q.1=w
  .rw[Yv (z.1.trans (by rw[e])),yJ e]
   rfl
  .rw[Yw (fun h=>e (Y37 (z.1.symm.trans h))),xV e,ih]
   rfl
theorem hasK_iff:hasK pl w=true↔w∈pl.map (·.1):=by
 unfold hasK
 rw[jXb]
 constructor
 .rintro⟨p,a,e⟩
  exact zV.mpr ⟨p,a,kK e⟩
 .intro h
  obtain⟨p,a,e⟩:=zV.mp h
  exact⟨p,a,yJ e⟩
def look(pl:Z7)(w:Str):Str×Int:=((pl.find? fun p=>decide (p.1=w)).map (·.2)).getD ("",0)
theorem Qeh{b:Int}(nd:(pl.map (·.1)).Nodup)(h:(w,v,b)∈pl):look pl w=(v,b):=by
 have e:pl.find? (fun p=>decide (p.1=w))=some (w,v,b):=by
  induction pl with
  |nil=>exact nomatch h
  |cons p pl ih=>
   have a:(p.1::pl.map (·.1)).Nodup:=nd
   obtain⟨f,d⟩:=kQa.mp a
   rcases kZ.mp h with e | e
   .rw[List.find?_cons_of_pos (by rw[<-e];exact yJ rfl),e]
   .have c:¬p.1=w:=fun z=>f (by rw[z];exact zV.mpr ⟨_,e,rfl⟩)
    rw[List.find?_cons_of_neg (by simpa using c)]
    exact ih d e
 unfold look
 rw[e]
 rfl
theorem PlanFor.nd(h:PlanFor n B pl)(a:WB n B):(pl.map (·.1)).Nodup:=by
 exact(h.keys.nodup_iff).mpr ((Qop a).filter _)
theorem PlanFor.get(h:PlanFor n B pl)(f:WB n B)(k:hasK pl w=true):∃l c,(w,(look pl w).1,(look pl w).2)∈pl/\BR.way w (look pl w).1 l c∈B/\0<=(look pl w).2/\(look pl w).2+l<=n:=by
 obtain⟨⟨j,v,b⟩,a,e⟩:=zV.mp (hasK_iff.mp k)
 have m:j=w:=e
 subst m
 rw[Qeh (h.nd f) a]
 obtain⟨l,c,g,d,i⟩:=h.good _ a
 exact⟨l,c,a,g,d,i⟩
theorem Ve{α β:Type}{R:α->β->Prop}{xs:List α}{ys:List β}(h:Paired R xs ys):∀{i:Nat} {y:β},ys[i]?=some y->∃x,xs[i]?=some x/\R x y:=by
 induction h with
 |nil=>intro i x e;exact nomatch e
 |cons z _ ih=>
  intro i x e
  match i with
  |0=>cases e;exact⟨_,rfl,z⟩
  |i+1=>exact ih (show _=some x from e)
theorem Qke{P:Addr}{b:Int}(h:PlanAt K H P pl)(nd:(pl.map (·.1)).Nodup)(s:(w,v,b)∈pl):∃t,DGet H P (.str w) (some (.ref t))/\SqT K H t [.str v,.int b]:=by
 obtain⟨c,o,j⟩:=h
 obtain⟨i,r⟩:=wJ.mp s
 obtain⟨⟨k,x⟩,ex,m,t,q,n⟩:=Ve j r
 have d:k=inr w:=m
 have f:x=.ref t:=q
 subst d f
 have g:(c.map (·.1)).Nodup:=by
  rw[Kj j]
  exact List.Pairwise.map inr (fun a b (hab:a≠b) e=>hab (Y37 e)) nd
 have p:valV c (inr w)=some (.ref t):=Qfx g ex
 have l:=DGet.k (k:=inr w) o
 rw[p]at l
 exact⟨t,l,n⟩
def gW(pl:Z7):BR->List (List Key)
 |.work w=>if hasK pl w=true then[]else[[inr ("work":Str),inr w]]
 |_=>[]
def Jz(f:Int->Prop)[DecidablePred f](N:Nat):List Nat:=(List.range N).filter fun d=>decide (f d)
def gR(n:Int)(B:List BR)(pl:Z7):BR->List (List Key)
 |.bench b r=>(Jz (fun day=>Vs B pl b r day<0) n.toNat).map fun d:Nat=>[inr ("room":Str),inr b,Sum.inl (d:Int)]
 |_=>[]
def gS(n:Int)(B:List BR)(pl:Z7):BR->List (List Key)
 |.store st mo fi=>(Jz (fun day=>Yt B pl st fi day.toNat<0\/mo<Yt B pl st fi day.toNat) (n.toNat+1)).map fun d:Nat=>[inr ("store":Str),inr st,Sum.inl (d:Int)]
 |_=>[]
def gA(B:List BR)(pl:Z7):BR->List (List Key)
 |.after w x g=>if (look pl x).2-(look pl w).2-lenB B w (look pl w).1<g then[[inr ("after":Str),inr w,inr x]]else[]
 |_=>[]
def dueF(n:Int)(B:List BR)(pl:Z7):Option (List Key):=(B.flatMap (gW pl)++(B.flatMap (gR n B pl)++(B.flatMap (gS n B pl)++B.flatMap (gA B pl)))).head?
def DueIs(H:Hp):Option (List Key)->V->Prop
 |none,v=>v=.non
 |some ks,v=>∃T,v=.ref T/\H T=some (.tup (ks.map kV))
theorem Qei{α β:Type}{B:List α}{r:α}(g:α->List β)(h:B[i]?=some r):(B.take (i+1)).flatMap g=(B.take i).flatMap g++g r:=by
 rw[Ka h,yXd]
 congr 1
 show g r++[]=_
 rw[xX]
theorem Zm(h:B.flatMap (gW pl)=[])(b:BR.work w∈B):hasK pl w=true:=by
 have c:=kKa.mp h _ b
 have a:(if hasK pl w=true then[]else[[(inr ("work":Str):Key),inr w]])=[]:=c
 by_cases e:hasK pl w=true
 .exact e
 .rw[Y20 e]at a;cases a
theorem gS_no(h:r.word≠"store"):gS n B pl r=[]:=by
 cases r with
 |store b m f=>exact Y21 rfl h
 |_=>rfl
theorem gA_no(h:r.word≠"after"):gA B pl r=[]:=by
 cases r with
 |after w x g=>exact Y21 rfl h
 |_=>rfl
theorem Qlq(h:r.word="bench"):∃b c,r=.bench b c:=by
 have a:r.kind=1:=(Xq r (k:=1) Dc).mp h
 cases r with
 |bench b c=>exact⟨b,c,rfl⟩
 |use k _ _ _ _=>exact Y21 (show 6+k.val=1 from a) Om
 |_=>exact nomatch a
theorem Qlr(h:r.word="store"):∃b m f,r=.store b m f:=by
 have a:r.kind=3:=(Xq r (k:=3) Dc).mp h
 cases r with
 |store b m f=>exact⟨b,m,f,rfl⟩
 |use k _ _ _ _=>exact Y21 (show 6+k.val=3 from a) Om
 |_=>exact nomatch a
def Qsx(K:Fg):Sp:=fun vs H Q _=>∃(d P:Addr) (n:Int) (us:List V) (B:List BR) (pl:Z7),vs=[.ref d,.ref P]/\H d=some (.lst us)/\RowsB H us B/\BookOk n B/\PlanAt K H P pl/\PlanFor n B pl/\∀(v:V) (H':Hp),Same H H'->DueIs H' (dueF n B pl) v->Q v H'
abbrev Qsy:Stmt:=top 9
abbrev Wf:Stmt:=inClass (top 11) 0
abbrev Qgc:Stmt:=inClass (top 11) 4
def Qej(fN:Z9):Prop:=∀r:BR,∃t,fN r.word=some (.int ((r.names.length:Nat):Int) t)
theorem Qwz(r:BR):r.key.length=1+r.names.length:=by
 unfold BR.key
 rw[yZ,jX]
 lia
theorem Qxa(r:BR):cutV (r.cells.map kV) none (some (1+((r.names.length:Nat):Int)))=r.key.map kV:=by
 unfold cutV
 have b:(1:Int)+((r.names.length:Nat):Int)=((r.key.length:Nat):Int):=by rw[Qwz];lia
 have a:r.key.length<=r.cells.length:=by unfold BR.cells;rw[jJ];lia
 rw[HT.sIx_none,jZc,kYe,b,HT.sIx_nat,jX,wK a,<-kQc]
 unfold BR.cells
 rw[yQb]
 rfl
theorem Qsz(r:BR):cutV (r.cells.map kV) (some (((r.key.map kV).length:Nat):Int)) none=r.nums.map V.int:=by
 unfold cutV
 have a:r.key.length<=r.cells.length:=by unfold BR.cells;rw[jJ];lia
 rw[HT.sIx_none,HT.sIx_nat,jX,jX,wK a,<-List.map_drop]
 unfold BR.cells
 rw[List.drop_left',jJ,Nat.add_sub_cancel_left,jZd,wQ (by rw[jX,jX];exact jK _)]
 .rfl
 .rfl
def Quz:Sp:=fun vs H Q _=>∃(l:Addr) (r:BR),vs=[.ref l]/\H l=some (.lst (r.cells.map kV))/\∀(t:Addr) (H':Hp),Same H H'->H t=none->H' t=some (.tup (r.key.map kV))->Q (.ref t) H'
structure FcTxt(K:Fg)(mg:Z9)(C:Addr):Prop where
 cl:Cls K C
 nD:NoAttr K C "days"
 nW:NoAttr K C "works"
 nB:NoAttr K C "benches"
 nH:NoAttr K C "shuts"
 nS:NoAttr K C "stores"
 nA:NoAttr K C "afters"
 nI:NoAttr K C "said"
 mgC:mg "Facts"=some (.ref C)
def FrP(p:Addr)(H H':Hp):Prop:=∀b o,H b=some o->b≠p->H' b=some o
theorem RowsB.frP{fs:List (Str×V)}(h:RowsB H vs B)(f:FrP p H H')(a:H p=some (.ins C dx fs)):RowsB H' vs B:=h.imp fun l r _ z=>f _ _ z (Yl z a (by intro e;cases e))
theorem Qta{P t C' dx':Addr}{fs fs':List (Str×V)}(a:H P=some (.ins C dx fs))(h:SqT K H t xs):SqT K (upd H P (.ins C' dx' fs')) t xs:=by
 rcases h with(h | ⟨p,h⟩) | h
 .exact .inl (.inl (by rw[Qj (Yl h a (by intro z;cases z))];exact h))
 .exact .inl (.inr ⟨p,by rw[Qj (Yl h a (by intro z;cases z))];exact h⟩)
 .exact .inr h
def SaidOk(K:Fg)(H:Hp)(kvs:List (List Key×V))(B:List BR):Prop :=
 (∀r∈B,r.word≠"shut"->∃t,valV kvs r.key=some (.ref t)/\SqT K H t (r.nums.map V.int))/\∀k:List Key,(∀r∈B,r.key≠k)->valV kvs k=none
def Qot(K:Fg)(H:Hp):List (List Key×V)->List BR->Prop:=Paired fun p r=>p.1=r.key/\∃t,p.2=.ref t/\SqT K H t (r.nums.map V.int)
theorem Qgd{ps:List (List Key×V)}{k:List Key}(h:∀p∈ps,p.1≠k):∀m,m<=ps.length->valV (Xk (ps.take m)) k=none:=by
 intro m
 induction m with
 |zero=>intro _;rfl
 |succ m ih=>
  intro a
  have e:ps[m]?=some ps[m]:=gE a
  rw[Jh e,Kp,Y20 (fun z=>h _ (kW e) z.symm)]
  exact ih Om
theorem Qge{ps:List (List Key×V)}{k:List Key}{v:V}(b:ps[i]?=some (k,v))(a:∀j p,ps[j]?=some p->p.1=k->j=i):∀m,i<m->m<=ps.length->valV (Xk (ps.take m)) k=some v:=by
 intro m
 induction m with
 |zero=>intro h;exact Y21 h (kZf _)
 |succ m ih=>
  intro g f
  have e:ps[m]?=some ps[m]:=gE f
  rw[Jh e,Kp]
  by_cases c:m=i
  .subst c
   have d:ps[m]=(k,v):=Y5 (e.symm.trans b)
   rw[d,Y22 rfl]
  .rw[Y20 (fun z=>c (a m _ e z.symm))]
   exact ih Om Om
theorem Qxb{ps:List (List Key×V)}(h:Qot K H ps B)(w:WB n B):SaidOk K H (Xk ps) B:=by
 have F:=Paired.length h
 refine⟨fun r C e=>?_,fun k a=>?_⟩
 .obtain⟨i,d⟩:=wJ.mp C
  obtain⟨⟨k,v⟩,ex,A,t,x,E⟩:=Ve h d
  have o:k=r.key:=A
  have m:v=.ref t:=x
  subst o m
  have D:=(kX.mp ex).1
  have b:=Qge ex (fun j p y u=>?_) ps.length D (jK _)
  .rw[yV]at b
   exact⟨t,b,E⟩
  .obtain⟨q,f,s,_⟩:=Qv h y
   have a:r.key=q.key:=u.symm.trans s
   rcases Nat.lt_trichotomy i j with c | c | c
   .rcases Qga w.nd c d f with z | z | z
    .exact Y21 z e
    .have g:((inr r.word:Key)::r.names.map inr)=inr q.word::q.names.map inr:=a
     injection g with l
     exact Y21 ((Y37 l).trans z) e
    .exact Y21 a z
   .exact c.symm
   .rcases Qga w.nd c f d with z | z | z
    .have g:((inr r.word:Key)::r.names.map inr)=inr q.word::q.names.map inr:=a
     injection g with l
     exact Y21 ((Y37 l).trans z) e
    .exact Y21 z e
    .exact Y21 a.symm z
 .have b:=Qgd (ps:=ps) (k:=k) (fun p u=>?_) ps.length (jK _)
  .rw[yV]at b
   exact b
  .obtain⟨i,d⟩:=wJ.mp u
   obtain⟨q,f,s,_⟩:=Qv h d
   rw[s]
   exact a q (kW f)
def wayK(k:List Key):Bool:=decide (k.head?=some (inr ("way":Str)))
open Classical in
theorem Qtb{k:List Key}{v:V}:(putK kvs k v).map (·.1)=if k∈kvs.map (·.1)then kvs.map (·.1)else kvs.map (·.1)++[k]:=by
 unfold putK
 by_cases h:(kvs.any fun b=>decide (b.1=k))=true
 .rw[Y22 h,Y22 (by
   obtain⟨x,a,e⟩:=jXb.mp h
   exact zV.mpr ⟨x,a,kK e⟩),jZd]
  refine kXf fun x _=>?_
  show(if x.1=k then(x.1,v)else x).1=x.1
  split<;>rfl
 .rw[Y20 h,Y20 (fun z=>h (by
   obtain⟨x,a,e⟩:=zV.mp z
   exact jXb.mpr ⟨x,a,yJ e⟩)),zQ]
  rfl
theorem Qce{ps:List (List Key×V)}{p:List Key->Bool}(o:∀(i j:Nat) a b,i<j->ps[i]?=some a->ps[j]?=some b->a.1=b.1->p b.1=false):∀m,m<=ps.length->((Xk (ps.take m)).map (·.1)).filter p=((ps.take m).map (·.1)).filter p/\∀x∈(Xk (ps.take m)).map (·.1),x∈(ps.take m).map (·.1):=by
 intro m
 induction m with
 |zero=>intro _;exact⟨rfl,fun x d=>d⟩
 |succ m ih=>
  intro k
  have e:ps[m]?=some ps[m]:=gE k
  obtain⟨h,g⟩:=ih Om
  rw[Jh e,Qtb,Ka e,zQ,jKa]
  by_cases c:(ps[m]).1∈(Xk (ps.take m)).map (·.1)
  .rw[Y22 c]
   obtain⟨a,n,q⟩:=zV.mp (g _ c)
   obtain⟨i,f⟩:=wJ.mp n
   have r:=(kX.mp f).1
   rw[xJ]at r
   rw[List.getElem?_take,Y22 Om]at f
   have l:=o i m a _ Om f e q
   refine⟨?_,fun x d=>zZ _ (g x d)⟩
   rw[h,show([ps[m]].map (·.1)).filter p=[]by
    show List.filter p [(ps[m]).1]=[]
    rw[kXa,l];rfl,xX]
  .rw[Y20 c,jKa,h]
   refine⟨rfl,fun x d=>?_⟩
   rcases kJ.mp d with z | z
   .exact zZ _ (g x z)
   .exact yX _ z
theorem Qls{ps:List (List Key×V)}(h:Qot K H ps B)(g:WB n B):((Xk ps).map (·.1)).filter wayK=(B.map BR.key).filter wayK:=by
 have l:ps.map (·.1)=B.map BR.key:=by
  clear g
  induction h with
  |nil=>rfl
  |cons z _ ih=>rw[zX,zX,z.1,ih]
 have:=(Qce (ps:=ps) (p:=wayK) (fun i j a b d u s e=>?_) ps.length (jK _)).1
 .rw[yV,l]at this
  exact this
 .obtain⟨r,v,k,_⟩:=Qv h u
  obtain⟨q,m,f,_⟩:=Qv h s
  have c:∀t:BR,t.word="shut"->wayK t.key=false:=fun t o=>by
   refine xV fun z=>?_
   have w:some (inr t.word:Key)=some (inr ("way":Str)):=z
   have:=Y37 (Y5 w)
   rw[o]at this
   exact Y21 this Dk
  rw[f]
  rcases Qga g.nd d v m with z | z | z
  .rw[<-f,<-e,k];exact c r z
  .exact c q z
  .exact Y21 (k.symm.trans (e.trans f)) z
def Qbl:BR->Option Str
 |.bench b _=>some b
 |_=>none
def bns(B:List BR):List Str:=B.filterMap Qbl
theorem Qcu(h:r.word≠"bench"):Qbl r=none:=by
 cases r with
 |bench b c=>exact Y21 rfl h
 |_=>rfl
def selW(w:Str)(r:BR):Bool:=decide (r.word=w)
def TupsOf(K:Fg)(H:Hp):List V->List BR->Prop:=Paired fun v r=>∃t,v=.ref t/\SqT K H t ((r.cells.drop 1).map kV)
theorem Qxc(r:BR):cutV (r.cells.map kV) (some 1) none=(r.cells.drop 1).map kV:=by
 unfold cutV
 have a:1<=r.cells.length:=by unfold BR.cells BR.key;rw[jJ,yZ];lia
 rw[HT.sIx_none,show(1:Int)=((1:Nat):Int)from rfl,HT.sIx_nat,jX,wK a,<-List.map_drop,wQ (by rw[jX,jJd];exact jK _)]
theorem FrP.trans{H2:Hp}(a:FrP p H H1)(b:FrP p H1 H2):FrP p H H2:=fun c o e d=>b c o (a c o e d) d
theorem Qxd{t:Addr}{fs:List (Str×V)}(h:SqT K H t xs)(f:FrP p H H')(a:H p=some (.ins C dx fs)):SqT K H' t xs:=by
 rcases h with(h | ⟨q,h⟩) | h
 .exact .inl (.inl (f _ _ h (Yl h a (by intro z;cases z))))
 .exact .inl (.inr ⟨q,f _ _ h (Yl h a (by intro z;cases z))⟩)
 .exact .inr h
theorem TupsOf.frP{fs:List (Str×V)}(h:TupsOf K H ys B)(f:FrP p H H')(a:H p=some (.ins C dx fs)):TupsOf K H' ys B:=Paired.mapP h fun _ _ ⟨t,e,z⟩=>⟨t,e,Qxd z f a⟩
theorem TupsOf.same(h:TupsOf K H ys B)(s:Same H H'):TupsOf K H' ys B:=Paired.mapP h fun _ _ ⟨t,e,z⟩=>⟨t,e,s.tup z⟩
theorem SaidOk.same(h:SaidOk K H kvs B)(s:Same H H'):SaidOk K H' kvs B:=⟨fun r d c=>(let ⟨t,a,b⟩:=h.1 r d c;⟨t,a,s.tup b⟩),h.2⟩
abbrev fcFs(n:Int)(lw lb lh ls la ds:Addr):List (Str×V):=[("days",.int n),("works",.ref lw),("benches",.ref lb),("shuts",.ref lh),("stores",.ref ls),("afters",.ref la),("said",.ref ds)]
structure FcF(K:Fg)(C:Addr)(H:Hp)(p:Addr)(n:Int)(B:List BR)(dx lw lb lh ls la ds:Addr)(fs:List (Str×V))(kvs:List (List Key×V))(yh ys ya:List V):Prop where
 hp:H p=some (.ins C dx fs)
 fe:fs=fcFs n lw lb lh ls la ds
 hW:H lw=some (.lst ((wks B).map V.str))
 hB:H lb=some (.lst ((bns B).map V.str))
 hH:H lh=some (.lst yh)
 hS:H ls=some (.lst ys)
 hA:H la=some (.lst ya)
 tH:TupsOf K H yh (B.filter (selW "shut"))
 tS:TupsOf K H ys (B.filter (selW "store"))
 tA:TupsOf K H ya (B.filter (selW "after"))
 hI:H ds=some (.dT kvs)
 sd:SaidOk K H kvs B
 wo:(kvs.map (·.1)).filter wayK=(B.map BR.key).filter wayK
 kl:kvs.length<=400
def FcAt(K:Fg)(C:Addr)(H:Hp)(p:Addr)(n:Int)(B:List BR):Prop:=∃dx lw lb lh ls la ds fs kvs yh ys ya,FcF K C H p n B dx lw lb lh ls la ds fs kvs yh ys ya
theorem FcAt.same(h:FcAt K C H p n B)(s:Same H H'):FcAt K C H' p n B:=by
 obtain⟨i,j,c,f,l,b,g,fs,a,d,k,e,h⟩:=h
 exact⟨i,j,c,f,l,b,g,fs,a,d,k,e,{ h with hp:=s _ _ h.hp,hW:=s _ _ h.hW,hB:=s _ _ h.hB,hH:=s _ _ h.hH,hS:=s _ _ h.hS,hA:=s _ _ h.hA,tH:=h.tH.same s,tS:=h.tS.same s,tA:=h.tA.same s,hI:=s _ _ h.hI,sd:=h.sd.same s }⟩
section
variable{lw lb lh ls la ds:Addr}{fs:List (Str×V)}{yh ya:List V}(h:FcF K C H p n B dx lw lb lh ls la ds fs kvs yh ys ya)
include h
theorem FcF.fD:fs.lookup ("days":Str)=some (.int n):=h.fe▸rfl
theorem FcF.fW:fs.lookup ("works":Str)=some (.ref lw):=h.fe▸rfl
theorem FcF.fB:fs.lookup ("benches":Str)=some (.ref lb):=h.fe▸rfl
theorem FcF.fH:fs.lookup ("shuts":Str)=some (.ref lh):=h.fe▸rfl
theorem FcF.fS:fs.lookup ("stores":Str)=some (.ref ls):=h.fe▸rfl
theorem FcF.fA:fs.lookup ("afters":Str)=some (.ref la):=h.fe▸rfl
theorem FcF.fI:fs.lookup ("said":Str)=some (.ref ds):=h.fe▸rfl
theorem FcF.nE:fs.lookup ("end_of":Str)=none:=h.fe▸rfl
theorem FcF.nY:fs.lookup ("is_way":Str)=none:=h.fe▸rfl
theorem FcF.nL:fs.lookup ("last_begin":Str)=none:=h.fe▸rfl
theorem FcF.nM:fs.lookup ("many":Str)=none:=h.fe▸rfl
theorem FcF.nU:fs.lookup ("used_by":Str)=none:=h.fe▸rfl
theorem FcF.nG:fs.lookup ("gain_by":Str)=none:=h.fe▸rfl
theorem FcF.nR:fs.lookup ("room_of":Str)=none:=h.fe▸rfl
theorem FcF.nC:fs.lookup ("all_choices":Str)=none:=h.fe▸rfl
end
theorem FrP.lst{fs:List (Str×V)}(f:FrP p H H')(a:H p=some (.ins C dx fs))(h:H b=some (.lst ys)):H' b=some (.lst ys):=f _ _ h (Yl h a (by intro z;cases z))
theorem FrP.stage(h:Same H H1)(a:List (Str×V))(g:FrP p H0 H):FrP p H1 (upd H1 p (.ins C dx a))/\FrP p H (upd H1 p (.ins C dx a))/\FrP p H0 (upd H1 p (.ins C dx a))/\upd H1 p (.ins C dx a) p=some (.ins C dx a):=by
 have f:FrP p H1 (upd H1 p (.ins C dx a)):=fun b o e c=>by rw[Qj c];exact e
 have d:FrP p H (upd H1 p (.ins C dx a)):=fun b o e c=>f b o (h _ _ e) c
 exact⟨f,d,g.trans d,Qc⟩
theorem Wg{f:Str}{v:V}{fs:List (Str×V)}{k:Nat}(h:fs.length<=k):(putF f v fs).length<=k+1:=jQc (Ku f v fs) (jQb h)
def TpV(K:Fg)(H:Hp)(v:V)(r:BR):Prop:=∃t,v=.ref t/\SqT K H t ((r.cells.drop 1).map kV)
def SdV(K:Fg)(H:Hp)(v:V)(r:BR):Prop:=∃t b t6,v=.ref t/\SqT K H t [.ref b,.ref t6]/\H b=some (.tup (r.key.map kV))/\SqT K H t6 (r.nums.map V.int)
theorem Qcv{K:Fg}{H:Hp}:∀{ys:List V} {B:List BR},Paired (SdV K H) ys B->∃ps,Qnv K H ys ps/\Qot K H ps B
 |_,_,.nil=>⟨[],.nil,.nil⟩
 |_,_,.cons ⟨t,b,t6,e,h1,h2,h3⟩ r=>let ⟨ps,a,c⟩:=Qcv r;⟨(_,.ref t6)::ps,.cons ⟨t,b,e,h1,h2⟩ a,.cons ⟨rfl,t6,rfl,h3⟩ c⟩
def Qek(K:Fg)(C:Addr):Sp:=fun vs H Q _=>∃(p d dx:Addr) (n:Int) (us:List V) (B:List BR),vs=[.ref p,.ref d]/\H p=some (.ins C dx [])/\H d=some (.lst us)/\RowsB H us B/\BookOk n B /\
 ∀H',FcAt K C H' p n B->FrP p H H'->Q .non H'
section
variable{w:World}
theorem scSaid:FnScope ["row"] ["row"] (Qh Qsy):=Sc
theorem okSaid(F:Fn K mg "said_by" Qsy)(M:Mg mg)(g:Tab w K mg "NAMES" aN fN)(m:Qej fN):Cal P w K mg base 1 "said_by" ["row"] Quz:=by
 refine Xt F scSaid (fun _ _ _ _ _ _=>bind1 (fun _=>rfl)) (fun j H Q E h=>?_) (fun f p A b s H j Q E x h=>?_)
 .obtain⟨l,r,rfl,_⟩:=h
  rfl
 obtain⟨l,r,rfl,e,q⟩:=h
 refine⟨_,(Qi (Xb (Xv Vl rfl M.tuple_ Jr (Qa (Xi Jj (pv 0) Yi (Xn (Ql Xc Qe (Qr (ix_tab g) (Kt (v:=.ref aN) rfl g.bound rfl) (Qr Qn (pv 0) Qe))))) Qf)))),?_⟩
 obtain⟨t,k⟩:=m r
 refine⟨_,rfl,_,rfl,l,_,_,_,rfl,rfl,Qb e,Yp r,_,_,.int ((r.names.length:Nat):Int),rfl,rfl,k,⟨_,rfl⟩,_,_,rfl,rfl,_,rfl,l,_,rfl,Qb e,fun u c=>?_⟩
 rw[Qxa]
 have i:=Qd c (.lst (r.key.map kV))
 refine⟨u,_,rfl,.inl ⟨Qb Qc,fun d a=>?_⟩⟩
 refine q d _ (i.trans (Qd a _)) ?_ Qc
 cases n:H d with
 |none=>rfl
 |some o=>rw[i _ _ n]at a;cases a
theorem scFcI:FnScope ["self","book"] ["self","book"] (Qh Wf):=Sc
theorem Qxe(F:Fun K "__init__" "Facts.__init__" Wf f fd)(M:Mg mg)(T:FcTxt K mg C)(g:Cal P w K mg base 1 "said_by" ["row"] Quz):FnOk P w K mg base CX0 2 f fd ["self","book"] (Qek K C):=by
 refine F.ok scFcI (fun vs H Q E h=>?_) (fun aL A ax s H vs Q E c h=>?_)
 .obtain⟨p,d,dx,n,us,B,rfl,_⟩:=h
  rfl
 .obtain⟨p,d,dx,n,us,B,rfl,hp,hd,hB,bk,q⟩:=h
  have hz:=X0 20000
  have lu:=hB.length
  have bl:=bk.wb.len
  have aw:=Z6 6 c.un
  refine⟨_,(Qg (Qai (pv 0) (Qr Qn (Qr Qn (pv 1) Qe) Qe) rfl)
  (Qg (Qai (pv 0) (Yu ["row"] [none] rfl (Qx (pv 1)) (fun _ _ _=>(Z3 0 Z2)) (fun _ _ _=>(Zw (Qm Yq (Qr (Yf (K:=K) rfl) (pv 0) Qe) Qq (Qs _)))) (fun _ _ _=>(Qr (Yf (K:=K) rfl) (pv 0) Qe))) rfl)
  (Qg (Qai (pv 0) (Yu ["row"] [none] rfl (Qx (pv 1)) (fun _ _ _=>(Z3 0 Z2)) (fun _ _ _=>(Zw (Qm Yq (Qr (Yf (K:=K) rfl) (pv 0) Qe) Qq (Qs _)))) (fun _ _ _=>(Qr (Yf (K:=K) rfl) (pv 0) Qe))) rfl)
  (Qg (Qai (pv 0) (Yu ["row"] [none] rfl (Qx (pv 1)) (fun _ _ _=>(Z3 0 Z2)) (fun _ _ _=>(Zw (Qm Yq (Qr (Yf (K:=K) rfl) (pv 0) Qe) Qq (Qs _)))) (fun _ _ _=>(Xv (Zo (K:=K) rfl) rfl M.tuple_ Jr (Qa (Xi (Jv (K:=K) rfl) (pv 0) (Xn Qe) Yi) Qf)))) rfl)
  (Qg (Qai (pv 0) (Yu ["row"] [none] rfl (Qx (pv 1)) (fun _ _ _=>(Z3 0 Z2)) (fun _ _ _=>(Zw (Qm Yq (Qr (Yf (K:=K) rfl) (pv 0) Qe) Qq (Qs _)))) (fun _ _ _=>(Xv (Zo (K:=K) rfl) rfl M.tuple_ Jr (Qa (Xi (Jv (K:=K) rfl) (pv 0) (Xn Qe) Yi) Qf)))) rfl)
  (Qg (Qai (pv 0) (Yu ["row"] [none] rfl (Qx (pv 1)) (fun _ _ _=>(Z3 0 Z2)) (fun _ _ _=>(Zw (Qm Yq (Qr (Yf (K:=K) rfl) (pv 0) Qe) Qq (Qs _)))) (fun _ _ _=>(Xv (Zo (K:=K) rfl) rfl M.tuple_ Jr (Qa (Xi (Jv (K:=K) rfl) (pv 0) (Xn Qe) Yi) Qf)))) rfl)
  (Qi (Qai (pv 0) (Xv (Qdz (n:=6) Dc aw rfl) rfl M.dict_ Kv (Qa (Yu ["row"] [none] rfl (Qx (pv 1)) (fun _ _ _=>(Z3 0 Z2)) (fun _ _ _=>Yr) (fun _ _ _=>(Yy (Qa (Xj g (c.mono Dc) (Qa (pv 0) Qf)) (Qa (Xv (Zo (K:=K) rfl) rfl M.tuple_ Jr (Qa (Xi (Jv (K:=K) rfl) (pv 0) (Xn (Qt (Qdu (K:=K) rfl) rfl M.len Ys (Qa (Xj g (c.mono Dc) (Qa (pv 0) Qf)) Qf))) Yi) Qf)) Qf))))) Qf)) rfl)))))))),?_⟩
  obtain⟨u0,aj⟩:∃u0,us[0]?=some u0:=⟨_,gE (by
   rw[lu]
   exact(kX.mp bk.hd).1)⟩
  obtain⟨r0,ld,ak,rfl,aq⟩:=hB.get aj
  rw[bk.hd]at ak
  cases ak
  have a0:atI us 0=some (.ref ld):=Kx (k:=0) aj
  refine⟨_,rfl,d,_,_,_,rfl,rfl,Qb hd,a0,ld,_,_,_,rfl,rfl,Qb aq,(show atI ((BR.days n).cells.map kV) 1=some (.int n)from rfl),_,rfl,p,C,dx,[],rfl,hp,T.cl,T.nD,(by show 0<1000;decide),?_⟩
  obtain⟨W,e1⟩:∃fs,fs=putF "days" (.int n) []:=⟨_,rfl⟩
  have l1:W.length<=1:=e1▸Wg (jK 0)
  rw[<-e1]
  obtain⟨_,_,g1,i⟩:=FrP.stage (C:=C) (dx:=dx) (Same.refl H) W (fun b o e _=>e:FrP p H H)
  generalize upd H p (.ins C dx W)=H1 at g1 i⊢
  have am:=g1.lst hp hd
  have ar:=hB.frP g1 hp
  refine⟨_,rfl,d,rfl,⟨_,Qb am⟩,fun lw L=>Qcd (f:=Ki) (fun _ v x=>v=.str x) (fun _ e=>e) (fun _ e=>e) (cs:=[]) rfl am ar Om L (fun r j H1 hm s1 c P1 P2 J U=>?_) (fun ys X a N l=>?_)⟩
  .refine⟨_,rfl,j,_,_,_,rfl,rfl,Qb c,Yp r,rfl,_,rfl,ite2 (fun y=>?_) (fun y=>U (Qbk (fun e=>y (by rw[e];exact yesS _))) _ (Same.refl _))⟩
   obtain⟨w,rfl⟩:=Vq (eqS y)
   exact⟨_,rfl,j,_,_,_,rfl,rfl,Qb c,rfl,J _ _ _ rfl (Same.refl _) rfl⟩
  refine⟨_,rfl,p,C,dx,_,rfl,a _ _ i,T.cl,T.nW,zK l1 Dc,?_⟩
  obtain⟨Y,e2⟩:∃fs,fs=putF "works" (.ref lw) W:=⟨_,rfl⟩
  have l2:Y.length<=2:=e2▸Wg l1
  rw[<-e2]
  obtain⟨f2,s2,g2,ab⟩:=FrP.stage (C:=C) (dx:=dx) a Y g1
  generalize upd X p (.ins C dx Y)=H2 at f2 s2 g2 ab⊢
  have c2:=f2.lst (a _ _ i) N
  have ah:=g2.lst hp hd
  have ay:=hB.frP g2 hp
  have i2:=Je l
  clear l a
  refine⟨_,rfl,d,rfl,⟨_,Qb ah⟩,fun D3 L=>Qcd (f:=Qbl) (fun _ v x=>v=.str x) (fun _ e=>e) (fun _ e=>e) (cs:=[]) rfl ah ay Om L (fun r j H1 hm s1 c P1 P2 J U=>?_) (fun ys X a N l=>?_)⟩
  .refine⟨_,rfl,j,_,_,_,rfl,rfl,Qb c,Yp r,rfl,_,rfl,ite2 (fun y=>?_) (fun y=>U (Qcu (fun e=>y (by rw[e];exact yesS _))) _ (Same.refl _))⟩
   obtain⟨bb,cc,rfl⟩:=Qlq (eqS y)
   exact⟨_,rfl,j,_,_,_,rfl,rfl,Qb c,rfl,J _ _ _ rfl (Same.refl _) rfl⟩
  refine⟨_,rfl,p,C,dx,_,rfl,a _ _ ab,T.cl,T.nB,zK l2 Dc,?_⟩
  obtain⟨Z,e3⟩:∃fs,fs=putF "benches" (.ref D3) Y:=⟨_,rfl⟩
  have l3:Z.length<=3:=e3▸Wg l2
  rw[<-e3]
  obtain⟨f3,s3,g3,R⟩:=FrP.stage (C:=C) (dx:=dx) a Z g2
  generalize upd X p (.ins C dx Z)=H3 at f3 s3 g3 R⊢
  have c3:=f3.lst (a _ _ ab) N
  have ap:=g3.lst hp hd
  have aA:=hB.frP g3 hp
  have i3:=Je l
  clear l a
  refine⟨_,rfl,d,rfl,⟨_,Qb ap⟩,fun D4 L=>Qcd (f:=Option.guard (selW "shut")) (TpV K) (fun s ⟨t,e,z⟩=>⟨t,e,s.tup z⟩) (fun hg ⟨t,e,z⟩=>⟨t,e,Zi hg z⟩) (cs:=[]) rfl ap aA Om L (fun r j H1 hm s1 c P1 P2 J U=>?_) (fun y4 X a N l=>?_)⟩
  .refine⟨_,rfl,j,_,_,_,rfl,rfl,Qb c,Yp r,rfl,_,rfl,ite2 (fun y=>?_) (fun y=>U (Y20 fun e=>y (by rw[kK e];exact yesS _)) _ (Same.refl _))⟩
   exact⟨_,rfl,_,rfl,j,_,rfl,Qb c,fun p1 i=>⟨p1,_,rfl,.inl ⟨Qb Qc,fun t1 I=>J _ _ r (Y22 (yJ (eqS y))) ((Qd i _).trans (Qd I _)) ⟨t1,rfl,Qz (by rw[Qc,Qxc])⟩⟩⟩⟩
  refine⟨_,rfl,p,C,dx,_,rfl,a _ _ R,T.cl,T.nH,zK l3 Dc,?_⟩
  obtain⟨ad,e4⟩:∃fs,fs=putF "shuts" (.ref D4) Z:=⟨_,rfl⟩
  have l4:ad.length<=4:=e4▸Wg l3
  rw[<-e4]
  obtain⟨f4,s4,g4,G⟩:=FrP.stage (C:=C) (dx:=dx) a ad g3
  generalize upd X p (.ins C dx ad)=H4 at f4 s4 g4 G⊢
  have c4:=f4.lst (a _ _ R) N
  have t4:TupsOf K H4 y4 (B.filter (selW "shut")):=TupsOf.frP (by rw[<-kJf];exact l) f4 (a _ _ R)
  have an:=g4.lst hp hd
  have aG:=hB.frP g4 hp
  clear l a
  refine⟨_,rfl,d,rfl,⟨_,Qb an⟩,fun D5 L=>Qcd (f:=Option.guard (selW "store")) (TpV K) (fun s ⟨t,e,z⟩=>⟨t,e,s.tup z⟩) (fun hg ⟨t,e,z⟩=>⟨t,e,Zi hg z⟩) (cs:=[]) rfl an aG Om L (fun r j H1 hm s1 c P1 P2 J U=>?_) (fun y5 X a N l=>?_)⟩
  .refine⟨_,rfl,j,_,_,_,rfl,rfl,Qb c,Yp r,rfl,_,rfl,ite2 (fun y=>?_) (fun y=>U (Y20 fun e=>y (by rw[kK e];exact yesS _)) _ (Same.refl _))⟩
   exact⟨_,rfl,_,rfl,j,_,rfl,Qb c,fun p1 i=>⟨p1,_,rfl,.inl ⟨Qb Qc,fun t1 I=>J _ _ r (Y22 (yJ (eqS y))) ((Qd i _).trans (Qd I _)) ⟨t1,rfl,Qz (by rw[Qc,Qxc])⟩⟩⟩⟩
  refine⟨_,rfl,p,C,dx,_,rfl,a _ _ G,T.cl,T.nS,zK l4 Dc,?_⟩
  obtain⟨ac,e5⟩:∃fs,fs=putF "stores" (.ref D5) ad:=⟨_,rfl⟩
  have l5:ac.length<=5:=e5▸Wg l4
  rw[<-e5]
  obtain⟨f5,s5,g5,m⟩:=FrP.stage (C:=C) (dx:=dx) a ac g4
  generalize upd X p (.ins C dx ac)=H5 at f5 s5 g5 m⊢
  have c5:=f5.lst (a _ _ G) N
  have t5:TupsOf K H5 y5 (B.filter (selW "store")):=TupsOf.frP (by rw[<-kJf];exact l) f5 (a _ _ G)
  have al:=g5.lst hp hd
  have aD:=hB.frP g5 hp
  clear l a
  refine⟨_,rfl,d,rfl,⟨_,Qb al⟩,fun D6 L=>Qcd (f:=Option.guard (selW "after")) (TpV K) (fun s ⟨t,e,z⟩=>⟨t,e,s.tup z⟩) (fun hg ⟨t,e,z⟩=>⟨t,e,Zi hg z⟩) (cs:=[]) rfl al aD Om L (fun r j H1 hm s1 c P1 P2 J U=>?_) (fun y6 X a N l=>?_)⟩
  .refine⟨_,rfl,j,_,_,_,rfl,rfl,Qb c,Yp r,rfl,_,rfl,ite2 (fun y=>?_) (fun y=>U (Y20 fun e=>y (by rw[kK e];exact yesS _)) _ (Same.refl _))⟩
   exact⟨_,rfl,_,rfl,j,_,rfl,Qb c,fun p1 i=>⟨p1,_,rfl,.inl ⟨Qb Qc,fun t1 I=>J _ _ r (Y22 (yJ (eqS y))) ((Qd i _).trans (Qd I _)) ⟨t1,rfl,Qz (by rw[Qc,Qxc])⟩⟩⟩⟩
  refine⟨_,rfl,p,C,dx,_,rfl,a _ _ m,T.cl,T.nA,zK l5 Dc,?_⟩
  obtain⟨S,e6⟩:∃fs,fs=putF "afters" (.ref D6) ac:=⟨_,rfl⟩
  have l6:S.length<=6:=e6▸Wg l5
  rw[<-e6]
  obtain⟨f6,s6,g6,aa⟩:=FrP.stage (C:=C) (dx:=dx) a S g5
  generalize upd X p (.ins C dx S)=H6 at f6 s6 g6 aa⊢
  have c6:=f6.lst (a _ _ m) N
  have t6:TupsOf K H6 y6 (B.filter (selW "after")):=TupsOf.frP (by rw[<-kJf];exact l) f6 (a _ _ m)
  have ai:=g6.lst hp hd
  have aC:=hB.frP g6 hp
  clear l a
  refine⟨_,rfl,d,rfl,⟨_,Qb ai⟩,fun D L=>Qcd (f:=some) (SdV K) (fun s ⟨t,b,u,e,h1,h2,h3⟩=>⟨t,b,u,e,s.tup h1,s _ _ h2,s.tup h3⟩) (fun hg ⟨t,b,u,e,h1,h2,h3⟩=>⟨t,b,u,e,Zi hg h1,by rw[Qj (Yl h2 hg (by intro z;cases z))];exact h2,Zi hg h3⟩) (cs:=[]) rfl ai aC Om L (fun r j H1 hm s1 c P1 P2 J U=>?_) (fun ys X a N l=>?_)⟩
  .refine⟨_,rfl,j,r,rfl,c,fun b1 H3 s3 aH az=>?_⟩
   refine⟨_,rfl,_,rfl,j,r,rfl,s3 _ _ c,fun b2 H4 s4 aJ aB=>?_⟩
   refine⟨b2,_,rfl,.inr (Qz aB),_,rfl,j,_,rfl,Qb (s4 _ _ (s3 _ _ c)),fun p5 m=>?_⟩
   rw[Qsz]
   refine⟨p5,_,rfl,.inl ⟨Qb Qc,fun t6 aE=>⟨Z1 2,fun t7 av=>?_⟩⟩⟩
   have s7:=Qd av (.tup [.ref b1,.ref t6])
   have ao:=(s4.trans (Qd m (.lst (r.nums.map V.int)))).trans (Qd aE (.tup (r.nums.map V.int)))
   exact J _ _ r rfl (s3.trans (ao.trans s7)) ⟨t7,b1,t6,rfl,Qz Qc,(ao.trans s7) _ _ az,s7.tup (Qz Qc)⟩
  rw[List.filterMap_some]at l
  have ly:=Paired.length l
  obtain⟨ps,hq,hs⟩:=Qcv l
  have aK:=Paired.length hs
  refine⟨D,ys,ps,rfl,Qb N,hq,Om,fun ds au=>?_⟩
  have s8:=Qd au (.dT (Xk ps))
  have ag:=a.trans s8
  have O:upd X ds (.dT (Xk ps)) ds=some (.dT (Xk ps)):=Qc
  have af:SaidOk K (upd X ds (.dT (Xk ps))) (Xk ps) B:=Qxb (Paired.mapP hs fun _ _ ⟨e,t,e2,z⟩=>⟨e,t,e2,s8.tup z⟩) bk.wb
  generalize upd X ds (.dT (Xk ps))=H8 at s8 ag O af⊢
  have ae:=ag _ _ aa
  refine⟨_,rfl,p,C,dx,_,rfl,ae,T.cl,T.nI,zK l6 Dc,?_⟩
  obtain⟨f7,s7,g7,aI⟩:=FrP.stage (C:=C) (dx:=dx) ag (putF "said" (.ref ds) S) g6
  have u5:=s6.trans s7
  have u4:=s5.trans u5
  have u3:=s4.trans u4
  exact q _ ⟨dx,lw,D3,D4,D5,D6,ds,putF "said" (.ref ds) S,Xk ps,y4,y5,y6,{
   hp:=Qc
   fe:=by subst e6 e5 e4 e3 e2 e1;rfl
   hW:=(s3.trans u3).lst ab (i2▸c2)
   hB:=u3.lst R (i3▸c3)
   hH:=u4.lst G c4
   hS:=u5.lst m c5
   hA:=s7.lst aa c6
   tH:=t4.frP u4 G
   tS:=t5.frP u5 m
   tA:=t6.frP s7 aa
   hI:=f7 _ _ O (Yl O ae (by intro z;cases z))
   sd:=⟨fun r c aF=>(let ⟨t,e1,e2⟩:=af.1 r c aF;⟨t,e1,Qta ae e2⟩),af.2⟩
   wo:=Qls hs bk.wb
   kl:=jQc (Qav ps) Om }⟩ g7
abbrev Vt:Stmt:=inClass (top 11) 1
abbrev Qbm:Stmt:=inClass (top 11) 2
abbrev Qbn:Stmt:=inClass (top 11) 6
theorem cut2(a b c:V):cutV [a,b,c] none (some 2)=[a,b]:=by
 unfold cutV
 rw[HT.sIx_none,show(2:Int)=((2:Nat):Int)from rfl,HT.sIx_nat]
 rfl
theorem Qie(b:SaidOk K H kvs B){w:Str}{l:Int}(h:BR.way w v l c∈B){ds t3:Addr}(g:H ds=some (.dT kvs))(d:H t3=some (.tup [.str "way",.str w,.str v])):∃t,DGet H ds (.ref t3) (some (.ref t))/\SqT K H t [.int l,.int c]:=by
 obtain⟨t,e,f⟩:=b.1 _ h (Sn "way" "shut")
 have a:=DGet.t (k:=(BR.way w v l c).key) g d
 rw[e]at a
 exact⟨t,a,f⟩
theorem Qxf(b:WB n B)(k:Fin 3)(w v t:Str):(B.filterMap (Kh k w v t)).Pairwise fun _ _=>False:=by
 rw[List.pairwise_filterMap]
 refine b.nd.imp fun{r q} c x hx y hy=>?_
 have e:=manyOf_some.mp hx
 have d:=manyOf_some.mp hy
 subst e d
 have a:¬useW k="shut":=by
  match k with
  |0=>decide +kernel
  |1=>decide +kernel
  |2=>decide +kernel
 rcases c with z | z | z
 .exact a z
 .exact a z
 .exact z rfl
theorem Qtc(c:WB n B){k:Fin 3}{w t:Str}{m:Int}(h:BR.use k w v t m∈B):Yx B k w v t=m:=by
 have a:m∈B.filterMap (Kh k w v t):=xQ.mpr ⟨_,h,manyOf_some.mpr rfl⟩
 have b:=Qxf c k w v t
 unfold Yx
 revert a b
 generalize B.filterMap (Kh k w v t)=L
 intro a b
 match L,a,b with
 |[x],a,_=>
  rw[jW.mp a]
  show x+0=x
  lia
 |x::y::L,_,b=>exact Y21 ((jYe.mp b).1 y jY) (fun z=>z)
theorem Qtd{k:Fin 3}{w t:Str}(h:∀m,BR.use k w v t m∉B):Yx B k w v t=0:=by
 unfold Yx
 cases e:B.filterMap (Kh k w v t)with
 |nil=>rfl
 |cons x L=>
  have b:x∈B.filterMap (Kh k w v t):=by rw[e];exact jY
  obtain⟨r,a,c⟩:=xQ.mp b
  rw[manyOf_some.mp c]at a
  exact Y21 a (h _)
theorem Qte(D:WB n B)(d:SaidOk K H kvs B){k:Fin 3}{w t:Str}{t2:Addr}(o:SqT K H t2 [.int 0]):∃tl,(valV kvs [inr (useW k),inr w,inr v,inr t]).getD (.ref t2)=.ref tl/\SqT K H tl [.int (Yx B k w v t)]:=by
 by_cases a:∃m,BR.use k w v t m∈B
 .obtain⟨m,a⟩:=a
  have A:¬useW k="shut":=by
   match k with
   |0=>decide +kernel
   |1=>decide +kernel
   |2=>decide +kernel
  obtain⟨c,e,x⟩:=d.1 _ a A
  have j:valV kvs [inr (useW k),inr w,inr v,inr t]=some (.ref c):=e
  rw[j,Qtc D a]
  exact⟨c,rfl,x⟩
 .have b:∀m,BR.use k w v t m∉B:=fun m h=>a ⟨m,h⟩
  have e:valV kvs [inr (useW k),inr w,inr v,inr t]=none:=d.2 _ fun r p z=>by
   have E:((inr r.word:Key)::r.names.map inr)=[inr (useW k),inr w,inr v,inr t]:=z
   have i:r.word=useW k:=by
    injection E with g
    exact Y37 g
   obtain⟨G,I,f,m,rfl⟩:=Qka i
   have C:[(inr (useW k):Key),inr G,inr I,inr f]=[inr (useW k),inr w,inr v,inr t]:=z
   injection C with _ q
   injection q with u F
   injection F with y s
   injection s with l
   cases u
   cases y
   cases l
   exact b _ p
  rw[e,Qtd b]
  exact⟨t2,rfl,o⟩
def Qgf(K:Fg)(C:Addr):Sp:=fun vs H Q _=>∃(p ch:Addr) (n:Int) (B:List BR) (w v:Str) (b l c:Int),vs=[.ref p,.ref ch]/\FcAt K C H p n B/\SqT K H ch [.str w,.str v,.int b]/\.way w v l c∈B/\∀H',Same H H'->Q (.int (b+l)) H'
def Qkf(K:Fg)(C:Addr):Sp:=fun vs H Q _=>∃(p:Addr) (n:Int) (B:List BR) (w v:Str) (l c:Int),vs=[.ref p,.str w,.str v]/\FcAt K C H p n B/\.way w v l c∈B/\∀H',Same H H'->Q (.bl true) H'
def Qif(K:Fg)(C:Addr):Sp:=fun vs H Q _=>∃(p:Addr) (n:Int) (B:List BR) (w v:Str) (l c:Int),vs=[.ref p,.str w,.str v]/\FcAt K C H p n B/\.way w v l c∈B/\∀H',Same H H'->Q (.int (n-l)) H'
def Qig(K:Fg)(C:Addr):Sp:=fun vs H Q _=>∃(p ch:Addr) (n:Int) (B:List BR) (k:Fin 3) (w v t:Str) (b:Int),vs=[.ref p,.str (useW k),.ref ch,.str t]/\FcAt K C H p n B/\WB n B/\SqT K H ch [.str w,.str v,.int b]/\∀H',Same H H'->Q (.int (Yx B k w v t)) H'
theorem scFcE:FnScope ["self","choice"] ["self","choice"] (Qh Qgc):=Sc
theorem Qou(F:Fun K "end_of" "Facts.end_of" Qgc f fd)(T:FcTxt K mg C):FnOk P w K mg base CX0 1 f fd ["self","choice"] (Qgf K C):=by
 refine F.ok scFcE (fun D H Q E h=>?_) (fun J A o s H D Q E G h=>?_)
 .obtain⟨p,m,n,B,w,v,b,l,c,rfl,_⟩:=h
  rfl
 .obtain⟨p,m,n,B,w,v,b,l,c,rfl,⟨x,W,lb,Z,ls,U,u,fs,N,X,S,ya,g⟩,d,e,q⟩:=h
  have I:=Qnb G
  refine⟨_,(Qi (Xb (Ql Xc (Qr Xr (pv 1) Qe) (Qr Xr (Kz I (Yn (pv 0) rfl) (Ql Qdq (Yy (Qa Qq Qf)) (Xi Qjd (pv 1) Yi (Xn Qe))) (fun _ _=>rfl)) Qe)))),?_⟩
  refine⟨_,rfl,m,_,_,_,rfl,rfl,d,(show atI [V.str w,V.str v,V.int b] 2=some (.int b)from rfl),?_⟩
  refine⟨_,rfl,p,C,x,fs,_,rfl,g.hp,T.cl,T.nI,g.fI,Z1 1,fun R j=>?_⟩
  have r:=Qd j (.tup [.str "way"])
  refine⟨_,rfl,_,rfl,m,_,rfl,r.tup d,(by show ¬(HT.sIx 3 0 none=0/\HT.sIx 3 3 (some 2)=3);decide),fun O a=>?_⟩
  rw[cut2]
  have L:=r.trans (Qd a (.tup [.str w,.str v]))
  refine⟨R,O,_,_,rfl,rfl,(Qd a _).tup (Qz Qc),Qz Qc,by simp,Z1 3,fun z=>Y21 z (by simp),fun _ Y k=>?_⟩
  have i:=L.trans (Qd k (.tup ([.str "way"]++[.str w,.str v])))
  obtain⟨t,y,M⟩:=Qie (g.sd.same i) e (i _ _ g.hI) Qc
  exact⟨u,_,rfl,y,t,_,_,_,rfl,rfl,M,at0,_,_,rfl,rfl,q _ i⟩
theorem scFcY:FnScope ["self","work","way"] ["self","work","way"] (Qh Vt):=Sc
theorem okFcY(F:Fun K "is_way" "Facts.is_way" Vt f fd)(T:FcTxt K mg C):FnOk P w K mg base CX0 1 f fd ["self","work","way"] (Qkf K C):=by
 refine F.ok scFcY (fun m H Q E h=>?_) (fun u A g s H m Q E o h=>?_)
 .obtain⟨p,n,B,w,v,l,c,rfl,_⟩:=h
  rfl
 .obtain⟨p,n,B,w,v,l,c,rfl,⟨j,D,M,I,O,z,i,fs,x,G,y,J,b⟩,a,q⟩:=h
  have r:=Qnb o
  refine⟨_,(Qi (Xb (pe_cmp (pc_din r (Yy (Qa Qq (Qa (pv 1) (Qa (pv 2) Qf)))) (Yn (pv 0) rfl))))),?_⟩
  refine⟨_,rfl,_,rfl,Z1 3,fun N e=>?_⟩
  have d:=Qd e (.tup [.str "way",.str w,.str v])
  obtain⟨t,k,L⟩:=Qie (b.sd.same d) a (d _ _ b.hI) Qc
  exact⟨_,rfl,p,C,j,fs,_,rfl,d _ _ b.hp,T.cl,T.nI,b.fI,i,_,rfl,k,q _ d⟩
theorem scFcL:FnScope ["self","work","way"] ["self","work","way"] (Qh Qbm):=Sc
theorem okFcL(F:Fun K "last_begin" "Facts.last_begin" Qbm f fd)(T:FcTxt K mg C):FnOk P w K mg base CX0 1 f fd ["self","work","way"] (Qif K C):=by
 refine F.ok scFcL (fun m H Q E h=>?_) (fun u A g s H m Q E o h=>?_)
 .obtain⟨p,n,B,w,v,l,c,rfl,_⟩:=h
  rfl
 .obtain⟨p,n,B,w,v,l,c,rfl,⟨i,G,M,J,O,D,j,fs,y,I,z,L,a⟩,b,q⟩:=h
  have r:=Qnb o
  refine⟨_,(Qi (Xb (Ql Qfd (Yn (pv 0) rfl) (Qr Xr (Kz r (Yn (pv 0) rfl) (Yy (Qa Qq (Qa (pv 1) (Qa (pv 2) Qf)))) (fun _ _=>rfl)) Qe)))),?_⟩
  refine⟨_,rfl,p,C,i,fs,_,rfl,a.hp,T.cl,T.nD,a.fD,_,rfl,p,C,i,fs,_,rfl,a.hp,T.cl,T.nI,a.fI,_,rfl,_,rfl,Z1 3,fun N d=>?_⟩
  have e:=Qd d (.tup [.str "way",.str w,.str v])
  obtain⟨t,k,x⟩:=Qie (a.sd.same e) b (e _ _ a.hI) Qc
  exact⟨j,_,rfl,k,t,_,_,_,rfl,rfl,x,at0,_,_,rfl,rfl,q _ e⟩
theorem scFcM:FnScope ["self","word","choice","name"] ["self","word","choice","name"] (Qh Qbn):=Sc
theorem Qxg(F:Fun K "many" "Facts.many" Qbn f fd)(T:FcTxt K mg C):FnOk P w K mg base CX0 1 f fd ["self","word","choice","name"] (Qig K C):=by
 refine F.ok scFcM (fun Y H Q E h=>?_) (fun aa A M s H Y Q E X h=>?_)
 .obtain⟨p,N,n,B,k,w,v,t,b,rfl,_⟩:=h
  rfl
 .obtain⟨p,N,n,B,k,w,v,t,b,rfl,⟨U,lw,lb,lh,ls,la,S,fs,J,yh,ab,ya,a⟩,wb,x,q⟩:=h
  have Z:=Qnb X
  refine⟨_,(Qi (Xb (Qr Xr (Qrs Z (Yn (pv 0) rfl) (Ql Qdq (Ql Qdq (Yy (Qa (pv 1) Qf)) (Xi Qjd (pv 2) Yi (Xn Qe))) (Yy (Qa (pv 3) Qf))) (Yy (Qa Qe Qf)) ⟨rfl,rfl,rfl,rfl⟩) Qe))),?_⟩
  refine⟨_,rfl,p,C,U,fs,_,rfl,a.hp,T.cl,T.nI,a.fI,S,rfl,.inr ⟨J,.inl a.hI⟩,_,rfl,Z1 1,fun t1 m=>?_⟩
  have O:=Qd m (.tup [.str (useW k)])
  refine⟨_,rfl,_,rfl,N,_,rfl,O.tup x,(by show ¬(HT.sIx 3 0 none=0/\HT.sIx 3 3 (some 2)=3);decide),fun t2 u=>?_⟩
  rw[cut2]
  have e:=Qd u (.tup [.str w,.str v])
  have s2:=O.trans e
  refine⟨t1,t2,_,_,rfl,rfl,e.tup (Qz Qc),Qz Qc,by simp,Z1 3,fun z=>Y21 z (by simp),fun _ t3 D=>?_⟩
  have l:=Qd D (.tup ([.str (useW k)]++[.str w,.str v]))
  have R:=s2.trans l
  refine⟨_,rfl,Z1 1,fun t4 L=>?_⟩
  have c:=Qd L (.tup [.str t])
  have s4:=R.trans c
  refine⟨t3,t4,_,_,rfl,rfl,c.tup (Qz Qc),Qz Qc,by simp,Z1 4,fun z=>Y21 z (by simp),fun _ t5 G=>?_⟩
  have j:=Qd G (.tup (([.str (useW k)]++[.str w,.str v])++[.str t]))
  have s5:=s4.trans j
  refine⟨Z1 1,fun t6 i=>?_⟩
  have g:=Qd i (.tup [.int 0])
  have r:=s5.trans g
  have d:=g _ _ (Qc (o:=.tup (([.str (useW k)]++[.str w,.str v])++[.str t])))
  obtain⟨W,y,I⟩:=Qte (k:=k) (w:=w) (v:=v) (t:=t) wb (a.sd.same r) (Qz Qc)
  refine⟨_,DGet.t (k:=[inr (useW k),inr w,inr v,inr t]) (r _ _ a.hI) d,?_⟩
  rw[y]
  exact⟨W,_,_,_,rfl,rfl,I,(show atI [V.int (Yx B k w v t)] 0=some _ from rfl),q _ r⟩
abbrev Qbo:Stmt:=inClass (top 11) 7
abbrev Qbp:Stmt:=inClass (top 11) 8
def Qcf(B:List BR)(st:Str)(day:Int)(p:Str×Str×Int):Int:=(if p.2.2+lenB B p.1 p.2.1<=day then Yx B 2 p.1 p.2.1 st else 0)-(if p.2.2<=day then Yx B 1 p.1 p.2.1 st else 0)
def Qih(K:Fg)(C:Addr):Sp:=fun vs H Q _=>∃(p ch:Addr) (n:Int) (B:List BR) (w v bn:Str) (b l c day:Int),vs=[.ref p,.ref ch,.str bn,.int day]/\FcAt K C H p n B/\WB n B/\SqT K H ch [.str w,.str v,.int b]/\.way w v l c∈B/\∀H',Same H H'->Q (.int (useR B bn day (w,v,b))) H'
def Qov(K:Fg)(C:Addr):Sp:=fun vs H Q _=>∃(p ch:Addr) (n:Int) (B:List BR) (w v bn:Str) (b l c day:Int),vs=[.ref p,.ref ch,.str bn,.int day]/\FcAt K C H p n B/\WB n B/\SqT K H ch [.str w,.str v,.int b]/\.way w v l c∈B/\∀H',Same H H'->Q (.int (Qcf B bn day (w,v,b))) H'
theorem scFcU:FnScope ["self","choice","bench","day"] ["self","choice","bench","day"] (Qh Qbo):=Sc
theorem okFcU(F:Fun K "used_by" "Facts.used_by" Qbo f fd)(T:FcTxt K mg C)(I:FnOk P w K mg base CX0 1 fE fdE ["self","choice"] (Qgf K C))(W:Binds K fdE ["self","choice"] [])(R:Meth K C "end_of" fE)(G:FnOk P w K mg base CX0 1 fM fdM ["self","word","choice","name"] (Qig K C))(D:Binds K fdM ["self","word","choice","name"] [])(S:Meth K C "many" fM):FnOk P w K mg base CX0 2 f fd ["self","choice","bench","day"] (Qih K C):=by
 refine F.ok scFcU (fun L H Q E h=>?_) (fun N A t s H L Q E M h=>?_)
 .obtain⟨p,o,n,B,w,v,i,b,l,c,a,rfl,_⟩:=h
  rfl
 .obtain⟨p,o,n,B,w,v,i,b,l,c,a,rfl,g,x,e,d,q⟩:=h
  obtain⟨u,lw,lb,lh,ls,Y,Z,fs,U,yh,X,ya,m⟩:=id g
  have j:Room 1 _:=M.mono Dc
  have J:useR B i a (w,v,b)=if b<=a/\a<b+l then Yx B 0 w v i else 0:=by
   show(if b<=a/\a<b+lenB B w v then Yx B 0 w v i else 0)=_
   rw[Zl x d]
  rw[J]at q
  refine⟨_,(Qg (Xy (Qdp Wu Qfe (Qr Xr (pv 1) Qe) (pv 3) (Zd (pv 0) T.cl R I j W .nil Jq (Qa (pv 1) Qf))) (Qi (Xb (Zd (pv 0) T.cl S G j D .nil Jq (Qa Qq (Qa (pv 1) (Qa (pv 2) Qf)))))) Xa) (Qi (Xb Qe))),?_⟩
  refine⟨_,rfl,o,_,_,_,rfl,rfl,e,(show atI [V.str w,V.str v,V.int b] 2=some (.int b)from rfl),_,rfl,_,_,rfl,rfl,_,rfl,ite2 (fun y=>?_) (fun y=>⟨_,rfl,iteF ?_⟩)⟩
  .refine⟨_,rfl,p,u,fs,rfl,m.hp,m.nE,_,rfl,p,o,n,B,w,v,b,l,c,rfl,g,e,d,fun H1 k=>⟨_,_,rfl,rfl,_,rfl,ite2 (fun r=>?_) (fun r=>?_)⟩⟩
   .rw[Y22 ⟨kK y,kK r⟩]at q
    exact⟨_,rfl,p,u,fs,rfl,k _ _ m.hp,m.nM,_,rfl,_,rfl,p,o,n,B,0,w,v,i,b,rfl,g.same k,x,k.tup e,fun H2 O=>q _ (k.trans O)⟩
   .rw[Y20 (fun z=>r (yJ z.2))]at q
    exact q _ k
  .rw[Y20 (fun z=>y (yJ z.1))]at q
   exact q _ (Same.refl _)
theorem scFcG:FnScope ["self","choice","store","day","gain"] ["self","choice","store","day"] (Qh Qbp):=Sc
theorem okFcG(F:Fun K "gain_by" "Facts.gain_by" Qbp f fd)(T:FcTxt K mg C)(S:FnOk P w K mg base CX0 1 fE fdE ["self","choice"] (Qgf K C))(bE:Binds K fdE ["self","choice"] [])(mE:Meth K C "end_of" fE)(O:FnOk P w K mg base CX0 1 fM fdM ["self","word","choice","name"] (Qig K C))(N:Binds K fdM ["self","word","choice","name"] [])(R:Meth K C "many" fM):FnOk P w K mg base CX0 2 f fd ["self","choice","store","day"] (Qov K C):=by
 refine F.ok scFcG (fun W H Q E h=>?_) (fun Z A L s H W Q E X h=>?_)
 .obtain⟨p,u,n,B,w,v,j,b,l,c,J,rfl,_⟩:=h
  rfl
 .obtain⟨p,u,n,B,w,v,j,b,l,c,J,rfl,g,D,d,a,q⟩:=h
  obtain⟨I,lw,lb,lh,ls,la,ds,fs,aa,yh,ab,ya,m⟩:=id g
  have x:Room 1 _:=X.mono Dc
  refine⟨_,(Qg (Z4 4 scFcG.nd Qe) (Qg (Xy (Qm Wu (Qr Xr (pv 1) Qe) (pv 3) (Qs _)) (Qi (Qmk (i:=4) scFcG.nd rfl (inl rfl) (Zd (pv 0) T.cl R O x N .nil Jq (Qa Qq (Qa (pv 1) (Qa (pv 2) Qf)))) ip_sub)) Xa) (Qg (Xy (Qm Wu (Zd (pv 0) T.cl mE S x bE .nil Jq (Qa (pv 1) Qf)) (pv 3) (Qs _)) (Qi (Qmk (i:=4) scFcG.nd rfl (inl rfl) (Zd (pv 0) T.cl R O x N .nil Jq (Qa Qq (Qa (pv 1) (Qa (pv 2) Qf)))) ip_add)) Xa) (Qi (Xb (pv 4)))))),?_⟩
  refine⟨_,rfl,u,_,_,_,rfl,rfl,d,(show atI [V.str w,V.str v,V.int b] 2=some (.int b)from rfl),_,rfl,_,_,rfl,rfl,_,rfl,ite2 (fun y=>?_) (fun y=>?_)⟩
  .refine⟨_,rfl,_,rfl,p,I,fs,rfl,m.hp,m.nM,_,rfl,_,rfl,p,u,n,B,1,w,v,j,b,rfl,g,D,d,fun H2 k=>⟨_,_,rfl,rfl,?_⟩⟩
   refine⟨_,rfl,p,I,fs,rfl,k _ _ m.hp,m.nE,_,rfl,p,u,n,B,w,v,b,l,c,rfl,g.same k,k.tup d,a,fun U G=>⟨_,rfl,_,_,rfl,rfl,_,rfl,ite2 (fun t=>?_) (fun t=>?_)⟩⟩
   .have o:=k.trans G
    refine⟨_,rfl,_,rfl,p,I,fs,rfl,o _ _ m.hp,m.nM,_,rfl,_,rfl,p,u,n,B,2,w,v,j,b,rfl,g.same o,D,o.tup d,fun Y M=>⟨_,_,rfl,rfl,?_⟩⟩
    refine⟨_,rfl,?_⟩
    have e:=q _ (o.trans M)
    unfold Qcf at e
    rw[Zl D a,Y22 (kK t),Y22 (kK y)]at e
    have r:0-Yx B 1 w v j+Yx B 2 w v j=Yx B 2 w v j-Yx B 1 w v j:=Om
    dsimp only
    rw[r]
    exact e
   .refine⟨_,rfl,?_⟩
    have e:=q _ (k.trans G)
    unfold Qcf at e
    rw[Zl D a,Y20 (fun z=>t (yJ z)),Y22 (kK y)]at e
    have r:0-Yx B 1 w v j=0-Yx B 1 w v j:=Om
    first | exact e | (rw[r];exact e)
  .have k:=Same.refl H
   refine⟨_,rfl,p,I,fs,rfl,k _ _ m.hp,m.nE,_,rfl,p,u,n,B,w,v,b,l,c,rfl,g.same k,k.tup d,a,fun U G=>⟨_,rfl,_,_,rfl,rfl,_,rfl,ite2 (fun t=>?_) (fun t=>?_)⟩⟩
   .have o:=k.trans G
    refine⟨_,rfl,_,rfl,p,I,fs,rfl,o _ _ m.hp,m.nM,_,rfl,_,rfl,p,u,n,B,2,w,v,j,b,rfl,g.same o,D,o.tup d,fun Y M=>⟨_,_,rfl,rfl,?_⟩⟩
    refine⟨_,rfl,?_⟩
    have e:=q _ (o.trans M)
    unfold Qcf at e
    rw[Zl D a,Y22 (kK t),Y20 (fun z=>y (yJ z))]at e
    have r:0+Yx B 2 w v j=Yx B 2 w v j-0:=Om
    dsimp only
    rw[r]
    exact e
   .refine⟨_,rfl,?_⟩
    have e:=q _ (k.trans G)
    unfold Qcf at e
    rw[Zl D a,Y20 (fun z=>t (yJ z)),Y20 (fun z=>y (yJ z))]at e
    have r:0=0-0:=Om
    first | exact e | (rw[r];exact e)
abbrev Qbq:Stmt:=inClass (top 11) 9
theorem Qow(c:SaidOk K H kvs B){b:Str}{r:Int}(h:BR.bench b r∈B){ds t3:Addr}(g:H ds=some (.dT kvs))(d:H t3=some (.tup [.str "bench",.str b])):∃t,DGet H ds (.ref t3) (some (.ref t))/\SqT K H t [.int r]:=by
 obtain⟨t,e,f⟩:=c.1 _ h (Sn "bench" "shut")
 have a:=DGet.t (k:=(BR.bench b r).key) g d
 rw[e]at a
 exact⟨t,a,f⟩
theorem Qtf{b:Str}{day r:Int}:Qid B b r day=if ((B.filter (selW "shut")).map (Ks b day)).any id=true then 0 else r:=by
 unfold Qid
 by_cases h:((B.filter (selW "shut")).map (Ks b day)).any id=true
 .rw[Y22 h,Y20]
  intro z
  obtain⟨x,g,e⟩:=jXb.mp h
  obtain⟨q,j,i⟩:=zV.mp g
  have a:q∈B.filter (Ks b day):=xY.mpr ⟨(xY.mp j).1,by rw[i];exact e⟩
  rw[jYb z]at a
  exact nomatch a
 .rw[Y20 h,Y22]
  cases e:B.filter (Ks b day)with
  |nil=>rfl
  |cons q L=>
   exfalso
   have a:q∈B.filter (Ks b day):=by rw[e];exact jY
   obtain⟨d,c⟩:=xY.mp a
   refine h (jXb.mpr ⟨true,zV.mpr ⟨q,xY.mpr ⟨d,?_⟩,c⟩,rfl⟩)
   refine yJ ?_
   cases q with
   |shut b' f t=>rfl
   |_=>cases c
def Qox(K:Fg)(C:Addr):Sp:=fun vs H Q _=>∃(p:Addr) (n:Int) (B:List BR) (bn:Str) (r day:Int),vs=[.ref p,.str bn,.int day]/\FcAt K C H p n B/\WB n B/\.bench bn r∈B/\∀H',Same H H'->Q (.int (Qid B bn r day)) H'
theorem scFcR:FnScope ["self","bench","day"] ["self","bench","day"] (Qh Qbq):=Sc
theorem okFcR(F:Fun K "room_of" "Facts.room_of" Qbq f fd)(M:Mg mg)(T:FcTxt K mg C):FnOk P w K mg base CX0 1 f fd ["self","bench","day"] (Qox K C):=by
 refine F.ok scFcR (fun vs H Q E h=>?_) (fun ae A ac s H vs Q E hr h=>?_)
 .obtain⟨p,n,B,u,r,a,rfl,_⟩:=h
  rfl
 .obtain⟨p,n,B,u,r,a,rfl,ad,wb,X,q⟩:=h
  obtain⟨dx,lw,lb,lh,ls,la,ds,fs,af,W,ag,ya,d⟩:=id ad
  have hz:=X0 20000
  have hu:=Qnb hr
  have bl:=wb.len
  have lt:=Paired.length d.tH
  have lf:(B.filter (selW "shut")).length<=B.length:=jXf _ _
  refine⟨_,(Qg (Xy (Jk (Qt (Qni rfl) rfl M.any bt_any (Qa (Yu ["name","begin","end","bench","day"] [none,none,none,some 1,some 2] rfl (Qx (Yn (pv 0) rfl)) (fun _ _ _=>(Qnt (K:=K) (i:=0) (j:=1) (l:=2) rfl rfl (show(["name","begin","end","bench","day"]:List Str).Nodup by decide +kernel) rfl rfl rfl rfl rfl rfl)) (fun _ _ _=>Yr) (fun _ _ _=>(Wn (Kb Yq (pv 0) (pv 3) (Qs _)) (Wm (Qdo Wu Qfe (pv 1) (pv 4) (pv 2)))))) Qf))) (Qi (Xb Qe)) Xa) (Qi (Xb (Qr Xr (Kz hu (Yn (pv 0) rfl) (Yy (Qa Qq (Qa (pv 1) Qf))) (fun _ _=>rfl)) Qe)))),?_⟩
  refine⟨_,rfl,p,C,dx,fs,_,rfl,d.hp,T.cl,T.nH,d.fH,lh,rfl,⟨_,Qb d.hH⟩,fun D hD=>?_⟩
  let Z:Nat->St->List V->Hp->Prop:=fun m S g N=>∃J G I:Option V,S=[J,G,I,some (.str u),some (.int a)]/\g=(((B.filter (selW "shut")).take m).map (Ks u a)).map V.bl/\N D=some (.lst g)/\Same H N
  refine Ze (n:=W.length) Z ?_ (fun m S g N hm h=>?_) (fun m S g N hm h=>?_) (fun S g N h=>?_) ?_ ?_
  .exact⟨none,none,none,rfl,rfl,Qc,Qd hD _⟩
  .obtain⟨J,G,I,rfl,v,L,k⟩:=h
   exact⟨L,by rw[v,jX,jX,xJ];lia⟩
  .obtain⟨J,G,I,rfl,v,L,k⟩:=h
   exact⟨W,W[m]'hm,k.seq (Qb d.hH),gE hm⟩
  .obtain⟨J,G,I,rfl,v,L,k⟩:=h
   exact⟨W,k.seq (Qb d.hH),jK _⟩
  .rintro m S g N x H2 hm ⟨J,G,I,rfl,v,L,k⟩ ⟨rfl,e1⟩
   obtain⟨r',Y,t,rfl,hT⟩:=Qv d.tH (e1 _ (k.seq (Qb d.hH)))
   obtain⟨b',U,O,rfl⟩:=Qoq (kK (xY.mp (kW Y)).2)
   have ab:SqT K H2 t [.str b',.int U,.int O]:=k.tup hT
   have fin:∀R:Bool,R=Ks u a (.shut b' U O)->H2 D=some (.lst g)/\∃J G I:Option V,([some (.str b'),some (.int U),some (.int O),some (.str u),some (.int a)]:St)=[J,G,I,some (.str u),some (.int a)]/\g++[V.bl R]=(((B.filter (selW "shut")).take (m+1)).map (Ks u a)).map V.bl/\upd H2 D (.lst (g++[V.bl R])) D=some (.lst (g++[V.bl R]))/\Same H (upd H2 D (.lst (g++[V.bl R]))):=fun R hb=>by
    refine⟨L,_,_,_,rfl,?_,Qc,fun c o e=>?_⟩
    .rw[Ka Y,zQ,zQ,v,hb];rfl
    .rw[Qj (Qk e hD)];exact k _ _ e
   have eS:Ks u a (.shut b' U O)=decide (b'=u/\U<=a/\a<O):=rfl
   refine⟨t,_,rfl,ab,rfl,_,_,rfl,_,_,rfl,_,_,rfl,rfl,?_⟩
   refine⟨_,rfl,_,rfl,rfl,_,rfl,ite2 (fun y=>?_) (fun y=>?_)⟩
   .refine⟨_,rfl,_,rfl,_,_,rfl,rfl,_,rfl,ite2 (fun y2=>⟨_,rfl,_,_,rfl,rfl,?_⟩) (fun y2=>?_)⟩
    .refine fin _ ?_
     rw[eS]
     by_cases e:a<O
     .rw[yJ e,yJ ⟨eqS y,kK y2,e⟩]
     .rw[xV e,xV (fun z=>e z.2.2)]
    .exact fin _ (by rw[eS,xV (fun z=>y2 (yJ z.2.1))])
   .exact fin _ (by rw[eS,xV (fun z=>y (by rw[z.1];exact yesS _))])
  .rintro S g N ⟨J,G,I,rfl,v,L,k⟩
   rw[show W.length=(B.filter (selW "shut")).length from lt,yV]at v
   subst v
   rw[Qtf]at q
   refine⟨D,_,rfl,Qb L,_,rfl,ite2 (fun y=>?_) (fun y=>?_)⟩
   .rw[Y22 y]at q
    exact q _ k
   .rw[Y20 y]at q
    refine⟨_,rfl,p,C,dx,fs,_,rfl,k _ _ d.hp,T.cl,T.nI,d.fI,_,rfl,Z1 2,fun t1 aa=>?_⟩
    have s2:=k.trans (Qd aa (.tup [.str "bench",.str u]))
    obtain⟨t,dg,hT⟩:=Qow (d.sd.same s2) X (s2 _ _ d.hI) Qc
    exact⟨ds,_,rfl,dg,t,_,_,_,rfl,rfl,hT,(show atI [V.int r] 0=some _ from rfl),q _ s2⟩
abbrev Qgg:Stmt:=top 13
def Zz(K:Fg)(H:Hp)(pl:Z7):List V->List Str->Prop:=Paired fun v w=>∃t,v=.ref t/\SqT K H t [.str w,.str (look pl w).1,.int (look pl w).2]
def Qii(K:Fg)(C:Addr):Sp:=fun vs H Q _=>∃(p P:Addr) (n:Int) (B:List BR) (pl:Z7),vs=[.ref p,.ref P]/\FcAt K C H p n B/\BookOk n B/\PlanAt K H P pl/\PlanFor n B pl/\B.flatMap (gW pl)=[]/\∀(D:Addr) (ys:List V) (H':Hp),Same H H'->H' D=some (.lst ys)->Zz K H' pl ys (wks B)->Q (.ref D) H'
theorem Qva(a:PlanFor n B pl)(f:WB n B)(j:B.flatMap (gW pl)=[]):pl.Perm ((wks B).map fun w=>(w,look pl w)):=by
 have nd:=a.nd f
 have h:(wks B).filter (hasW B)=wks B:=List.filter_eq_self.mpr fun w i=>by
  have d:=hasK_iff.mp (Zm j (wks_mem.mp i))
  exact(xY.mp (a.keys.mem_iff.mp d)).2
 have g:pl=(pl.map (·.1)).map fun w=>(w,look pl w):=by
  rw[jZd]
  refine(List.map_id pl).symm.trans (kXf fun p e=>?_)
  obtain⟨w,v,b⟩:=p
  show(w,v,b)=(w,look pl w)
  rw[Qeh nd e]
 have c:=a.keys
 rw[h]at c
 have k:=c.map fun w=>(w,look pl w)
 rwa [<-g]at k
theorem Qoy{a b:List Int}(h:a.Perm b):a.sum=b.sum:=by
 induction h with
 |nil=>rfl
 |cons x _ ih=>rw[jZa,jZa,ih]
 |swap x y l=>rw[jZa,jZa,jZa,jZa];lia
 |trans _ _ i j=>exact i.trans j
theorem Qel(a:PlanFor n B pl)(b:WB n B)(c:B.flatMap (gW pl)=[])(f:Str×Str×Int->Int):(pl.map f).sum=((wks B).map fun w=>f (w,look pl w)).sum:=by
 have h:=Qoy ((Qva a b c).map f)
 rw[jZd]at h
 exact h
theorem Qxh:FnScope ["facts","plan"] ["facts","plan"] (Qh Qgg):=Sc
theorem Qxi(F:Fn K mg "choices_taken" Qgg)(T:FcTxt K mg C):Cal P w K mg base 1 "choices_taken" ["facts","plan"] (Qii K C):=by
 refine Xt F Qxh (fun _ _ _ _ _ _=>Jt (fun _ _=>rfl)) (fun vs H Q E h=>?_) (fun f aa A W s H vs Q E hr h=>?_)
 .obtain⟨p,P,n,B,pl,rfl,_⟩:=h
  rfl
 obtain⟨p,P,n,B,pl,rfl,X,bk,hP,J,hW,q⟩:=h
 obtain⟨dx,lw,lb,lh,ls,la,ds,fs,ab,yh,ac,ya,O⟩:=id X
 have hp:=O.hp
 have S:=O.fW
 have g:=O.hW
 have hz:=X0 20000
 have hu:=Z6 1 hr.un
 have bl:=bk.wb.len
 have wl:(wks B).length<=B.length:=zY _ _
 have nd:=J.nd bk.wb
 refine⟨_,(Qi (Xb (Yu ["work","plan"] [none,some 1] rfl (Qx (Yn (pv 0) rfl)) (fun _ _ _=>(Z3 0 (show(["work","plan"]:List Str).Nodup by decide +kernel))) (fun _ _ _=>Yr) (fun _ _ _=>(Ql (Qsc (K:=K) rfl) (Yy (Qa (pv 0) Qf)) (Kz hu (pv 1) (pv 0) (fun _ _=>rfl))))))),?_⟩
 refine⟨_,rfl,p,C,dx,fs,_,rfl,hp,T.cl,T.nW,S,lw,rfl,⟨_,Qb g⟩,fun D Z=>?_⟩
 let I:Nat->St->List V->Hp->Prop:=fun m y d i=>∃v:Option V,y=[v,some (.ref P)]/\Zz K i pl d ((wks B).take m)/\d.length<=m/\i D=some (.lst d)/\Same H i
 refine Ze (n:=(wks B).length) I ?_ (fun m y d i M h=>?_) (fun m y d i M h=>?_) (fun y d i h=>?_) ?_ ?_
 .exact⟨none,rfl,.nil,jK _,Qc,Qd Z _⟩
 .obtain⟨v,rfl,u,G,k,a⟩:=h
  exact⟨k,Om⟩
 .obtain⟨v,rfl,u,G,k,a⟩:=h
  exact⟨_,.str (wks B)[m],a.seq (Qb g),by rw[yW,gE M];rfl⟩
 .obtain⟨v,rfl,u,G,k,a⟩:=h
  exact⟨_,a.seq (Qb g),by rw[jX];exact jK _⟩
 .rintro m y d i x H2 M ⟨v,rfl,u,G,k,a⟩ ⟨rfl,e1⟩
  have N:(wks B)[m]?=some (wks B)[m]:=gE M
  have ex:=e1 _ (a.seq (Qb g))
  rw[yW,N]at ex
  cases ex
  generalize (wks B)[m]=wk at N
  obtain⟨l,c,L,_⟩:=J.get bk.wb (Zm hW (wks_mem.mp (kW N)))
  refine⟨_,rfl,Z1 1,fun t1 R=>?_⟩
  have Y:=Qd R (.tup [.str wk])
  obtain⟨t,dg,hT⟩:=Qke (PlanAt.same hP (a.trans Y)) nd L
  refine⟨_,rfl,_,rfl,P,_,rfl,dg,t1,t,_,_,rfl,rfl,Qz Qc,hT,by simp,Z1 3,fun p3 H3 s3 U=>?_⟩
  have r:=Y.trans s3
  have j:=r _ _ k
  refine⟨j,_,rfl,?_,by rw[jJ];exact jQb G,Qc,fun b o e=>?_⟩
  .rw[Ka N]
   exact Paired.snoc (Paired.mapP u fun _ _ ⟨t,e,z⟩=>⟨t,e,Zi j (r.tup z)⟩) ⟨p3,rfl,Zi j U⟩
  .rw[Qj (Qk e Z)];exact r _ _ (a _ _ e)
 .rintro y d i ⟨v,rfl,u,G,k,a⟩
  rw[yV]at u
  exact q D d i a k u
abbrev sWR:Stmt:=top 16
def TupK(H:Hp):List V->List (List Key)->Prop:=Paired fun v ks=>∃t,v=.ref t/\H t=some (.tup (ks.map kV))
theorem TupK.same(h:TupK H vs kss)(s:Same H H'):TupK H' vs kss:=Paired.mapP h fun _ _ ⟨t,e,z⟩=>⟨t,e,s _ _ z⟩
theorem TupK.updL{W:Addr}(h:TupK H vs kss)(a:H W=some (.lst xs)):TupK (upd H W (.lst zs)) vs kss:=Paired.mapP h fun _ _ ⟨t,e,z⟩=>⟨t,e,by rw[Qj (Yl z a (by intro q;cases q))];exact z⟩
def benchP:BR->Option (Str×Int)
 |.bench b r=>some (b,r)
 |_=>none
def bnP(B:List BR):List (Str×Int):=B.filterMap benchP
theorem bns_eq(B:List BR):bns B=(bnP B).map (·.1):=by
 unfold bns bnP
 rw[List.map_filterMap]
 congr 1
 funext r
 cases r<;>rfl
theorem Qxj{b:Str}{r:Int}(h:(b,r)∈bnP B):BR.bench b r∈B:=by
 obtain⟨q,a,e⟩:=xQ.mp h
 cases q with
 |bench b' r'=>cases e;exact a
 |_=>cases e
theorem fm_fm{α β γ:Type}{g:α->List γ}{f:α->Option β}{h:β->List γ}(e:∀a,g a=match f a with | none=>[] | some b=>h b):∀L:List α,L.flatMap g=(L.filterMap f).flatMap h
 |[]=>rfl
 |a::L=>by
  rw[jZe,fm_fm e L,e a,jXe]
  cases f a with
  |none=>rfl
  |some b=>rw[jZe]
def hR(n:Int)(B:List BR)(pl:Z7)(q:Str×Int):List (List Key):=(Jz (fun day=>Vs B pl q.1 q.2 day<0) n.toNat).map fun d:Nat=>[inr ("room":Str),inr q.1,Sum.inl (d:Int)]
theorem gR_eq(n:Int)(B:List BR)(pl:Z7):B.flatMap (gR n B pl)=(bnP B).flatMap (hR n B pl):=fm_fm (fun a=>by cases a<;>rfl) B
theorem Kk{f:Int->Prop}[DecidablePred f](j:Nat):Jz f (j+1)=Jz f j++(if f j then[j]else[]):=by
 unfold Jz
 rw[yQa,jKa]
 congr 1
 by_cases e:f j
 .rw[Y22 e];simp[kXa,e]
 .rw[Y20 e];simp[kXa,e]
def spWR(K:Fg)(C:Addr):Sp:=fun vs H Q _=>∃(p tk:Addr) (n:Int) (B:List BR) (pl:Z7) (ys:List V),vs=[.ref p,.ref tk]/\FcAt K C H p n B/\BookOk n B/\PlanFor n B pl/\B.flatMap (gW pl)=[]/\H tk=some (.lst ys)/\Zz K H pl ys (wks B)/\∀(D:Addr) (xs:List V) (H':Hp),Same H H'->H' D=some (.lst xs)->xs.length<=5000->TupK H' xs (B.flatMap (gR n B pl))->Q (.ref D) H'
theorem scWR:FnScope ["facts","taken","wrong","bench","day"] ["facts","taken"] (Qh sWR):=Sc
theorem okWR{fR:Addr}{fdR:FuncData}(F:Fn K mg "wrong_rooms" sWR)(M:Mg mg)(T:FcTxt K mg C)(GU:FnOk P w K mg base CX0 2 fU fdU ["self","choice","bench","day"] (Qih K C))(bU:Binds K fdU ["self","choice","bench","day"] [])(mU:Meth K C "used_by" fU)(GR:FnOk P w K mg base CX0 1 fR fdR ["self","bench","day"] (Qox K C))(bR:Binds K fdR ["self","bench","day"] [])(mR:Meth K C "room_of" fR):Cal P w K mg base 4 "wrong_rooms" ["facts","taken"] (spWR K C):=by
 refine Xt F scWR (fun _ _ _ _ _ _=>Jt (fun _ _=>rfl)) (fun vs H Q E h=>?_) (fun f ay A aq s H vs Q E hr h=>?_)
 .obtain⟨p,tk,n,B,I,ys,rfl,_⟩:=h
  rfl
 obtain⟨p,tk,n,B,I,ys,rfl,ab,bk,al,hW,ar,am,q⟩:=h
 obtain⟨dx,lw,lb,lh,ls,la,ds,fs,av,yh,az,ya,L⟩:=id ab
 have hz:=X0 20000
 have bl:=bk.wb.len
 have n1:=bk.n1
 have ax:=bk.n12
 have lT:=Paired.length am
 have wl:(wks B).length<=B.length:=zY _ _
 have aw:(bnP B).length<=B.length:=zY _ _
 have ak:H lb=some (.lst (((bnP B).map (·.1)).map V.str)):=by rw[<-bns_eq];exact L.hB
 refine⟨_,(Qg (Z4 2 scWR.nd (Xd Qf))
  (Qg (Ye Y33 rfl (Qx (Yn (pv 0) rfl)) (Z3 3 scWR.nd) (Qi (Ye Y33 rfl (Xo rfl M.range_ (Qa (Yn (pv 0) rfl) Qf)) (Z3 4 scWR.nd)
   (Qi (Xy (Qm Qdm (Qt (Vm rfl) rfl M.sum Qji (Qa (Yu ["choice","facts","bench","day"] [none,some 0,some 3,some 4] rfl (Qx (pv 1)) (fun _ _ _=>(Z3 0 (show(["choice","facts","bench","day"]:List Str).Nodup by decide +kernel))) (fun _ _ _=>Yr) (fun _ _ _=>(Zd (pv 1) T.cl mU GU (hr.mono Dc) bU .nil Jq (Qa (pv 0) (Qa (pv 2) (Qa (pv 3) Qf)))))) Qf)) (Zd (pv 0) T.cl mR GR (hr.mono Dc) bR .nil Jq (Qa (pv 3) (Qa (pv 4) Qf))) (Qs _)) (Qi (Yg (Zh Y1 Y2 Y3 Xh (pv 2) (Qa (Yy (Qa Qq (Qa (pv 3) (Qa (pv 4) Qf)))) Qf)))) Xa)))))
  (Qi (Xb (pv 2))))),?_⟩
 refine⟨Z1 0,fun W ah=>?_⟩
 have s0:=Qd ah (.lst [])
 let ae:Nat->St->Hp->Prop:=fun i O H1=>∃(v3 S:Option V) (xs:List V),O=[some (.ref p),some (.ref tk),some (.ref W),v3,S]/\H1 W=some (.lst xs)/\xs.length<=12*i/\TupK H1 xs (((bnP B).take i).flatMap (hR n B I))/\Same H H1
 refine⟨_,rfl,p,C,dx,fs,_,rfl,s0 _ _ L.hp,T.cl,T.nB,L.fB,lb,rfl,⟨_,Qb (s0 _ _ ak)⟩,Zc (K:=K) (a:=lb) (xs:=((bnP B).map (·.1)).map V.str) ae ⟨none,none,[],rfl,Qc,jK _,.nil,s0⟩ (fun i O H1 _ h=>?_) ?_ ?_⟩
 .obtain⟨v3,S,xs,rfl,U,lx,J,s1⟩:=h
  exact s1.seq (Qb ak)
 .rintro i x O H1 e1 ⟨v3,S,xs,rfl,U,lx,J,s1⟩
  rw[yW,yW]at e1
  obtain⟨⟨g,r⟩,eb⟩:∃q,(bnP B)[i]?=some q:=by
   cases e:(bnP B)[i]? with
   |none=>rw[e]at e1;cases e1
   |some q=>exact⟨q,rfl⟩
  rw[eb]at e1
  cases e1
  have ai:=Qxj (kW eb)
  have il:=(kX.mp eb).1
  let ag:Nat->St->Hp->Prop:=fun j O H2=>∃(S:Option V) (xs:List V),O=[some (.ref p),some (.ref tk),some (.ref W),some (.str g),S]/\H2 W=some (.lst xs)/\xs.length<=12*i+j/\TupK H2 xs (((bnP B).take i).flatMap (hR n B I)++(Jz (fun aa=>Vs B I g r aa<0) j).map fun d:Nat=>[inr ("room":Str),inr g,Sum.inl (d:Int)])/\Same H H2
  refine⟨_,rfl,p,C,dx,fs,_,rfl,s1 _ _ L.hp,T.cl,T.nD,L.fD,n,rfl,Om,Om,Yh (lo:=0) (n:=n.toNat) ag ⟨_,_,rfl,U,lx,by rw[show Jz (fun aa=>Vs B I g r aa<0) 0=[]from rfl,kKc,xX];exact J,s1⟩ ?_ ?_⟩
  .rintro j O H2 hj ⟨S,xs,rfl,U,lx,J,s2⟩
   rw[kJb]
   have k:=s2 _ _ ar
   refine⟨_,rfl,tk,rfl,⟨_,Qb k⟩,fun D hD=>?_⟩
   let aj:Nat->St->List V->Hp->Prop:=fun m τ Y X=>∃v:Option V,τ=[v,some (.ref p),some (.str g),some (.int j)]/\Y=(((wks B).take m).map fun w=>useR B g j (w,look I w)).map V.int/\X D=some (.lst Y)/\Same H2 X
   refine Ze (n:=(wks B).length) aj ?_ (fun m τ Y X hm h=>?_) (fun m τ Y X hm h=>?_) (fun τ Y X h=>?_) ?_ ?_
   .exact⟨none,rfl,rfl,Qc,Qd hD _⟩
   .obtain⟨v,rfl,rfl,R,G⟩:=h
    exact⟨R,by rw[jX,jX,xJ];lia⟩
   .obtain⟨v,rfl,rfl,R,G⟩:=h
    exact⟨ys,ys[m]'Om,G.seq (Qb k),gE Om⟩
   .obtain⟨v,rfl,rfl,R,G⟩:=h
    exact⟨ys,G.seq (Qb k),Om⟩
   .rintro m τ Y X x H4 hm ⟨v,rfl,rfl,R,G⟩ ⟨rfl,e2⟩
    obtain⟨wk,ao,t,rfl,hT⟩:=Qv am (e2 _ (G.seq (Qb k)))
    obtain⟨l,c,au,af,b0,b1⟩:=al.get bk.wb (Zm hW (wks_mem.mp (kW ao)))
    have u:=s2.trans G
    refine⟨_,rfl,p,dx,fs,rfl,u _ _ L.hp,L.nU,_,rfl,_,rfl,_,rfl,p,t,n,B,wk,_,g,_,l,c,j,rfl,ab.same u,bk.wb,u.tup hT,af,fun H5 s5=>?_⟩
    refine⟨s5 _ _ R,_,rfl,?_,Qc,fun b o e=>?_⟩
    .rw[Ka ao,zQ,zQ];rfl
    .rw[Qj (Qk e hD)];exact s5 _ _ (G _ _ e)
   .rintro τ Y X ⟨v,rfl,rfl,R,G⟩
    rw[yV]at R
    have u:=s2.trans G
    refine⟨D,_,rfl,Qb R,_,rfl,p,dx,fs,rfl,u _ _ L.hp,L.nR,_,rfl,_,rfl,p,n,B,g,r,j,rfl,ab.same u,bk.wb,ai,fun H4 s4=>?_⟩
    have N:=G.trans s4
    have Z:=N _ _ U
    have an:=J.same N
    rw[<-Qel al bk.wb hW (useR B g j)]
    refine⟨_,_,rfl,rfl,_,rfl,ite2 (fun y=>?_) (fun y=>?_)⟩
    .have ap:Vs B I g r j<0:=by
      have z:(I.map (useR B g j)).sum > Qid B g r j:=kK y
      unfold Vs
      lia
     refine⟨_,rfl,.inl ⟨rfl,_,Qb Z⟩,_,rfl,_,rfl,Z1 3,fun t ht=>?_⟩
     have s5:=Qd ht (.tup [.str "room",.str g,.int j])
     have ac:=s5 _ _ Z
     refine⟨W,_,_,rfl,rfl,ac,Om,_,_,rfl,Qc,by rw[jJ];exact jQb lx,?_,fun b o e=>?_⟩
     .rw[Kk,Y22 ap,zQ,<-zJ]
      exact Paired.snoc ((an.same s5).updL ac) ⟨t,rfl,by rw[Qj (Yl Qc ac (by intro z;cases z))];exact Qc⟩
     .rw[Qj (Qk e ah)];exact s5 _ _ (N _ _ (s2 _ _ e))
    .have ad:¬Vs B I g r j<0:=fun z=>y (yJ (by
      unfold Vs at z
      show(I.map (useR B g j)).sum > Qid B g r j
      lia))
     refine⟨_,_,rfl,Z,Om,?_,s2.trans N⟩
     rw[Kk,Y20 ad,xX]
     exact an
  .rintro O H2 ⟨S,xs,rfl,U,lx,J,s2⟩
   refine⟨_,_,_,rfl,U,Om,?_,s2⟩
   rw[Qei _ eb]
   exact J
 .rintro O H1 ⟨v3,S,xs,rfl,U,lx,J,s1⟩
  rw[jX,jX]at lx J
  rw[yV,<-gR_eq]at J
  exact⟨_,rfl,q W xs H1 s1 U Om J⟩
abbrev sWS:Stmt:=top 17
theorem Qij(c m:Int):∀N:Nat,((List.range N).map fun dd:Nat=>if c=(dd:Int)then m else 0).sum=if 0<=c/\c<N then m else 0
 |0=>by rw[Y20 Om];rfl
 |N+1=>by
  rw[Yz (fun dd:Nat=>if c=(dd:Int)then m else 0),Qij c m N]
  by_cases e:c=(N:Int)
  .rw[Y22 e,Y20 Om,Y22 Om];lia
  .rw[Y20 e]
   by_cases a:0<=c/\c<N
   .rw[Y22 a,Y22 Om];lia
   .rw[Y20 a,Y20 Om];lia
theorem Qoz(f g:Nat->Int):∀N:Nat,((List.range N).map fun dd:Nat=>f dd-g dd).sum=((List.range N).map f).sum-((List.range N).map g).sum
 |0=>rfl
 |N+1=>by rw[Yz (fun dd=>f dd-g dd),Yz f,Yz g,Qoz f g N];lia
theorem Qkg{α:Type}(f:Nat->α->Int)(N:Nat):∀L:List α,((List.range N).map fun dd:Nat=>(L.map (f dd)).sum).sum=(L.map fun a=>((List.range N).map fun dd:Nat=>f dd a).sum).sum
 |[]=>by
  show((List.range N).map fun _:Nat=>(0:Int)).sum=0
  induction N with
  |zero=>rfl
  |succ N ih=>rw[Yz (fun _=>(0:Int)),ih];rfl
 |a::L=>by
  have h:=Qkg f N L
  have e:∀M:Nat,((List.range M).map fun dd:Nat=>((a::L).map (f dd)).sum).sum=((List.range M).map fun dd:Nat=>f dd a).sum+((List.range M).map fun dd:Nat=>(L.map (f dd)).sum).sum:=by
   intro M
   induction M with
   |zero=>rfl
   |succ M ih=>
    rw[Yz (fun dd=>((a::L).map (f dd)).sum),Yz (fun dd=>f dd a),Yz (fun dd=>(L.map (f dd)).sum),ih,zX,jZa]
    lia
  rw[e N,h,zX,jZa]
theorem Qxk(f:WB n B)(i:Qkd n B pl){p:Str×Str×Int}(g:p∈pl)(st:Str)(a:Nat):((List.range (a+1)).map fun dd:Nat=>chP B st dd p).sum=Qcf B st a p:=by
 obtain⟨l,c,b,m,j⟩:=i p g
 have d:=f.ok _ b
 have k:1<=l:=d.1
 have h:=Zl f b
 unfold Qcf
 have e:(fun dd:Nat=>chP B st dd p)=fun dd:Nat=>(if p.2.2+lenB B p.1 p.2.1=(dd:Int)then Yx B 2 p.1 p.2.1 st else 0)-(if p.2.2=(dd:Int)then Yx B 1 p.1 p.2.1 st else 0):=rfl
 rw[e,Qoz (fun dd:Nat=>if p.2.2+lenB B p.1 p.2.1=(dd:Int)then Yx B 2 p.1 p.2.1 st else 0),Qij,Qij,h]
 congr 1
 .by_cases e:p.2.2+l<=a
  .rw[Y22 e,Y22 Om]
  .rw[Y20 e,Y20 Om]
 .by_cases e:p.2.2<=a
  .rw[Y22 e,Y22 Om]
  .rw[Y20 e,Y20 Om]
theorem Qpa(d:WB n B)(f:Qkd n B pl)(st:Str)(b:Int)(a:Nat):Yt B pl st b a=b+(pl.map (Qcf B st a)).sum:=by
 unfold Yt
 congr 1
 have h:=Qkg (fun e p=>chP B st (e:Nat) p) (a+1) pl
 refine h.trans ?_
 congr 1
 exact kXf fun p c=>Qxk d f c st a
theorem Qbr{α β:Type}{g:α->List β}{f:α->Bool}(e:∀a,f a=false->g a=[]):∀L:List α,L.flatMap g=(L.filter f).flatMap g
 |[]=>rfl
 |a::L=>by
  rw[jZe,Qbr e L]
  cases h:f a with
  |true=>rw[jQd h,jZe]
  |false=>rw[wX (by rw[h];decide),e a h];rfl
def spWS(K:Fg)(C:Addr):Sp:=fun vs H Q _=>∃(p tk:Addr) (n:Int) (B:List BR) (pl:Z7) (ys:List V),vs=[.ref p,.ref tk]/\FcAt K C H p n B/\BookOk n B/\PlanFor n B pl/\B.flatMap (gW pl)=[]/\H tk=some (.lst ys)/\Zz K H pl ys (wks B)/\∀(D:Addr) (xs:List V) (H':Hp),Same H H'->H' D=some (.lst xs)->xs.length<=5200->TupK H' xs (B.flatMap (gS n B pl))->Q (.ref D) H'
theorem scWS:FnScope ["facts","taken","wrong","store","most","first","day"] ["facts","taken"] (Qh sWS):=Sc
theorem okWS{fG:Addr}{fdG:FuncData}(F:Fn K mg "wrong_stores" sWS)(M:Mg mg)(T:FcTxt K mg C)(GG:FnOk P w K mg base CX0 2 fG fdG ["self","choice","store","day"] (Qov K C))(bG:Binds K fdG ["self","choice","store","day"] [])(mG:Meth K C "gain_by" fG):Cal P w K mg base 4 "wrong_stores" ["facts","taken"] (spWS K C):=by
 refine Xt F scWS (fun _ _ _ _ _ _=>Jt (fun _ _=>rfl)) (fun vs H Q E h=>?_) (fun f az A ar s H vs Q E hr h=>?_)
 .obtain⟨p,tk,n,B,k,ys,rfl,_⟩:=h
  rfl
 obtain⟨p,tk,n,B,k,ys,rfl,aj,bk,ac,hW,au,ak,q⟩:=h
 obtain⟨dx,lw,lb,lh,ls,la,ds,fs,aw,yh,an,ya,S⟩:=id aj
 have hz:=X0 20000
 have bl:=bk.wb.len
 have n1:=bk.n1
 have ay:=bk.n12
 have lT:=Paired.length ak
 have wl:(wks B).length<=B.length:=zY _ _
 have ax:(B.filter (selW "store")).length<=B.length:=jXf _ _
 have lS:=Paired.length S.tS
 have aq:B.flatMap (gS n B k)=(B.filter (selW "store")).flatMap (gS n B k):=Qbr (fun a h=>gS_no (Y69 h)) B
 rw[aq]at q
 refine⟨_,(Qg (Z4 2 scWS.nd (Xd Qf))
  (Qg (Ye Y33 rfl (Qx (Yn (pv 0) rfl)) (Qjb rfl (Zn (Z3 3 scWS.nd) (Zn (Z3 4 scWS.nd) (Zn (Z3 5 scWS.nd) Qdk)))) (Qi (Ye Y33 rfl (Xo rfl M.range_ (Qa (Ql Xc (Yn (pv 0) rfl) Qe) Qf)) (Z3 6 scWS.nd)
   (Qi (Xy (Jx (Qdp Wu Wu Qe (Ql Xc (pv 5) (Qt (Vm rfl) rfl M.sum Qji (Qa (Yu ["choice","facts","store","day"] [none,some 0,some 3,some 6] rfl (Qx (pv 1)) (fun _ _ _=>(Z3 0 (show(["choice","facts","store","day"]:List Str).Nodup by decide +kernel))) (fun _ _ _=>Yr) (fun _ _ _=>(Zd (pv 1) T.cl mG GG (hr.mono Dc) bG .nil Jq (Qa (pv 0) (Qa (pv 2) (Qa (pv 3) Qf)))))) Qf))) (pv 4))) (Qi (Yg (Zh Y1 Y2 Y3 Xh (pv 2) (Qa (Yy (Qa Qq (Qa (pv 3) (Qa (pv 6) Qf)))) Qf)))) Xa)))))
  (Qi (Xb (pv 2))))),?_⟩
 refine⟨Z1 0,fun W ab=>?_⟩
 have s0:=Qd ab (.lst [])
 let ai:Nat->St->Hp->Prop:=fun i X H1=>∃(v3 v4 v5 Y:Option V) (xs:List V),X=[some (.ref p),some (.ref tk),some (.ref W),v3,v4,v5,Y]/\H1 W=some (.lst xs)/\xs.length<=13*i/\TupK H1 xs (((B.filter (selW "store")).take i).flatMap (gS n B k))/\Same H H1
 refine⟨_,rfl,p,C,dx,fs,_,rfl,s0 _ _ S.hp,T.cl,T.nS,S.fS,ls,rfl,⟨_,Qb (s0 _ _ S.hS)⟩,Zc (K:=K) (a:=ls) (xs:=an) ai ⟨none,none,none,none,[],rfl,Qc,jK _,.nil,s0⟩ (fun i X H1 _ h=>?_) ?_ ?_⟩
 .obtain⟨v3,v4,v5,Y,xs,rfl,hx,lx,U,s1⟩:=h
  exact s1.seq (Qb S.hS)
 .rintro i x X H1 e1 ⟨v3,v4,v5,Y,xs,rfl,hx,lx,U,s1⟩
  obtain⟨r',ae,t,rfl,hT⟩:=Qv S.tS e1
  obtain⟨g,mo,G,rfl⟩:=Qlr (kK (xY.mp (kW ae)).2)
  have ap:SqT K H1 t [.str g,.int mo,.int G]:=s1.tup hT
  have il:=(kX.mp ae).1
  refine⟨t,_,rfl,ap,rfl,_,_,rfl,_,_,rfl,_,_,rfl,rfl,?_⟩
  have eN:(n+1).toNat=n.toNat+1:=Om
  refine⟨_,rfl,p,C,dx,fs,_,rfl,s1 _ _ S.hp,T.cl,T.nD,S.fD,_,_,rfl,rfl,n+1,rfl,Om,Om,?_⟩
  rw[eN]
  let ag:Nat->St->Hp->Prop:=fun j X H2=>∃(Y:Option V) (xs:List V),X=[some (.ref p),some (.ref tk),some (.ref W),some (.str g),some (.int mo),some (.int G),Y]/\H2 W=some (.lst xs)/\xs.length<=13*i+j/\TupK H2 xs (((B.filter (selW "store")).take i).flatMap (gS n B k)++(Jz (fun N=>Yt B k g G N.toNat<0\/mo<Yt B k g G N.toNat) j).map fun d:Nat=>[inr ("store":Str),inr g,Sum.inl (d:Int)])/\Same H H2
  refine Yh (lo:=0) (n:=n.toNat+1) ag ⟨_,_,rfl,hx,lx,by rw[show Jz (fun N=>Yt B k g G N.toNat<0\/mo<Yt B k g G N.toNat) 0=[]from rfl,kKc,xX];exact U,s1⟩ ?_ ?_
  .rintro j X H2 hj ⟨Y,xs,rfl,hx,lx,U,s2⟩
   rw[kJb]
   have I:=s2 _ _ au
   refine⟨_,rfl,_,rfl,tk,rfl,⟨_,Qb I⟩,fun D hD=>?_⟩
   let am:Nat->St->List V->Hp->Prop:=fun m τ zs H3=>∃v:Option V,τ=[v,some (.ref p),some (.str g),some (.int j)]/\zs=(((wks B).take m).map fun w=>Qcf B g j (w,look k w)).map V.int/\H3 D=some (.lst zs)/\Same H2 H3
   refine Ze (n:=(wks B).length) am ?_ (fun m τ zs H3 hm h=>?_) (fun m τ zs H3 hm h=>?_) (fun τ zs H3 h=>?_) ?_ ?_
   .exact⟨none,rfl,rfl,Qc,Qd hD _⟩
   .obtain⟨v,rfl,rfl,Z,J⟩:=h
    exact⟨Z,by rw[jX,jX,xJ];lia⟩
   .obtain⟨v,rfl,rfl,Z,J⟩:=h
    exact⟨ys,ys[m]'Om,J.seq (Qb I),gE Om⟩
   .obtain⟨v,rfl,rfl,Z,J⟩:=h
    exact⟨ys,J.seq (Qb I),Om⟩
   .rintro m τ zs H3 x H4 hm ⟨v,rfl,rfl,Z,J⟩ ⟨rfl,e2⟩
    obtain⟨wk,al,t',rfl,ao⟩:=Qv ak (e2 _ (J.seq (Qb I)))
    obtain⟨l,c,av,ah,b0,b1⟩:=ac.get bk.wb (Zm hW (wks_mem.mp (kW al)))
    have aa:=s2.trans J
    refine⟨_,rfl,p,dx,fs,rfl,aa _ _ S.hp,S.nG,_,rfl,_,rfl,_,rfl,p,t',n,B,wk,_,g,_,l,c,j,rfl,aj.same aa,bk.wb,aa.tup ao,ah,fun H5 R=>?_⟩
    refine⟨R _ _ Z,_,rfl,?_,Qc,fun b o e=>?_⟩
    .rw[Ka al,zQ,zQ];rfl
    .rw[Qj (Qk e hD)];exact R _ _ (J _ _ e)
   .rintro τ zs H3 ⟨v,rfl,rfl,Z,J⟩
    rw[yV]at Z
    have L:=J _ _ hx
    have ad:=U.same J
    have eS:=Qpa bk.wb ac.good g G j
    rw[Qel ac bk.wb hW (Qcf B g j)]at eS
    refine⟨D,_,rfl,Qb Z,_,_,rfl,rfl,_,_,rfl,rfl,_,rfl,?_⟩
    dsimp only
    rw[<-eS]
    refine ite2 (fun y=>⟨_,rfl,_,_,rfl,rfl,_,rfl,ite2 (fun y2=>?_) (fun y2=>?_)⟩) (fun y=>⟨_,rfl,ite2 (fun y2=>?_) (fun y2=>Y21 rfl y2)⟩)
    .have O:Yt B k g G ((j:Nat):Int).toNat<0\/mo<Yt B k g G ((j:Nat):Int).toNat:=by
      rw[jYa]
      refine .inr (Int.not_le.mp fun z=>?_)
      rw[yJ z]at y2
      cases y2
     refine⟨_,rfl,.inl ⟨rfl,_,Qb L⟩,_,rfl,_,rfl,Z1 3,fun t ht=>?_⟩
     have R:=Qd ht (.tup [.str "store",.str g,.int j])
     have u:=R _ _ L
     refine⟨W,_,_,rfl,rfl,u,Om,_,_,rfl,Qc,by rw[jJ];exact jQb lx,?_,fun b o e=>?_⟩
     .rw[Kk,Y22 O,zQ,<-zJ]
      exact Paired.snoc ((ad.same R).updL u) ⟨t,rfl,by rw[Qj (Yl Qc u (by intro z;cases z))];exact Qc⟩
     .rw[Qj (Qk e ab)];exact R _ _ (J _ _ (s2 _ _ e))
    .have af:¬(Yt B k g G ((j:Nat):Int).toNat<0\/mo<Yt B k g G ((j:Nat):Int).toNat):=by
      rw[jYa]
      have z1:0<=Yt B k g G j:=kK y
      intro z
      rcases z with z | z
      .omega
      .refine y2 ?_
       rw[xV Om]
       rfl
     refine⟨_,_,rfl,L,Om,?_,s2.trans J⟩
     rw[Kk,Y20 af,xX]
     exact ad
    .have O:Yt B k g G ((j:Nat):Int).toNat<0\/mo<Yt B k g G ((j:Nat):Int).toNat:=by
      rw[jYa]
      exact .inl (Int.not_le.mp fun z=>y (yJ z))
     refine⟨_,rfl,.inl ⟨rfl,_,Qb L⟩,_,rfl,_,rfl,Z1 3,fun t ht=>?_⟩
     have R:=Qd ht (.tup [.str "store",.str g,.int j])
     have u:=R _ _ L
     refine⟨W,_,_,rfl,rfl,u,Om,_,_,rfl,Qc,by rw[jJ];exact jQb lx,?_,fun b o e=>?_⟩
     .rw[Kk,Y22 O,zQ,<-zJ]
      exact Paired.snoc ((ad.same R).updL u) ⟨t,rfl,by rw[Qj (Yl Qc u (by intro z;cases z))];exact Qc⟩
     .rw[Qj (Qk e ab)];exact R _ _ (J _ _ (s2 _ _ e))
  .rintro X H2 ⟨Y,xs,rfl,hx,lx,U,s2⟩
   refine⟨_,_,_,_,_,rfl,hx,Om,?_,s2⟩
   rw[Qei _ ae]
   exact U
 .rintro X H1 ⟨v3,v4,v5,Y,xs,rfl,hx,lx,U,s1⟩
  rw[show an.length=(B.filter (selW "store")).length from lS]at lx U
  rw[yV]at U
  exact⟨_,rfl,q W xs H1 s1 hx Om U⟩
end
end Nb
namespace L2
open PySem PySem.Spec PyProof.Rows
def PairsK(K:Fg)(H:Hp):List V->List (Key×V)->Prop:=Paired fun v p=>∃t,v=.ref t/\SqT K H t [kV p.1,p.2]
theorem PairsK.get{ps:List (Key×V)}(h:PairsK K H vs ps):∀{i:Nat} {v:V},vs[i]?=some v->∃t p,v=.ref t/\ps[i]?=some p/\SqT K H t [kV p.1,p.2]:=by
 induction h with
 |nil=>intro i v e;simp at e
 |cons q t ih=>
  intro i v e
  cases i with
  |zero=>obtain⟨a,b,z⟩:=q;simp at e;subst e;exact⟨a,_,b,rfl,z⟩
  |succ i=>obtain⟨a,r,b,c,z⟩:=ih (i:=i) (v:=v) (by simpa using e);exact⟨a,r,b,by simpa using c,z⟩
theorem PairsK.imp{ps:List (Key×V)}(f:∀t xs,SqT K H t xs->SqT K H' t xs)(h:PairsK K H vs ps):PairsK K H' vs ps:=by
 induction h with
 |nil=>exact .nil
 |cons r t ih=>obtain⟨a,e,z⟩:=r;exact .cons ⟨a,e,f _ _ z⟩ ih
theorem PairsK.length{ps:List (Key×V)}(h:PairsK K H vs ps):vs.length=ps.length:=Paired.length h
def Xe(ps:List (Key×V)):List (Key×V):=ps.foldl (fun d p=>putK d p.1 p.2) []
theorem Ji{ps:List (Key×V)}{p:Key×V}(h:ps[i]?=some p):Xe (ps.take (i+1))=putK (Xe (ps.take i)) p.1 p.2:=by
 unfold Xe
 rw[List.take_succ,h,List.foldl_append]
 rfl
theorem Qik(ps:List (Key×V)):(Xe ps).length<=ps.length:=by
 have:∀(l:List (Key×V)) (d:List (Key×V)),(l.foldl (fun d p=>putK d p.1 p.2) d).length<=d.length+l.length:=by
  intro l
  induction l with
  |nil=>intro d;simp
  |cons p r ih=>intro d;have:=ih (putK d p.1 p.2);have a:=Zj d p.1 p.2;simp only[kKe,yZ]at *;lia
 exact jQc (this ps []) (by simp)
theorem Qpb{ps:List (Key×V)}(hh:A.handled=none)(hd:H d=none)(hl:SqL X.K H l vs)(M:PairsK X.K H vs ps)(hz:ps.length<sizeLine)
  (hR:∀s',Inv X pins σ (upd H d (.dK (Xe ps))) s'->R (.ok (.ret .none)) s') :
  ∀(k i:Nat) (s:Shared),ps.length-i=k->i<=ps.length->Inv X pins σ (upd H d (.dK (Xe (ps.take i)))) s->s.heap.IsListIter it l i->FpOk X pins (upd H d (.dK (Xe (ps.take i)))) it ->
   codeAny (model X.prog X.w) A (.builtin "dict.update.loop" ⟨[.ref d,.ref it,rawInt i,.none],[]⟩) R s:=by
 intro k
 induction k with
 |zero=>
  intro i s hk hi I L f
  have D:i=ps.length:=Om
  subst D
  rw[yV]at I f
  have y:Same H (upd H d (.dK (Xe ps))):=Qd hd _
  obtain⟨C,r,p,_⟩:=I.list (y.seq hl)
  have lv:=M.length
  have lr:=r.length
  refine Y28 Vp ?_
  rw[Y35 Zr _]
  show wpAny _ A.in1 (pyNext (.ref it) >>= _) _ _ s
  refine jQ (wpAny_pyNext_list_end (A:=A.in1) hh L p.isList (by simp;lia) fun G eb=>?_)
  refine jQ (jV (jV ?_))
  exact hR _ (I.turned (t':=s.toks) (fun b o J e=>eb b o J e) f.1 f.2.1 f.2.2.2.1 f.2.2.2.2.1 f.2.2.2.2.2)
 |succ k ih=>
  intro i s hk hi I L f
  have y:Same H (upd H d (.dK (Xe (ps.take i)))):=Qd hd _
  obtain⟨C,r,p,_⟩:=I.list (y.seq hl)
  have lv:=M.length
  have v:i<vs.length:=Om
  obtain⟨t,m,ev,ep,hT⟩:=M.get (gE v)
  obtain⟨u,hu,U⟩:=r.get (gE v)
  rw[ev]at U
  cases U
  refine Y28 Vp ?_
  rw[Y35 Zr _]
  show wpAny _ A.in1 (pyNext (.ref it) >>= _) _ _ s
  refine jQ (wpAny_pyNext_list_item L p.isList (x:=.ref t) (by simpa using hu) fun G F sb=>?_)
  have N:Inv X pins σ (upd H d (.dK (Xe (ps.take i)))) { s with heap:=G }:=I.turned (t':=s.toks) (fun b o J e=>(sb.2 b J).trans e) f.1 f.2.1 f.2.2.2.1 f.2.2.2.2.1 f.2.2.2.2.2
  obtain⟨aa,r2,⟨ot,gt,ct,nt,dt⟩,_⟩:=N.tuple (y.tup hT)
  obtain⟨W,S,rfl,P,E⟩:=r2.two
  refine jQ (Y30 ?_)
  refine jQ (wpAny_tryCatch ?_)
  unfold Builtin.Dict.pairItems
  refine jQ (Y40 (T:="tuple") ⟨ot,gt,ct⟩ ?_)
  rw[Y22 (by simp)]
  refine jQ (wpAny_seqItems gt dt (jV ?_))
  show wpAny _ _ (holding [W,S] (dictSet d W S)) _ _ _
  obtain⟨z,Q,kv,g,dd⟩:=Ky N.hok (Qc (H:=H) (a:=d) (o:=.dK (Xe (ps.take i))))
  have l1:=Qik (ps.take i)
  rw[xJ]at l1
  have B:kv.length<=sizeLine:=by rw[<-g.length];exact z
  refine Y30 (wpAny_dictSet_pairs (hsz:=B) (knd:=Xg X.prog X.w) (k:=m.1) (Qhp P) dd fun Y n j=>?_)
  have O:∃q,Y.get? d=some q:=let ⟨q,_,_,hq,_⟩:=n;⟨q,hq⟩
  have l2:=Zj (Xe (ps.take i)) m.1 m.2
  have Z:Inv X pins σ (upd (upd H d (.dK (Xe (ps.take i)))) d (.dK (putK (Xe (ps.take i)) m.1 m.2))) { s with heap:=Y,toks:=s.toks+1 } :=
   Kg (s:={ s with heap:=G }) N (by rw[Qc];exact True.intro) j O (Qjk Om Q (g.put _ E) n)
  rw[Qdh,<-Ji ep]at Z
  have c:it≠d:=fun e=>by have:=f.1;rw[e,Qc]at this;cases this
  refine jV ⟨jJc Zr _,?_⟩
  have D:rawInt ((i:Int)+1)=rawInt ((i+1:Nat):Int):=by push_cast;rfl
  rw[D]
  refine ih (i+1) _ Om Om Z (F.at fun o e=>j.extBut _ _ c e) ⟨?_,f.2⟩
  have:=f.1
  rw[Qj c]at this⊢
  exact this
theorem Zg(D:X.calm=true):Zy X (.type "dict") (fun xs H Q=>∃(l:Addr) (vs:List V) (ps:List (Key×V)),xs=[.ref l]/\SqL X.K H l vs/\PairsK X.K H vs ps/\ps.length<sizeLine/\∀d,H d=none->Q (.ref d) (upd H d (.dK (Xe ps)))):=by
 intro pins s σ H xs us Q I U h
 obtain⟨l,vs,ps,rfl,m,S,R,q⟩:=h
 obtain⟨u,rfl,M⟩:=U.one
 cases M
 refine callType_codes (Q₁:=fun g B=>g=.ref s.heap.objs.size/\B={ s with heap:=s.heap.push { cls:=.type "dict",data:=.dict #[] } }) F.kt_called_dict (F.kt_typeCall_dict_1 _) F.entry_dict_init (kt_code_dict_new _ ⟨rfl,rfl⟩) ?_
 rintro g B ⟨rfl,rfl⟩
 have v:H s.heap.objs.size=none:=I.hok.fresh (jK _)
 have w:Inv X pins σ (upd H s.heap.objs.size (.dK [])) { s with heap:=s.heap.push { cls:=.type "dict",data:=.dict #[] } }:=I.laid (t':=s.toks) (fun _ _ q=>jZ _ q) (jK _) (Qdw s.heap I.big)
 have y:Same H (upd H s.heap.objs.size (.dK [])):=Qd v _
 obtain⟨z,Z,kv,L,x⟩:=Ky w.hok (Qc (H:=H) (a:=s.heap.objs.size) (o:=.dK []))
 refine⟨x.typeIs,F.args_dict_init_2 _ _,?_⟩
 unfold Builtin.«dict.__init__»
 refine jQ ?_
 unfold Builtin.Dict.selfAndRest
 refine jQ (Y59 x.typeIs ?_)
 show wpAny _ _ (pure (s.heap.objs.size,[Value.ref l])) _ _ _
 refine jV ?_
 show wpAny _ _ (Builtin.Dict.updateFrom "dict.__init__" s.heap.objs.size (.ref l) [] .none) _ _ _
 unfold Builtin.Dict.updateFrom
 obtain⟨O,r,⟨o,n,e,c,E,G⟩,_⟩:=w.list (y.seq m)
 obtain⟨cls,P,J,N⟩:=o
 simp only at c E G
 subst c E G
 refine jQ (Y40 (T:="list") ⟨_,e,rfl⟩ ?_)
 rw[Y22 Dc]
 refine jQ (Vo (s:={ s with heap:=s.heap.push { cls:=.type "dict",data:=.dict #[] } }) e (by exact I.ok.hd D) fun i f p=>?_)
 have j:Inv X pins σ (upd H s.heap.objs.size (.dK [])) { s with heap:=i,toks:=f }:=w.kept p
 rw[Y22 (by rfl)]
 refine jQ (Y58 (jQ ?_))
 obtain⟨C,r2,W,_⟩:=j.list (y.seq m)
 refine Y51 (s:={ s with heap:=i,toks:=f }) W.isList ?_
 refine jV ⟨jJc Zr _,?_⟩
 have I3:Inv X pins σ (upd H s.heap.objs.size (.dK [])) { s with heap:=i.push { cls:=.type "list_iterator",data:=.fields #[.ref l,.int 0 0] },toks:=f }:=j.kept (t':=f) fun b o e=>jZ _ e
 have k:=j.hok.fresh (a:=i.objs.size) (jK _)
 refine Qpb (X:=X) (pins:=pins) (σ:=σ) (H:=H) (vs:=vs) (ps:=ps) (A:=X.A.in1) (by exact I.ok.hd D) v m S R (fun s' Y=>⟨rfl,.ref s.heap.objs.size,_,Y,rfl,q _ v⟩) ps.length 0 _ Om (xW _) I3 ⟨_,yY _ rfl,rfl,rfl⟩ (j.fpOk (jK _) k)
theorem Qcw:∀{us:List Value} {ss:List Str},us.length=ss.length->(∀(j:Nat) (u:Value),us[j]?=some u->∃x t,ss[j]?=some x/\u=.str x t)->StrsAre us ss
 |[],[],_,_=>.nil
 |[],_::_,e,_=>nomatch e
 |_::_,[],e,_=>nomatch e
 |u::us,x::ss,e,h=>by
  obtain⟨y,t,b,rfl⟩:=h 0 u rfl
  obtain rfl:x=y:=Y5 b
  exact .cons x t (Qcw (Nat.succ.inj e) fun j v a=>h (j+1) v a)
theorem Qgh:∀{ss:List Str} {us:List Value},StrsAre us ss->Vals (ss.map V.str) us:=by
 intro ss us h
 induction h with
 |nil=>exact .nil
 |cons=>rename_i a;exact .cons ⟨_,rfl⟩ a
open PySem.W in
theorem Qgi(hc:X.calm=true):Zy X (.builtin "sorted") (fun xs H Q=>∃(d:Addr) (kvs:List (Key×V)) (ss:List Str),xs=[.ref d]/\H d=some (.dK kvs)/\kvs.map (·.1)=ss.map inr/\kvs.length<64 /\
  ∀(D:Addr) (qs:List Str),H D=none->qs.Perm ss->sortedS qs=true->Q (.ref D) (upd H D (.lst (qs.map V.str)))):=by
 intro r s σ H xs us Q I rv h
 obtain⟨d,kvs,ss,rfl,hd,N,aa,q⟩:=h
 obtain⟨u,rfl,Y⟩:=rv.one
 cases Y
 obtain⟨z,lo,vs,l,Z⟩:=Ky I.hok hd
 obtain⟨o,es,ep,W,h2,h3,h4⟩:=id Z
 have da:s.heap.DictAt (Xg X.prog X.w) d vs ep:=⟨o,es,W,h2,h3,h4⟩
 have lr:=l.length
 have B:(d == sysModules)=false:=lo
 have J:=X0 64
 refine Calls.call_function_entry kind_sorted plain_sorted entry_sorted (args_sorted1 _) ?_
 unfold Builtin.«sorted»
 refine jQ (m:=checkCount "sorted" 1 1 _) (jV ?_)
 refine jQ (kdu_collect (A:=X.A.in1) (kdl_dict (knd:=Xg X.prog X.w) (kvs:=vs) (ep:=ep) B) (I.ok.hd hc) da Om fun g E a F c=>?_)
 have hl:a.toList.length=vs.length:=by rw[jQf];exact c.1
 refine jQ (wpAny_newList ?_ (by rw[hl];lia))
 have lk:kvs.length=ss.length:=by
  have:=congrArg List.length N
  rwa [jX,jX]at this
 have C:StrsAre a.toList ss:=by
  refine Qcw Om fun j u eu=>?_
  obtain⟨k,x,ek,v⟩:=c.2 j u (by rw[<-kQd];exact eu)
  have p:(vs.map (·.1))[j]?=some k:=by rw[yW,ek];rfl
  rw[<-Qhw l,N,yW]at p
  cases P:ss[j]? with
  |none=>rw[P]at p;cases p
  |some y=>
   rw[P]at p
   cases p
   obtain⟨t,rfl⟩:=(show ∃t,u=Value.str y t from is_kV v)
   exact⟨y,t,rfl,rfl⟩
 have f:(g.push (seqObj "list" a.toList.toArray 0)).get? g.objs.size=some (seqObj "list" a.toList.toArray 0):=yY _ rfl
 show wpAny _ _ _ _ _ { s with heap:=g.push (seqObj "list" a.toList.toArray 0),toks:=E }
 refine jQ (Y30 (Y25 slot_list_sort ⟨_,f,rfl⟩ entry_list_sort (list_sort_treeK strKind_oneLt f C.keysOf (fun L M S e=>keyKind_strs (by rw[<-e];exact C)) Om fun n a1 a2=>⟨_,rfl,?_⟩) (args_list_sort _)))
 refine jV ⟨_,rfl,?_⟩
 obtain⟨i,U,R,b3⟩:=sorted_out_str C a1 a2
 obtain⟨e,T⟩:=sortedHeap_at (h:=g.push (seqObj "list" a.toList.toArray 0)) (vs:=a.toList) (out:=(arrOf n).map (·.2)) f
 have l5:i.length=ss.length:=R.length_eq
 have K:Inv X r σ H { s with heap:=g,toks:=E }:=I.kept F
 refine⟨.ref g.objs.size,_,K.laid (t':=E) (o:=.lst (i.map V.str)) (fun b ob z5=>?_) (jK _) ⟨by rw[jX];lia,((arrOf n).map (·.2)).toList,e,Qgh U,by rw[Array.toArray_toList];exact T⟩,rfl,q _ i (K.hok.fresh (jK _)) R b3⟩
 have O:g.get? b=some ob:=z5
 have G:=yK O
 rw[sortedHeap_old (zW G) (by rw[size_push'];exact jKb G),Heap.get?_push_ne _ _ _ (zW G)]
 exact O
theorem Qxl{f:Str}{ta:TE}(a:X.K=K)(he:PE X e ta)(b:attributeBase e f X.env (eval e X.env)=eval e X.env):PE X (.Attribute e f pos) (tFld K ta f):=by subst a;exact Yn he b
end L2
namespace Nb
open PySem L2
abbrev sWA:Stmt:=top 18
theorem Qem{f:Str->V}{w:Str}:∀(ws:List Str) (acc:List (Key×V)),(w∈ws\/valV acc (inr w:Key)=some (f w))->valV ((ws.map fun w=>((inr w:Key),f w)).foldl (fun d p=>putK d p.1 p.2) acc) (inr w:Key)=some (f w)
 |[],acc,h=>h.resolve_left (fun z=>nomatch z)
 |a::ws,acc,h=>by
  rw[zX,kKe]
  refine Qem ws _ ?_
  by_cases e:a=w
  .exact .inr (by rw[Kp,e,Y22 rfl])
  .rcases h with h | h
   .exact .inl ((kZ.mp h).resolve_left fun z=>e z.symm)
   .exact .inr (by rw[Kp,Y20 (fun z=>e (Y37 z).symm)];exact h)
def endE(B:List BR)(pl:Z7)(w:Str):V:=.int ((look pl w).2+lenB B w (look pl w).1)
def begE(pl:Z7)(w:Str):V:=.int (look pl w).2
theorem Qcx{ps:List (Key×V)}(h:PairsK K H vs ps)(s:Same H H'):PairsK K H' vs ps:=h.imp fun _ _ z=>s.tup z
theorem Qcy{W:Addr}{ps:List (Key×V)}(h:PairsK K H vs ps)(a:H W=some (.lst xs)):PairsK K (upd H W (.lst zs)) vs ps:=h.imp fun _ _ z=>Zi a z
def spWA(K:Fg)(C:Addr):Sp:=fun vs H Q _=>∃(p tk:Addr) (n:Int) (B:List BR) (pl:Z7) (ys:List V),vs=[.ref p,.ref tk]/\FcAt K C H p n B/\BookOk n B/\PlanFor n B pl/\B.flatMap (gW pl)=[]/\H tk=some (.lst ys)/\Zz K H pl ys (wks B)/\∀(D:Addr) (xs:List V) (H':Hp),Same H H'->H' D=some (.lst xs)->xs.length<=5200->TupK H' xs (B.flatMap (gA B pl))->Q (.ref D) H'
section
variable{w:World}
theorem scWA:FnScope ["facts","taken","ends","begins"] ["facts","taken"] (Qh sWA):=Sc
theorem okWA(F:Fn K mg "wrong_afters" sWA)(M:Mg mg)(T:FcTxt K mg C)(GE:FnOk P w K mg base CX0 1 fE fdE ["self","choice"] (Qgf K C))(bE:Binds K fdE ["self","choice"] [])(mE:Meth K C "end_of" fE):Cal P w K mg base 4 "wrong_afters" ["facts","taken"] (spWA K C):=by
 refine Xt F scWA (fun _ _ _ _ _ _=>Jt (fun _ _=>rfl)) (fun vs H Q E h=>?_) (fun f aE A ax s H vs Q E hr h=>?_)
 .obtain⟨p,tk,n,B,u,ys,rfl,_⟩:=h
  rfl
 obtain⟨p,tk,n,B,u,ys,rfl,al,bk,az,hW,aa,ag,q⟩:=h
 obtain⟨dx,lw,lb,lh,ls,la,ds,fs,aC,yh,aF,ya,Y⟩:=id al
 have hz:=X0 20000
 have hu:=Z6 1 hr.un
 have bl:=bk.wb.len
 have lT:=Paired.length ag
 have wl:(wks B).length<=B.length:=zY _ _
 have aD:(B.filter (selW "after")).length<=B.length:=jXf _ _
 have lA:=Paired.length Y.tA
 have ap:B.flatMap (gA B u)=(B.filter (selW "after")).flatMap (gA B u):=Qbr (fun a h=>gA_no (Y69 h)) B
 rw[ap]at q
 refine⟨_,(Qg (Z4 2 scWA.nd (Xv (Zg rfl) rfl M.dict_ Kv (Qa (Yu ["choice","facts"] [none,some 0] rfl (Qx (pv 1)) (fun _ _ _=>(Z3 0 (show(["choice","facts"]:List Str).Nodup by decide +kernel))) (fun _ _ _=>Yr) (fun _ _ _=>(Yy (Qa (Qr (Wb (K:=K) rfl) (pv 0) Qe) (Qa (Zd (pv 1) T.cl mE GE (hr.mono Dc) bE .nil Jq (Qa (pv 0) Qf)) Qf))))) Qf)))
  (Qg (Z4 3 scWA.nd (Xv (Zg rfl) rfl M.dict_ Kv (Qa (Yu ["choice"] [none] rfl (Qx (pv 1)) (fun _ _ _=>(Z3 0 Z2)) (fun _ _ _=>Yr) (fun _ _ _=>(Yy (Qa (Qr (Wb (K:=K) rfl) (pv 0) Qe) (Qa (Qr (Wb (K:=K) rfl) (pv 0) Qe) Qf))))) Qf)))
  (Qi (Xb (Yu ["work","other","gap","ends","begins"] [none,none,none,some 2,some 3] rfl (Qx (Yn (pv 0) rfl)) (fun _ _ _=>(Qnt (K:=K) (i:=0) (j:=1) (l:=2) rfl rfl (show(["work","other","gap","ends","begins"]:List Str).Nodup by decide +kernel) rfl rfl rfl rfl rfl rfl)) (fun _ _ _=>(Zw (Qm Qfe (Kz hu (pv 4) (pv 1) (fun _ _=>rfl)) (Ql Xc (Kz hu (pv 3) (pv 0) (fun _ _=>rfl)) (pv 2)) (Qs _)))) (fun _ _ _=>(Yy (Qa Qq (Qa (pv 0) (Qa (pv 1) Qf)))))))))),?_⟩
 refine⟨_,rfl,tk,rfl,⟨_,Qb aa⟩,fun D hD=>?_⟩
 let ai:Nat->St->List V->Hp->Prop:=fun m I O H1=>∃v:Option V,I=[v,some (.ref p)]/\PairsK K H1 O (((wks B).take m).map fun w=>((inr w:Key),endE B u w))/\O.length<=m/\H1 D=some (.lst O)/\Same H H1
 refine Z5 ys (show _=(wks B).length from Om) ai ?_ (fun m I O H1 hm h=>?_) ?_ ?_
 .exact⟨none,rfl,.nil,jK _,Qc,Qd hD _⟩
 .obtain⟨v,rfl,hY,R,G,s1⟩:=h
  exact⟨⟨G,Om⟩,s1.seq (Qb aa)⟩
 .rintro m I O H1 x H2 hm ⟨v,rfl,hY,R,G,s1⟩ ⟨rfl,e1⟩
  obtain⟨d,ab,t,rfl,hT⟩:=Qv ag (e1 _ (s1.seq (Qb aa)))
  obtain⟨l,c,aB,ac,b0,b1⟩:=az.get bk.wb (Zm hW (wks_mem.mp (kW ab)))
  have W:=s1.tup hT
  refine⟨_,rfl,t,_,_,_,rfl,rfl,W,(show atI [V.str d,V.str (look u d).1,V.int (look u d).2] 0=some (.str d)from rfl),?_⟩
  refine⟨_,rfl,p,dx,fs,rfl,s1 _ _ Y.hp,Y.nE,_,rfl,p,t,n,B,d,_,_,l,c,rfl,al.same s1,W,ac,fun H3 Z=>?_⟩
  refine⟨Z1 2,fun t2 X=>?_⟩
  have U:=Z.trans (Qd X (.tup [.str d,.int ((look u d).2+l)]))
  have J:=U _ _ G
  refine⟨J,_,rfl,?_,by rw[jJ];exact jQb R,Qc,fun b o e=>?_⟩
  .rw[Ka ab,zQ]
   refine Paired.snoc (Qcy (Qcx hY U) J) ⟨t2,rfl,Zi J ?_⟩
   show SqT K _ t2 [.str d,endE B u d]
   rw[show endE B u d=.int ((look u d).2+l)by unfold endE;rw[Zl bk.wb ac]]
   exact Qz Qc
  .rw[Qj (Qk e hD)];exact U _ _ (s1 _ _ e)
 rintro I O H1 ⟨v,rfl,hY,R,G,s1⟩
 rw[yV]at hY
 refine⟨D,O,_,rfl,Qb G,hY,by rw[jX];lia,fun d1 av=>?_⟩
 have s2:=Qd av (.dK (Xe ((wks B).map fun w=>((inr w:Key),endE B u w))))
 have ad:=s1.trans s2
 have S:=ad _ _ aa
 refine⟨_,rfl,tk,rfl,⟨_,Qb S⟩,fun D2 an=>?_⟩
 let ak:Nat->St->List V->Hp->Prop:=fun m I O H3=>∃v:Option V,I=[v]/\PairsK K H3 O (((wks B).take m).map fun w=>((inr w:Key),begE u w))/\O.length<=m/\H3 D2=some (.lst O)/\Same (upd H1 d1 (.dK (Xe ((wks B).map fun w=>((inr w:Key),endE B u w))))) H3
 refine Z5 ys (show _=(wks B).length from Om) ak ?_ (fun m I O H3 hm h=>?_) ?_ ?_
 .exact⟨none,rfl,.nil,jK _,Qc,Qd an _⟩
 .obtain⟨v,rfl,hY,R,G,Z⟩:=h
  exact⟨⟨G,Om⟩,Z.seq (Qb S)⟩
 .rintro m I O H3 x H4 hm ⟨v,rfl,hY,R,G,Z⟩ ⟨rfl,e1⟩
  obtain⟨d,ab,t,rfl,hT⟩:=Qv ag (e1 _ (Z.seq (Qb S)))
  have W:=Z.tup (ad.tup hT)
  refine⟨_,rfl,t,_,_,_,rfl,rfl,W,(show atI [V.str d,V.str (look u d).1,V.int (look u d).2] 0=some (.str d)from rfl),?_⟩
  refine⟨_,rfl,t,_,_,_,rfl,rfl,W,(show atI [V.str d,V.str (look u d).1,V.int (look u d).2] 2=some (.int (look u d).2)from rfl),?_⟩
  refine⟨Z1 2,fun t2 X=>?_⟩
  have U:=Qd X (.tup [.str d,.int (look u d).2])
  have J:=U _ _ G
  refine⟨J,_,rfl,?_,by rw[jJ];exact jQb R,Qc,fun b o e=>?_⟩
  .rw[Ka ab,zQ]
   exact Paired.snoc (Qcy (Qcx hY U) J) ⟨t2,rfl,Zi J (Qz Qc)⟩
  .rw[Qj (Qk e an)];exact U _ _ (Z _ _ e)
 rintro I ay H3 ⟨v,rfl,aj,aG,ar,Z⟩
 rw[yV]at aj
 refine⟨D2,ay,_,rfl,Qb ar,aj,by rw[jX];lia,fun d2 aq=>?_⟩
 have U:=Qd aq (.dK (Xe ((wks B).map fun w=>((inr w:Key),begE u w))))
 have sA:=(ad.trans Z).trans U
 have h1:=U _ _ (Z _ _ (Qc (H:=H1) (a:=d1) (o:=.dK (Xe ((wks B).map fun w=>((inr w:Key),endE B u w))))))
 have h2:(upd H3 d2 (.dK (Xe ((wks B).map fun w=>((inr w:Key),begE u w))))) d2=some (.dK (Xe ((wks B).map fun w=>((inr w:Key),begE u w)))):=Qc
 generalize upd H3 d2 (.dK (Xe ((wks B).map fun w=>((inr w:Key),begE u w))))=H5 at U sA h1 h2
 refine⟨_,rfl,p,C,dx,fs,_,rfl,sA _ _ Y.hp,T.cl,T.nA,Y.fA,la,rfl,⟨_,Qb (sA _ _ Y.hA)⟩,fun D3 ao=>?_⟩
 let am:Nat->St->List V->Hp->Prop:=fun m I xs H6=>∃v0 v1 v2:Option V,I=[v0,v1,v2,some (.ref d1),some (.ref d2)]/\TupK H6 xs (((B.filter (selW "after")).take m).flatMap (gA B u))/\xs.length<=m/\H6 D3=some (.lst xs)/\Same H5 H6
 refine Ze (n:=(B.filter (selW "after")).length) am ?_ (fun m I xs H6 hm h=>?_) (fun m I xs H6 hm h=>?_) (fun I xs H6 h=>?_) ?_ ?_
 .exact⟨none,none,none,rfl,.nil,jK _,Qc,Qd ao _⟩
 .obtain⟨v0,v1,v2,rfl,hX,R,G,N⟩:=h
  exact⟨G,Om⟩
 .obtain⟨v0,v1,v2,rfl,hX,R,G,N⟩:=h
  exact⟨ya,ya[m]'Om,(sA.trans N).seq (Qb Y.hA),gE Om⟩
 .obtain⟨v0,v1,v2,rfl,hX,R,G,N⟩:=h
  exact⟨ya,(sA.trans N).seq (Qb Y.hA),Om⟩
 .rintro m I xs H6 x H7 hm ⟨v0,v1,v2,rfl,hX,R,G,N⟩ ⟨rfl,e1⟩
  obtain⟨r',ah,t,rfl,hT⟩:=Qv Y.tA (e1 _ ((sA.trans N).seq (Qb Y.hA)))
  have af:=xY.mp (kW ah)
  obtain⟨d,L,g,rfl⟩:=Qll (kK af.2)
  have aw:SqT K _ t [.str d,.str L,.int g]:=(sA.trans N).tup hT
  have aA:d∈wks B:=wks_mem.mpr (bk.wb.ref _ af.1 d (by show d∈[d,L];exact jY))
  have au:L∈wks B:=wks_mem.mpr (bk.wb.ref _ af.1 L (by show L∈[d,L];exact kQ _ jY))
  have g1:=DGet.k (k:=inr L) (N _ _ h2)
  have g2:=DGet.k (k:=inr d) (N _ _ h1)
  rw[show valV (Xe ((wks B).map fun w=>((inr w:Key),begE u w))) (inr L)=some (begE u L)from Qem (f:=begE u) (wks B) [] (.inl au)]at g1
  rw[show valV (Xe ((wks B).map fun w=>((inr w:Key),endE B u w))) (inr d)=some (endE B u d)from Qem (f:=endE B u) (wks B) [] (.inl aA)]at g2
  refine⟨t,_,rfl,aw,rfl,_,_,rfl,_,_,rfl,_,_,rfl,rfl,?_⟩
  refine⟨_,rfl,_,rfl,d2,_,rfl,g1,_,rfl,_,rfl,d1,_,rfl,g2,_,rfl,_,_,rfl,rfl,_,_,rfl,rfl,_,rfl,?_⟩
  have eg:gA B u (.after d L g)=if (look u L).2-(look u d).2-lenB B d (look u d).1<g then[[inr ("after":Str),inr d,inr L]]else[]:=rfl
  refine ite2 (fun y=>?_) (fun y=>?_)
  .have y':(look u L).2<(look u d).2+lenB B d (look u d).1+g:=kK y
   refine⟨_,rfl,_,rfl,Z1 3,fun t2 X=>?_⟩
   have s7:=Qd X (.tup [.str "after",.str d,.str L])
   have ae:=s7 _ _ G
   refine⟨ae,_,_,_,rfl,?_,by rw[jJ];exact jQb R,Qc,fun b o e=>?_⟩
   .rw[Qei _ ah,eg,Y22 Om]
    exact Paired.snoc ((hX.same s7).updL ae) ⟨t2,rfl,by rw[Qj (Yl Qc ae (by intro z;cases z))];exact Qc⟩
   .rw[Qj (Qk e ao)];exact s7 _ _ (N _ _ e)
  .have y':¬(look u L).2<(look u d).2+lenB B d (look u d).1+g:=fun z=>y (yJ z)
   refine⟨_,_,_,rfl,?_,Om,G,N⟩
   rw[Qei _ ah,eg,Y20 Om,xX]
   exact hX
 .rintro I xs H6 ⟨v0,v1,v2,rfl,hX,R,G,N⟩
  rw[yV]at hX
  exact q D3 xs H6 (sA.trans N) G Om hX
abbrev sIW:Stmt:=top 5
abbrev sIP:Stmt:=top 6
abbrev Qtg:Stmt:=top 14
abbrev sWW:Stmt:=top 15
def spIW(K:Fg):Sp:=fun vs H Q _=>∃i:Int,vs=[.int i]/\Q (.bl true) H
def spIP(K:Fg):Sp:=fun vs H Q _=>(vs=[.non]/\Q (.bl false) H)\/∃(t:Addr) (a b:V),vs=[.ref t]/\SqT K H t [a,b]/\Q (.bl true) H
def Qvb(K:Fg)(C:Addr):Sp:=fun vs H Q _=>∃(p:Addr) (n:Int) (B:List BR) (w:Str),FcAt K C H p n B /\
 ((vs=[.ref p,.str w,.non]/\∀H',Same H H'->Q (.bl false) H')\/∃(t:Addr) (v:Str) (b l c:Int),vs=[.ref p,.str w,.ref t]/\SqT K H t [.str v,.int b]/\BR.way w v l c∈B/\0<=b/\b+l<=n/\∀H',Same H H'->Q (.bl true) H')
def noK(pl:Z7)(w:Str):Bool:=!hasK pl w
theorem gW_eq(pl:Z7):∀B:List BR,B.flatMap (gW pl)=((wks B).filter (noK pl)).map fun w=>[(inr ("work":Str):Key),inr w]
 |[]=>rfl
 |r::B=>by
  rw[jZe,gW_eq pl B]
  cases r with
  |work w=>
   show(if hasK pl w=true then[]else[[(inr ("work":Str):Key),inr w]])++_=((w::wks B).filter (noK pl)).map _
   cases e:hasK pl w with
   |true=>rw[Y22 rfl,wX (by unfold noK;rw[e];decide)];rfl
   |false=>rw[Y20 Dc,jQd (by unfold noK;rw[e];rfl)];rfl
  |_=>rfl
theorem Qth(b:List Str):(b.map V.str).all Wv=true:=jXa.mpr fun v a=>by
 obtain⟨w,_,rfl⟩:=zV.mp a
 rfl
theorem Qxm{w:Str}(h:w∈ws):inV (.str w) (ws.map V.str)=true:=jXb.mpr ⟨.str w,zV.mpr ⟨w,h,rfl⟩,by
 show(w == w)=true
 exact beq_self_eq_true w⟩
theorem Qti{kvs:List (Key×V)}{w:Str}{b:Int}(g:Paired (fun(p:Key×V) (q:Str×Str×Int)=>p.1=inr q.1/\∃t,p.2=.ref t/\SqT K H t [.str q.2.1,.int q.2.2]) kvs pl)(nd:(pl.map (·.1)).Nodup)(n:(w,v,b)∈pl):∃t,valV kvs (inr w)=some (.ref t)/\SqT K H t [.str v,.int b]:=by
 obtain⟨i,m⟩:=wJ.mp n
 obtain⟨⟨k,x⟩,ex,h,t,l,j⟩:=Ve g m
 have c:k=inr w:=h
 have d:x=.ref t:=l
 subst c d
 have f:(kvs.map (·.1)).Nodup:=by
  rw[Kj g]
  exact List.Pairwise.map inr (fun a b (hab:a≠b) e=>hab (Y37 e)) nd
 exact⟨t,Qfx f ex,j⟩
def spWW(K:Fg)(C:Addr):Sp:=fun vs H Q _=>∃(p P:Addr) (n:Int) (B:List BR) (pl:Z7),vs=[.ref p,.ref P]/\FcAt K C H p n B/\BookOk n B/\PlanAt K H P pl/\PlanFor n B pl/\pl.length<64/\∀(D:Addr) (xs:List V) (H':Hp),Same H H'->H' D=some (.lst xs)->xs.length<=5200->TupK H' xs (B.flatMap (gW pl))->Q (.ref D) H'
theorem scIW:FnScope ["thing"] ["thing"] (Qh sIW):=Sc
theorem okIW(F:Fn K mg "is_whole" sIW)(M:Mg mg):Cal P w K mg base 1 "is_whole" ["thing"] (spIW K):=by
 refine Xt F scIW (fun _ _ _ _ _ _=>bind1 (fun _=>rfl)) (fun b H Q E h=>?_) (fun f c A a s H b Q E d h=>?_)
 .obtain⟨i,rfl,_⟩:=h
  rfl
 obtain⟨i,rfl,q⟩:=h
 refine⟨_,(Qi (Xb (Wn (Qt Jd rfl M.isinstance Xl (Qa (pv 0) (Qa (Qcc M.int_ Qnl) Qf))) (Wm (Qul (Qt Jd rfl M.isinstance Xl (Qa (pv 0) (Qa (Qcc M.bool_ Qnm) Qf)))))))),?_⟩
 exact⟨_,rfl,_,_,_,rfl,.int,rfl,_,rfl,_,rfl,_,_,_,rfl,.bool,rfl,_,rfl,q⟩
theorem scIP:FnScope ["thing"] ["thing"] (Qh sIP):=Sc
theorem okIP(F:Fn K mg "is_pair" sIP)(M:Mg mg):Cal P w K mg base 1 "is_pair" ["thing"] (spIP K):=by
 refine Xt F scIP (fun _ _ _ _ _ _=>bind1 (fun _=>rfl)) (fun e H Q E h=>?_) (fun f g A c s H e Q E i h=>?_)
 .rcases h with⟨rfl,_⟩ | ⟨t,a,b,rfl,_⟩<;>rfl
 refine⟨_,(Qi (Xb (Wn (Qt Jd rfl M.isinstance Xl (Qa (pv 0) (Qa (Qcc M.tuple_ Jr) Qf))) (Wm (Kb Yq (Qt Qu rfl M.len Ys (Qa (pv 0) Qf)) Qe (Qs _)))))),?_⟩
 rcases h with⟨rfl,q⟩ | ⟨t,a,b,rfl,d,q⟩
 .exact⟨_,rfl,_,_,_,rfl,.tuple,rfl,_,rfl,q⟩
 .exact⟨_,rfl,_,_,_,rfl,.tuple,.inl ⟨⟨_,d⟩,rfl⟩,_,rfl,_,rfl,_,_,rfl,.inr d,rfl,q⟩
theorem scTold:FnScope ["facts","work","thing"] ["facts","work","thing"] (Qh Qtg):=Sc
theorem okTold{fY:Addr}{fdY:FuncData}(F:Fn K mg "is_as_told" Qtg)(M:Mg mg)(T:FcTxt K mg C)(z:FnOk P w K mg base CX0 1 fY fdY ["self","work","way"] (Qkf K C))(G:Binds K fdY ["self","work","way"] [])(x:Meth K C "is_way" fY)(J:FnOk P w K mg base CX0 1 fL fdL ["self","work","way"] (Qif K C))(O:Binds K fdL ["self","work","way"] [])(S:Meth K C "last_begin" fL)(a:Cal P w K mg base 1 "is_whole" ["thing"] (spIW K))(d:Cal P w K mg base 1 "is_pair" ["thing"] (spIP K)):Cal P w K mg base 2 "is_as_told" ["facts","work","thing"] (Qvb K C):=by
 refine Xt F scTold (fun _ _ _ _ _ _=>Ww (fun _ _ _=>rfl)) (fun I H Q E h=>?_) (fun f L A r s H I Q E k h=>?_)
 .obtain⟨p,n,B,w,_,⟨rfl,_⟩ | ⟨t,v,b,l,c,rfl,_⟩⟩:=h<;>rfl
 refine⟨_,(Qg (Xy (PW.pt (Wa (Jx (Jk (Xj d (k.mono Dc) (Qa (pv 2) Qf)))) (Wa (Jx (Jk (Qt Jd rfl M.isinstance Xl (Qa (Qr Xr (pv 2) Qe) (Qa (Qcc M.str_ Qjr) Qf))))) (Vh (Jx (Jk (Zd (pv 0) T.cl x z (k.mono Dc) G .nil Jq (Qa (pv 1) (Qa (Qr Xr (pv 2) Qe) Qf))))))))) (Qi (Xb Qhi)) Xa)
  (Qi (Xb (Wn (Xj a (k.mono Dc) (Qa (Qr Xr (pv 2) Qe) Qf)) (Wm (Qdo Wu Wu Qe (Qr Xr (pv 2) Qe) (Zd (pv 0) T.cl S J (k.mono Dc) O .nil Jq (Qa (pv 1) (Qa (Qr Xr (pv 2) Qe) Qf))))))))),?_⟩
 obtain⟨p,n,B,w,g,⟨rfl,q⟩ | ⟨t,v,b,l,c,rfl,m,e,D,X,q⟩⟩:=h
 .refine⟨_,rfl,.inl ⟨rfl,?_⟩⟩
  exact⟨_,rfl,ite2 (fun _=>ite2 (fun _=>q H (Same.refl _)) (fun y=>Y21 rfl y)) (fun y=>Y21 rfl y)⟩
 obtain⟨u,Z,lb,lh,ls,W,Y,fs,R,yh,U,ya,j⟩:=id g
 refine⟨_,rfl,.inr ⟨t,_,_,rfl,m,?_⟩⟩
 refine⟨_,rfl,ite2 (fun y=>nomatch y) (fun _=>?_)⟩
 refine⟨_,rfl,t,_,_,_,rfl,rfl,m,(show atI [V.str v,V.int b] 0=some (.str v)from rfl),_,_,_,rfl,.str,rfl,_,rfl,ite2 (fun y=>nomatch y) (fun _=>?_)⟩
 refine⟨_,rfl,p,u,fs,rfl,j.hp,j.nY,_,rfl,_,rfl,t,_,_,_,rfl,rfl,m,(show atI [V.str v,V.int b] 0=some (.str v)from rfl),?_⟩
 refine⟨p,n,B,w,v,l,c,rfl,g,e,fun H1 o=>?_⟩
 refine⟨_,rfl,ite2 (fun y=>nomatch y) (fun _=>?_)⟩
 have i:=o.tup m
 refine⟨_,rfl,t,_,_,_,rfl,rfl,i,(show atI [V.str v,V.int b] 1=some (.int b)from rfl),b,rfl,_,rfl,ite2 (fun _=>?_) (fun y=>Y21 rfl y)⟩
 refine⟨_,rfl,t,_,_,_,rfl,rfl,i,(show atI [V.str v,V.int b] 1=some (.int b)from rfl),?_⟩
 refine⟨_,_,rfl,rfl,_,rfl,ite2 (fun _=>?_) (fun y=>Y21 (yJ D) y)⟩
 refine⟨_,rfl,p,u,fs,rfl,o _ _ j.hp,j.nL,_,rfl,_,rfl,t,_,_,_,rfl,rfl,i,(show atI [V.str v,V.int b] 0=some (.str v)from rfl),p,n,B,w,v,l,c,rfl,g.same o,e,fun H2 N=>⟨_,_,rfl,rfl,?_⟩⟩
 dsimp only
 rw[yJ (show b<=n-l by lia)]
 exact q _ (o.trans N)
theorem scWW:FnScope ["facts","plan","wrong"] ["facts","plan"] (Qh sWW):=Sc
theorem okWW(F:Fn K mg "wrong_works" sWW)(M:Mg mg)(T:FcTxt K mg C)(d:Cal P w K mg base 2 "is_as_told" ["facts","work","thing"] (Qvb K C)):Cal P w K mg base 4 "wrong_works" ["facts","plan"] (spWW K C):=by
 refine Xt F scWW (fun _ _ _ _ _ _=>Jt (fun _ _=>rfl)) (fun vs H Q E h=>?_) (fun f ax A aq s H vs Q E hr h=>?_)
 .obtain⟨p,P,n,B,r,rfl,_⟩:=h
  rfl
 obtain⟨p,P,n,B,r,rfl,ae,bk,hP,ad,ay,q⟩:=h
 obtain⟨dx,lw,lb,lh,ls,la,ds,fs,aw,yh,az,ya,hF⟩:=id ae
 have hz:=X0 20000
 have hu:=Z6 1 hr.un
 have bl:=bk.wb.len
 have wl:(wks B).length<=B.length:=zY _ _
 have fl:((wks B).filter (noK r)).length<=(wks B).length:=jXf _ _
 have nd:=ad.nd bk.wb
 rw[gW_eq]at q
 refine⟨_,(Qg (Qaq (i:=2) ["work","facts","plan"] [none,some 0,some 1] rfl scWW.nd rfl (inl rfl) (Qx (Yn (pv 0) rfl)) (fun _ _ _=>(Z3 0 (show(["work","facts","plan"]:List Str).Nodup by decide +kernel))) (fun _ _ _=>(Zw (Jx (Jk (Xj d (hr.mono Dc) (Qa (pv 1) (Qa (pv 0) (Qa (Qjm hu (pv 2) (pv 0) ⟨rfl,rfl,rfl,rfl⟩) Qf)))))))) (fun _ _ _=>(pv 0)))
  (Qi (Xb (Yu ["work"] [none] rfl (Qx (Ql Kc (pv 2) (Yu ["work","facts"] [none,some 0] rfl (Qx (Qt (Qgi rfl) rfl M.sorted Qnk (Qa (pv 1) Qf))) (fun _ _ _=>(Z3 0 (show(["work","facts"]:List Str).Nodup by decide +kernel))) (fun _ _ _=>(Zw (Qm (Qdv (K:=K) rfl) (pv 0) (Qxl (K:=K) rfl (pv 1) rfl) rfl))) (fun _ _ _=>(pv 0))))) (fun _ _ _=>(Z3 0 Z2)) (fun _ _ _=>Yr) (fun _ _ _=>(Yy (Qa Qq (Qa (pv 0) Qf)))))))),?_⟩
 refine⟨_,rfl,p,C,dx,fs,_,rfl,hF.hp,T.cl,T.nW,hF.fW,lw,rfl,⟨_,Qb hF.hW⟩,fun D hD=>?_⟩
 let ao:Nat->St->List V->Hp->Prop:=fun m g G H1=>∃v:Option V,g=[v,some (.ref p),some (.ref P)]/\G=(((wks B).take m).filter (noK r)).map V.str/\H1 D=some (.lst G)/\Same H H1
 refine Ze (n:=(wks B).length) ao ?_ (fun m g G H1 I h=>?_) (fun m g G H1 I h=>?_) (fun g G H1 h=>?_) ?_ ?_
 .exact⟨none,rfl,rfl,Qc,Qd hD _⟩
 .obtain⟨v,rfl,rfl,a,J⟩:=h
  have:=jXf (noK r) ((wks B).take m)
  rw[xJ]at this
  exact⟨a,by rw[jX];lia⟩
 .obtain⟨v,rfl,rfl,a,J⟩:=h
  exact⟨_,.str (wks B)[m],J.seq (Qb hF.hW),by rw[yW,gE I];rfl⟩
 .obtain⟨v,rfl,rfl,a,J⟩:=h
  exact⟨_,J.seq (Qb hF.hW),by rw[jX];exact jK _⟩
 .rintro m g G H1 x H2 I ⟨v,rfl,rfl,a,J⟩ ⟨rfl,e1⟩
  have L:(wks B)[m]?=some (wks B)[m]:=gE I
  have ex:=e1 _ (J.seq (Qb hF.hW))
  rw[yW,L]at ex
  cases ex
  generalize (wks B)[m]=wk at L
  have af:=PlanAt.same hP J
  obtain⟨j,Y,R⟩:=id af
  refine⟨_,rfl,_,rfl,_,rfl,P,rfl,.inl ⟨j,.inl Y⟩,_,rfl,_,DGet.k (k:=inr wk) Y,?_⟩
  cases aa:hasK r wk with
  |false=>
   have en:valV j (inr wk)=none:=by
    have:=Qos (w:=wk) R
    rw[aa]at this
    cases e:valV j (inr wk)with
    |none=>rfl
    |some v=>rw[e]at this;cases this
   rw[en]
   refine⟨p,n,B,wk,ae.same J,.inl ⟨rfl,fun O u=>⟨_,rfl,ite2 (fun y=>⟨_,rfl,u _ _ a,_,rfl,?_,Qc,fun b o e=>?_⟩) (fun y=>Y21 rfl y)⟩⟩⟩
   .rw[Ka L,jKa,zQ,jQd (by unfold noK;rw[aa];rfl)];rfl
   .rw[Qj (Qk e hD)];exact u _ _ (J _ _ e)
  |true=>
   obtain⟨l,c,am,ai,b0,b1⟩:=ad.get bk.wb aa
   obtain⟨t,en,hT⟩:=Qti R nd am
   rw[en]
   refine⟨p,n,B,wk,ae.same J,.inr ⟨t,_,_,l,c,rfl,hT,ai,b0,b1,fun O u=>⟨_,rfl,ite2 (fun y=>nomatch y) (fun y=>⟨_,rfl,?_,u _ _ a,J.trans u⟩)⟩⟩⟩
   rw[Ka L,jKa,zQ,wX (by unfold noK;rw[aa];decide)]
   simp
 rintro g G H1 ⟨v,rfl,rfl,a,J⟩
 rw[yV]at a
 have af:=PlanAt.same hP J
 obtain⟨j,Y,R⟩:=id af
 have lk:=Paired.length R
 refine⟨_,rfl,_,rfl,P,j,r.map (·.1),rfl,Y,Kj R,Om,fun S N hS hq _=>?_⟩
 have s2:=Qd hS (.lst (N.map V.str))
 have ab:=J.trans s2
 have lq:N.length=r.length:=by rw[hq.length_eq,jX]
 have X:(upd H1 S (.lst (N.map V.str))) S=some (.lst (N.map V.str)):=Qc
 have an:=s2 _ _ a
 generalize upd H1 S (.lst (N.map V.str))=H2 at s2 ab X an
 have qw:∀x∈N,x∈wks B:=fun x hx=>by
  have:=hq.mem_iff.mp hx
  exact(xY.mp (ad.keys.mem_iff.mp this)).1
 refine⟨S,rfl,⟨_,Qb X⟩,fun D2 al=>?_⟩
 let ak:Nat->St->List V->Hp->Prop:=fun m g G O=>∃v:Option V,g=[v,some (.ref p)]/\G=[]/\O D2=some (.lst G)/\Same H2 O
 refine Ze (n:=N.length) ak ?_ (fun m g G O I h=>?_) (fun m g G O I h=>?_) (fun g G O h=>?_) ?_ ?_
 .exact⟨none,rfl,rfl,Qc,Qd al _⟩
 .obtain⟨v,rfl,rfl,a,u⟩:=h
  exact⟨a,Dc⟩
 .obtain⟨v,rfl,rfl,a,u⟩:=h
  exact⟨_,.str N[m],u.seq (Qb X),by rw[yW,gE I];rfl⟩
 .obtain⟨v,rfl,rfl,a,u⟩:=h
  exact⟨_,u.seq (Qb X),by rw[jX];exact jK _⟩
 .rintro m g G O x H4 I ⟨v,rfl,rfl,a,u⟩ ⟨rfl,e1⟩
  have L:N[m]?=some N[m]:=gE I
  have ex:=e1 _ (u.seq (Qb X))
  rw[yW,L]at ex
  cases ex
  have ag:=qw _ (kW L)
  generalize N[m]=wk at L ag
  have ah:=ab.trans u
  refine⟨_,rfl,_,rfl,p,C,dx,fs,_,rfl,ah _ _ hF.hp,T.cl,T.nW,hF.fW,lw,_,rfl,.inl (ah.seq (Qb hF.hW)),rfl,Qth _,_,rfl,ite2 (fun y=>?_) (fun y=>⟨_,rfl,rfl,a,u⟩)⟩
  have y':(!inV (.str wk) ((wks B).map V.str))=true:=y
  rw[Qxm ag]at y'
  exact nomatch y'
 rintro g G O ⟨v,rfl,rfl,au,u⟩
 refine⟨D,D2,_,_,rfl,rfl,u _ _ an,au,?_,fun W ar=>?_⟩
 .rw[jX,kYb];lia
 rw[xX]
 have s4:=Qd ar (.lst (((wks B).filter (noK r)).map V.str))
 have U:(upd O W (.lst (((wks B).filter (noK r)).map V.str))) W=some (.lst (((wks B).filter (noK r)).map V.str)):=Qc
 have sA:=(ab.trans u).trans s4
 generalize upd O W (.lst (((wks B).filter (noK r)).map V.str))=H4 at s4 U sA
 refine⟨W,rfl,⟨_,Qb U⟩,fun D3 ap=>?_⟩
 let aj:Nat->St->List V->Hp->Prop:=fun m g xs H5=>∃v:Option V,g=[v]/\TupK H5 xs ((((wks B).filter (noK r)).take m).map fun w=>[(inr ("work":Str):Key),inr w])/\xs.length<=m/\H5 D3=some (.lst xs)/\Same H4 H5
 refine Ze (n:=((wks B).filter (noK r)).length) aj ?_ (fun m g xs H5 I h=>?_) (fun m g xs H5 I h=>?_) (fun g xs H5 h=>?_) ?_ ?_
 .exact⟨none,rfl,.nil,jK _,Qc,Qd ap _⟩
 .obtain⟨v,rfl,hX,hl,a,Z⟩:=h
  exact⟨a,Om⟩
 .obtain⟨v,rfl,hX,hl,a,Z⟩:=h
  exact⟨_,.str ((wks B).filter (noK r))[m],Z.seq (Qb U),by rw[yW,gE I];rfl⟩
 .obtain⟨v,rfl,hX,hl,a,Z⟩:=h
  exact⟨_,Z.seq (Qb U),by rw[jX];exact jK _⟩
 .rintro m g xs H5 x H6 I ⟨v,rfl,hX,hl,a,Z⟩ ⟨rfl,e1⟩
  have L:((wks B).filter (noK r))[m]?=some ((wks B).filter (noK r))[m]:=gE I
  have ex:=e1 _ (Z.seq (Qb U))
  rw[yW,L]at ex
  cases ex
  generalize ((wks B).filter (noK r))[m]=wk at L
  refine⟨_,rfl,Z1 2,fun t2 av=>?_⟩
  have s7:=Qd av (.tup [.str "work",.str wk])
  have ac:=s7 _ _ a
  refine⟨ac,_,rfl,?_,by rw[jJ];exact jQb hl,Qc,fun b o e=>?_⟩
  .rw[Ka L,zQ]
   exact Paired.snoc ((hX.same s7).updL ac) ⟨t2,rfl,by rw[Qj (Yl Qc ac (by intro z;cases z))];exact Qc⟩
  .rw[Qj (Qk e ap)];exact s7 _ _ (Z _ _ e)
 .rintro g xs H5 ⟨v,rfl,hX,hl,a,Z⟩
  rw[yV]at hX
  exact q D3 xs H5 (sA.trans Z) a Om hX
abbrev Qen:Stmt:=top 19
theorem Xw(e:DictEntry)(l:List DictEntry)(x:Str)(t:Tok)(h:e.key=.str x t)(s:Str):PySem.findBy PySem.Value.isStrOf ⟨e::l⟩ s=if s=x then some e.val else PySem.findBy PySem.Value.isStrOf ⟨l⟩ s:=by
 unfold PySem.findBy
 rw[List.find?_toArray,List.find?_toArray,kQb]
 by_cases a:s=x
 .subst a
  rw[Y22 rfl,h]
  have:PySem.Value.isStrOf s (.str s t)=true:=by simp[PySem.Value.isStrOf]
  rw[this]
  rfl
 .rw[Y20 a,h]
  have:PySem.Value.isStrOf s (.str x t)=false:=by simp[PySem.Value.isStrOf];exact fun z=>a z.symm
  rw[this]
theorem Qpc{es:Array DictEntry}{m:Nat}{h1 h2 h3 h4 h5 h6 h7 h8 h9 h10 h11:Int}{t1 j1 t2 j2 t3 j3 t4 j4 t5 j5 t6 j6 t7 j7 t8 j8 t9 j9 t10 j10 t11 j11:Tok}
  (e:mg "NAMES"=some (.ref aN)) (h:K.lookup aN=some ⟨.type "dict",none,.dict es m,#[]⟩) (i:PySem.W.KeysLit w.params es.toList) (j:(aN == sysModules)=false) (o:es=⟨[⟨h1,.str "days" t1,.int 0 j1⟩,⟨h2,.str "bench" t2,.int 1 j2⟩,⟨h3,.str "shut" t3,.int 1 j3⟩,⟨h4,.str "store" t4,.int 1 j4⟩,⟨h5,.str "work" t5,.int 1 j5⟩,⟨h6,.str "way" t6,.int 2 j6⟩,⟨h7,.str "uses" t7,.int 3 j7⟩,⟨h8,.str "takes" t8,.int 3 j8⟩,⟨h9,.str "gives" t9,.int 3 j9⟩,⟨h10,.str "after" t10,.int 2 j10⟩,⟨h11,.str "late" t11,.int 1 j11⟩]⟩):∃fN,Tab w K mg "NAMES" aN fN/\Qej fN:=by
 refine⟨_,tab_mk e h i j,fun r=>?_⟩
 have a:∀s:Str,PySem.findBy PySem.Value.isStrOf es s=if s="days" then some (.int 0 j1)else if s="bench" then some (.int 1 j2)else if s="shut" then some (.int 1 j3)else if s="store" then some (.int 1 j4)else if s="work" then some (.int 1 j5)else if s="way" then some (.int 2 j6)else if s="uses" then some (.int 3 j7)else if s="takes" then some (.int 3 j8)else if s="gives" then some (.int 3 j9)else if s="after" then some (.int 2 j10)else if s="late" then some (.int 1 j11)else none:=fun s=>by
  subst o
  rw[Xw _ _ "days" t1 rfl,Xw _ _ "bench" t2 rfl,Xw _ _ "shut" t3 rfl,Xw _ _ "store" t4 rfl,Xw _ _ "work" t5 rfl,Xw _ _ "way" t6 rfl,Xw _ _ "uses" t7 rfl,Xw _ _ "takes" t8 rfl,Xw _ _ "gives" t9 rfl,Xw _ _ "after" t10 rfl,Xw _ _ "late" t11 rfl]
  rfl
 cases r with
 |days n=>exact⟨j1,by rw[a];rw[Y22 (show(BR.days n).word="days" from rfl)];rfl⟩
 |bench b r=>exact⟨j2,by rw[a];rw[Y20 (Sn "bench" "days"),Y22 (show(BR.bench b r).word="bench" from rfl)];rfl⟩
 |shut b f t=>exact⟨j3,by rw[a];rw[Y20 (Sn "shut" "days"),Y20 (Sn "shut" "bench"),Y22 (show(BR.shut b f t).word="shut" from rfl)];rfl⟩
 |store b m f=>exact⟨j4,by rw[a];rw[Y20 (Sn "store" "days"),Y20 (Sn "store" "bench"),Y20 (Sn "store" "shut"),Y22 (show(BR.store b m f).word="store" from rfl)];rfl⟩
 |work w=>exact⟨j5,by rw[a];rw[Y20 (Sn "work" "days"),Y20 (Sn "work" "bench"),Y20 (Sn "work" "shut"),Y20 (Sn "work" "store"),Y22 (show(BR.work w).word="work" from rfl)];rfl⟩
 |way w v l c=>exact⟨j6,by rw[a];rw[Y20 (Sn "way" "days"),Y20 (Sn "way" "bench"),Y20 (Sn "way" "shut"),Y20 (Sn "way" "store"),Y20 (Sn "way" "work"),Y22 (show(BR.way w v l c).word="way" from rfl)];rfl⟩
 |use k w v t m=>match k with
  |0=>exact⟨j7,by rw[a];rw[Y20 (Sn "uses" "days"),Y20 (Sn "uses" "bench"),Y20 (Sn "uses" "shut"),Y20 (Sn "uses" "store"),Y20 (Sn "uses" "work"),Y20 (Sn "uses" "way"),Y22 (show(BR.use 0 w v t m).word="uses" from rfl)];rfl⟩
  |1=>exact⟨j8,by rw[a];rw[Y20 (Sn "takes" "days"),Y20 (Sn "takes" "bench"),Y20 (Sn "takes" "shut"),Y20 (Sn "takes" "store"),Y20 (Sn "takes" "work"),Y20 (Sn "takes" "way"),Y20 (Sn "takes" "uses"),Y22 (show(BR.use 1 w v t m).word="takes" from rfl)];rfl⟩
  |2=>exact⟨j9,by rw[a];rw[Y20 (Sn "gives" "days"),Y20 (Sn "gives" "bench"),Y20 (Sn "gives" "shut"),Y20 (Sn "gives" "store"),Y20 (Sn "gives" "work"),Y20 (Sn "gives" "way"),Y20 (Sn "gives" "uses"),Y20 (Sn "gives" "takes"),Y22 (show(BR.use 2 w v t m).word="gives" from rfl)];rfl⟩
 |after w x g=>exact⟨j10,by rw[a];rw[Y20 (Sn "after" "days"),Y20 (Sn "after" "bench"),Y20 (Sn "after" "shut"),Y20 (Sn "after" "store"),Y20 (Sn "after" "work"),Y20 (Sn "after" "way"),Y20 (Sn "after" "uses"),Y20 (Sn "after" "takes"),Y20 (Sn "after" "gives"),Y22 (show(BR.after w x g).word="after" from rfl)];rfl⟩
 |late w d c=>exact⟨j11,by rw[a];rw[Y20 (Sn "late" "days"),Y20 (Sn "late" "bench"),Y20 (Sn "late" "shut"),Y20 (Sn "late" "store"),Y20 (Sn "late" "work"),Y20 (Sn "late" "way"),Y20 (Sn "late" "uses"),Y20 (Sn "late" "takes"),Y20 (Sn "late" "gives"),Y20 (Sn "late" "after"),Y22 (show(BR.late w d c).word="late" from rfl)];rfl⟩
theorem nd_le{α:Type}[DecidableEq α]:∀{l m:List α},l.Nodup->(∀x∈l,x∈m)->l.length<=m.length
 |[],_,_,_=>xW _
 |a::l,m,nd,h=>by
  obtain⟨f,d⟩:=kQa.mp nd
  have c:=h a jY
  have:=nd_le (m:=m.erase a) d fun x b=>(List.mem_erase_of_ne (fun e=>f (by rw[<-e];exact b))).mpr (h x (kQ _ b))
  rw[List.length_erase_of_mem c]at this
  have:=List.length_pos_of_mem c
  rw[yZ]
  lia
theorem Qeo(b:WB n B)(h:PlanFor n B pl):pl.length<64:=by
 obtain⟨c,f,e⟩:=b.few
 have:=nd_le (h.nd b) (m:=c) fun x d=>by
  have a:=(xY.mp (h.keys.mem_iff.mp d)).1
  exact e _ (wks_mem.mp a) x (by show x∈[x];exact jY)
 rw[jX]at this
 lia
theorem TupK.app{a b:List V}{ks ls:List (List Key)}(d:TupK H a ks)(c:TupK H b ls):TupK H (a++b) (ks++ls):=by
 unfold TupK at d c⊢
 induction d with
 |nil=>exact c
 |cons z _ ih=>exact .cons z ih
theorem scBroken:FnScope ["book","plan","facts","wrong","taken"] ["book","plan"] (Qh Qen):=Sc
theorem Qtj{fI:Addr}(F:Fn K mg "broken" Qen)(M:Mg mg)(T:FcTxt K mg C)(ai:Mk K C fI)(GI:FnOk P w K mg base CX0 2 fI fdI ["self","book"] (Qek K C))(bI:Binds K fdI ["self","book"] [])(j:Cal P w K mg base 4 "wrong_works" ["facts","plan"] (spWW K C))(a:Cal P w K mg base 1 "choices_taken" ["facts","plan"] (Qii K C))(i:Cal P w K mg base 4 "wrong_rooms" ["facts","taken"] (spWR K C))(c:Cal P w K mg base 4 "wrong_stores" ["facts","taken"] (spWS K C))(g:Cal P w K mg base 4 "wrong_afters" ["facts","taken"] (spWA K C)):Cal P w K mg base 5 "broken" ["book","plan"] (Qsx K):=by
 refine Xt F scBroken (fun _ _ _ _ _ _=>Jt (fun _ _=>rfl)) (fun vs H Q E h=>?_) (fun f aj A ag s H vs Q E W h=>?_)
 .obtain⟨d,P,n,us,B,l,rfl,_⟩:=h
  rfl
 obtain⟨d,P,n,us,B,l,rfl,hd,hB,bk,hP,m,q⟩:=h
 have hz:=X0 20000
 refine⟨_,(Qg (Z4 2 scBroken.nd (Qhk ai GI (W.mono Dc) rfl T.mgC bI .nil Jq (Qa (pv 0) Qf)))
  (Qg (Z4 3 scBroken.nd (Xj j (W.mono Dc) (Qa (pv 2) (Qa (pv 1) Qf))))
  (Qg (Xy (Qm Yq (Qt Qu rfl M.len Ys (Qa (pv 3) Qf)) Qe (Qs _)) (Qg (Z4 4 scBroken.nd (Xj a (W.mono Dc) (Qa (pv 2) (Qa (pv 1) Qf))))
  (Qi (Z4 3 scBroken.nd (Ql Kc (Ql Kc (Xj i (W.mono Dc) (Qa (pv 2) (Qa (pv 4) Qf))) (Xj c (W.mono Dc) (Qa (pv 2) (Qa (pv 4) Qf)))) (Xj g (W.mono Dc) (Qa (pv 2) (Qa (pv 4) Qf))))))) Xa)
  (Qi (Xb (Qdj (Qm Qdm (Qt Qu rfl M.len Ys (Qa (pv 3) Qf)) Qe (Qs _)) (Qr Qn (pv 3) Qe) Wl)))))),?_⟩
 refine⟨_,rfl,fun p I fp ae af=>?_⟩
 dsimp only[tNil]
 have s1:Same H (upd (upd H I (.own p)) p (.ins C I [])):=(Qd ae _).trans (Qd (by rw[Qj af.symm];exact fp) _)
 have X:upd (upd H I (.own p)) p (.ins C I []) p=some (.ins C I []):=Qc
 generalize upd (upd H I (.own p)) p (.ins C I [])=H1 at s1 X⊢
 refine⟨p,d,I,n,us,B,rfl,X,s1 _ _ hd,hB.same s1,bk,fun H2 hF fr=>⟨rfl,?_⟩⟩
 have s2:Same H H2:=fun b o e=>fr b o (s1 _ _ e) (Qk e fp)
 refine⟨_,rfl,_,rfl,p,P,n,B,l,rfl,hF,bk,PlanAt.same hP s2,m,Qeo bk.wb m,fun D xs H3 s3 hD hl N=>?_⟩
 have x:=s2.trans s3
 refine⟨_,rfl,_,_,rfl,.inl (Qb hD),rfl,_,rfl,ite2 (fun y=>?_) (fun y=>?_)⟩
 rotate_left
 .have L:dueF n B l=(B.flatMap (gW l)).head?:=by
   unfold dueF
   cases e:B.flatMap (gW l)with
   |nil=>
    rw[e]at N
    cases N
    exact Y21 rfl y
   |cons k r=>rfl
  generalize B.flatMap (gW l)=ks at L N
  refine⟨_,rfl,_,_,rfl,.inl (Qb hD),_,_,rfl,rfl,_,rfl,ite2 (fun y=>?_) (fun y=>?_)⟩
  .cases N with
   |nil=>exact nomatch y
   |cons z zs=>
    obtain⟨t,rfl,ht⟩:=z
    exact⟨_,rfl,D,_,_,_,rfl,rfl,Qb hD,(show atI (V.ref t::_) ((0:Nat):Int)=some (V.ref t)from Qak rfl),q (.ref t) H3 x (by rw[L];exact⟨t,rfl,ht⟩)⟩
  .cases N with
   |nil=>exact q .non H3 x (by rw[L];rfl)
   |cons z zs=>exact Y21 (yJ (by rw[yZ];lia)) y
 have hW:B.flatMap (gW l)=[]:=by
  cases e:B.flatMap (gW l)with
  |nil=>rfl
  |cons k r=>
   rw[e]at N
   cases N
   exact nomatch y
 have ab:=hF.same s3
 refine⟨_,rfl,_,rfl,p,P,n,B,l,rfl,ab,bk,PlanAt.same hP x,m,hW,fun tk Y H4 s4 O ac=>?_⟩
 have R:=ab.same s4
 refine⟨_,rfl,_,rfl,p,tk,n,B,l,Y,rfl,R,bk,m,hW,O,ac,fun D1 u H5 U h1 l1 t1=>?_⟩
 have J:Zz K H5 l Y (wks B):=Paired.mapP ac fun _ _ ⟨t,e,z⟩=>⟨t,e,U.tup z⟩
 refine⟨_,rfl,_,rfl,p,tk,n,B,l,Y,rfl,R.same U,bk,m,hW,U _ _ O,J,fun D2 v H6 s6 h2 l2 t2=>?_⟩
 refine⟨D1,D2,u,v,rfl,rfl,s6 _ _ h1,h2,Om,fun W1 ad=>?_⟩
 have s7:=Qd ad (.lst (u++v))
 have h7:(upd H6 W1 (.lst (u++v))) W1=some (.lst (u++v)):=Qc
 have t7:=(TupK.app (t1.same s6) t2).same s7
 generalize upd H6 W1 (.lst (u++v))=H7 at s7 h7 t7
 have G:=s6.trans s7
 have aa:Zz K H7 l Y (wks B):=Paired.mapP J fun _ _ ⟨t,e,z⟩=>⟨t,e,G.tup z⟩
 refine⟨_,rfl,_,rfl,p,tk,n,B,l,Y,rfl,(R.same U).same G,bk,m,hW,G _ _ (U _ _ O),aa,fun D3 S H8 s8 h3 l3 t3=>?_⟩
 refine⟨W1,D3,u++v,S,rfl,rfl,s8 _ _ h7,h3,by rw[jJ];lia,fun W2 ah=>?_⟩
 have s9:=Qd ah (.lst (u++v++S))
 have h9:(upd H8 W2 (.lst (u++v++S))) W2=some (.lst (u++v++S)):=Qc
 have Z:=(TupK.app (t7.same s8) t3).same s9
 generalize upd H8 W2 (.lst (u++v++S))=H9 at s9 h9 Z
 have sA:Same H H9:=((((x.trans s4).trans U).trans G).trans s8).trans s9
 have L:dueF n B l=(B.flatMap (gR n B l)++B.flatMap (gS n B l)++B.flatMap (gA B l)).head?:=by
  unfold dueF
  rw[hW,kKf,zJ]
 generalize u++v++S=xs at h9 Z
 generalize B.flatMap (gR n B l)++B.flatMap (gS n B l)++B.flatMap (gA B l)=ks at L Z
 refine⟨_,rfl,_,_,rfl,.inl (Qb h9),_,_,rfl,rfl,_,rfl,ite2 (fun y=>?_) (fun y=>?_)⟩
 .cases Z with
  |nil=>exact nomatch y
  |cons z zs=>
   obtain⟨t,rfl,ht⟩:=z
   exact⟨_,rfl,W2,_,_,_,rfl,rfl,Qb h9,(show atI (V.ref t::_) ((0:Nat):Int)=some (V.ref t)from Qak rfl),q (.ref t) H9 sA (by rw[L];exact⟨t,rfl,ht⟩)⟩
 .cases Z with
  |nil=>exact q .non H9 sA (by rw[L];rfl)
  |cons z zs=>exact Y21 (yJ (by rw[yZ];lia)) y
end
end Nb
namespace L2
open PySem PySem.Spec PyProof.Rows PySem.SeqAt
theorem Qxn{n:Nat}(w:X.K=K)(D:X.A.units+n<cLine):OpR X (compareOp .Eq) (fun x y H Q=>∃(a b:Addr) (ks ls:List Key),x=.ref a/\y=.ref b/\SqT K H a (ks.map kV)/\SqT K H b (ls.map kV)/\∀c:Bool,(c=true↔ks=ls)->Q (.bl c) H):=by
 subst w
 intro g s F H x y v u Q I m l h
 obtain⟨a,b,ks,ls,rfl,rfl,o,j,q⟩:=h
 cases m
 cases l
 obtain⟨B,r,pt,_⟩:=I.tuple o
 obtain⟨f,e,d,_⟩:=I.tuple j
 have t:=r.length
 have C:=e.length
 rw[jX]at t C
 have key:=Qhv (A:=X.A.in1) (s:=s) r e
 refine RcAt.tuples pt d Om key _ _ _ _ ⟨.bl _,H,I,rfl,q _ ?_⟩
 rw[wV,Qdt,kY,kY,beq_iff_eq]
 constructor
 .rintro⟨k,G⟩
  refine Qhm Om fun i x y ex p=>?_
  have E:=(kX.mp ex).1
  have:=kK (k i Om)
  rw[ex,p]at this
  exact Y5 this
 .intro z
  subst z
  exact⟨fun i _=>yJ rfl,Om⟩
section
variable{w:World}{es:Array DictEntry}
theorem Qgj{Q:VP}(g:(d == sysModules)=false)(c:s.heap.get? d=some o)(e:o.ExactDict)(a:o.data=.dict es ep)
  (f:Q (.ref s.heap.objs.size) { s with heap:=s.heap.push { cls:=.type "dict_keyiterator",data:=.fields #[.ref d,.int 0 0,.int es.size 0,.int ep 0] } }) :
  wpAny (model prog w) A (pyIter (.ref d)) Q E s:=by
 have b:s.TypeIs (.ref d) "dict":=⟨o,c,e.1⟩
 refine wpAny_pyIter_slot b F.slot_dict_iter (Y25 F.slot_dict_iter b F.entry_dict_iter ?_ (F.args_dict_iter_1 _))
 unfold Builtin.«dict.__iter__»
 refine jQ ?_
 unfold Builtin.Dict.dictSlotNone
 refine jQ (Y59 b ?_)
 show wpAny _ _ (pure (Value.ref d)) _ _ s
 refine jV ?_
 show wpAny _ _ (Builtin.Dict.showsAll d >>= _) _ _ s
 unfold Builtin.Dict.showsAll
 rw[Y20 (by rw[g];exact yQ)]
 refine jQ (jV ?_)
 refine jQ (wpAny_dictEntries c a ?_)
 refine jQ (wpAny_dictEpoch c a ?_)
 refine jQ (Y26 (jV ⟨_,rfl,"dict_keyiterator",_,⟨_,yY _ rfl,rfl⟩,F.slot_dict_keyiterator_next.lookup,?_⟩))
 simpa[rawInt]using f
theorem Wh(a:s.heap.IsKeyIter it d i es.size ep)(e:s.heap.get? d=some o)(g:o.data=.dict es ep)(c:i<es.size)
  (l:∀h',h'.IsKeyIter it d (i+1) es.size ep->Heap.SameBut it s.heap h'->Q (some es[i].key) { s with heap:=h' }) :
  wpAny (model prog w) A (pyNext (.ref it)) Q E s:=by
 obtain⟨n,k,m,j⟩:=id a
 unfold pyNext
 refine jQ (Y55 (wpAny_callSpecial?_slot (name:=Str.ofString "__next__") a.typeIs Y48
  (Y25 Y48 a.typeIs F.entry_dict_keyiterator_next ?_ (F.args_dict_keyiterator_next_1 _))))
 refine jQ (jV ?_)
 refine jQ ?_
 refine jQ ?_
 first | refine jQ (Y46 a.typeIs (jV ?_)) | refine jQ (Y54 a.typeIs (jV ?_))
 refine jQ (wpAny_fieldsOf k j ?_)
 have f:Builtin.Dict_items.ownsTuple "dict_keyiterator"=false:=Dc
 simp only[f,jJa,if_false]
 show wpAny _ _ (if (Value.ref d == Value.none)=true then _ else _) _ _ s
 rw[Y20 (show ¬((Value.ref d == Value.none)=true)from yQ)]
 refine jQ (jV ?_)
 refine jQ (wpAny_dictEntries e g ?_)
 rw[Y20 (by simp)]
 refine jQ (jV ?_)
 refine jQ (wpAny_dictEpoch e g ?_)
 rw[Y20 (by simp)]
 refine jV ?_
 simp only[show ¬((i:Int)<0)from by lia,if_false,jYa,kJd c]
 refine jQ ?_
 first | refine jQ (Y46 a.typeIs (jV ?_)) | refine jQ (Y54 a.typeIs (jV ?_))
 refine jQ (wpAny_isOneOf_keyiter a.typeIs ?_)
 show wpAny _ _ (setField (.ref it) 1 (rawInt ((i:Int)+1)) >>= _) _ _ s
 refine jQ (Y53 k j (by simp) ?_)
 have b:(s.heap.update it (Obj.mapFields (·.setIfInBounds 1 (rawInt ((i:Int)+1))))).IsKeyIter it d (i+1) es.size ep :=
  ⟨_,jYc _ k (Y61 (Y42 j _)),(Obj.cls_mapFields ..).trans m,by rw[Y42 j];simp[rawInt]⟩
 refine jQ (Y30 ?_)
 refine jQ (wpAny_isOneOf_keyiter (s:={ s with heap:=s.heap.update it (Obj.mapFields (·.setIfInBounds 1 (rawInt ((i:Int)+1)))) }) b.typeIs ?_)
 show wpAny _ _ (pure es[i].key) _ _ _
 exact jV (jV ⟨_,rfl,jV (l _ b (Y67 ..))⟩)
theorem Wy(n:A.handled=none)(c:s.heap.IsKeyIter it d i es.size ep)(e:s.heap.get? d=some o)(g:o.data=.dict es ep)(j:es.size<=i)
  (p:∀h',Heap.ExtBut it s.heap h'->Q none { s with heap:=h' }):wpAny (model prog w) A (pyNext (.ref it)) Q E s:=by
 obtain⟨q,k,r,l⟩:=id c
 unfold pyNext
 refine jQ (Y55 (wpAny_callSpecial?_slot (name:=Str.ofString "__next__") c.typeIs Y48
  (Y25 Y48 c.typeIs F.entry_dict_keyiterator_next ?_ (F.args_dict_keyiterator_next_1 _))))
 refine jQ (jV ?_)
 refine jQ ?_
 refine jQ ?_
 first | refine jQ (Y46 c.typeIs (jV ?_)) | refine jQ (Y54 c.typeIs (jV ?_))
 refine jQ (wpAny_fieldsOf k l ?_)
 have f:Builtin.Dict_items.ownsTuple "dict_keyiterator"=false:=Dc
 simp only[f,jJa,if_false]
 show wpAny _ _ (if (Value.ref d == Value.none)=true then _ else _) _ _ s
 rw[Y20 (show ¬((Value.ref d == Value.none)=true)from yQ)]
 refine jQ (jV ?_)
 refine jQ (wpAny_dictEntries e g ?_)
 rw[Y20 (by simp)]
 refine jQ (jV ?_)
 refine jQ (wpAny_dictEpoch e g ?_)
 rw[Y20 (by simp)]
 refine jV ?_
 simp only[show ¬((i:Int)<0)from by lia,if_false,jYa,Array.getElem?_eq_none j]
 refine jQ ?_
 first | refine jQ (Y46 c.typeIs (jV ?_)) | refine jQ (Y54 c.typeIs (jV ?_))
 show wpAny _ _ (setField (.ref it) 0 .none >>= _) _ _ s
 refine jQ (Y53 k l (by simp) ?_)
 show wpAny _ _ (newExc (.type "StopIteration") [] >>= _) _ _ _
 refine jQ ?_
 simp only[newExc,newTuple]
 refine jQ (Y26 ?_ (by size_fits))
 refine jQ (m:=firstArgMember _ _) (Y32 (a:=Value.none) (by first | rfl | (simp only[firstArgMember];rfl)) ?_)
 refine Y26 ?_ (by size_fits)
 simp only[raiseNew]
 refine jQ (wpAny_handled ?_)
 rw[show A.in1.handled=none from n]
 refine jQ (jV (wpAny_throw ?_))
 refine jQ (wpAny_isInstance (T:="StopIteration") (b:=true) ⟨_,yY _ rfl,rfl⟩ isSubtype_stop ?_)
 exact jV (p _ (((Y67 ..).extBut.push _).push _))
end
theorem Inv.nfT(I:Inv X pins σ H s)(e:H d=some (.dT kvs)):NF X d:=fun o u z=>by
 have:=I.base.frzs d o u z
 rw[e]at this
 cases this
theorem Inv.freezeT(I:Inv X pins σ H s)(e:H d=some (.dT kvs)):∃o,s.heap.get? d=some o/\Inv X pins σ (upd H d (.frz o (.dT kvs))) s:=by
 obtain⟨z,y,h,r,o,i,g,a,b,f,j,c⟩:=(show ObjOk X.prog X.w H s.heap d (.dT kvs)from I.hok d _ e)
 refine⟨o,a,Kg (t':=s.toks) I (by rw[e];exact True.intro) (Heap.SameBut.refl _ _) ⟨o,a⟩ ⟨a,z,y,h,Paired.mapP r fun p q z=>⟨z.1,?_,z.2.2⟩,o,i,g,a,b,f,j,c⟩⟩
 rw[Qj (Yl z.2.1 e (by intro z;cases z))]
 exact z.2.1
theorem Inv.thawT(I:Inv X pins σ H s)(nf:NF X d)(e:H d=some (.frz o (.dT kvs))):Inv X pins σ (upd H d (.dT kvs)) s:=by
 have g:∀b,H b=none->b≠d:=fun b n z=>by rw[z,e]at n;cases n
 have ok:ObjOk X.prog X.w H s.heap d (.frz o (.dT kvs)):=I.hok d _ e
 obtain⟨_,z,y,h,r,D,C,l,k,v,A,G,E⟩:=ok
 refine⟨I.ok,I.os,I.bare,⟨I.base.keep,I.base.slot,fun b q t n K=>?_,I.base.there,fun b h q=>?_,fun b B u q=>?_,fun b ps q=>?_⟩,I.loc,I.cell,?_,fun x c q=>?_,fun p J=>?_,fun b u q=>?_,I.len⟩
 .have f:=I.base.free b q t n K
  rw[Qj (g b f)];exact f
 .have a:=I.base.tups b h q
  rw[Qj (Yl a e (by intro z;cases z))];exact a
 .have a:=I.base.frzs b B u q
  rw[Qj (fun z=>by subst z;exact nf _ _ q)];exact a
 .obtain⟨m,a⟩:=I.base.tbls b ps q
  exact⟨m,by rw[Qj (Yl a e (by intro z;cases z))];exact a⟩
 .rw[Qj (g _ I.free)];exact I.free
 .have f:=I.freeC x c q
  rw[Qj (g _ f)];exact f
 .obtain⟨F,j,L⟩:=I.pin p J
  exact⟨F,by rw[Qj (g _ j)];exact j,L⟩
 .by_cases i:b=d
  .subst i
   rw[Qc]at q
   cases q
   exact⟨z,y,h,Paired.mapP r fun p q z=>⟨z.1,by rw[Qj (Yl z.2.1 e (by intro z;cases z))];exact z.2.1,z.2.2⟩,D,C,l,k,v,A,G,E⟩
  .rw[Qj i]at q
   exact(I.hok b u q).stay (fun _ _ _ r=>r) (fun c r=>by rw[Qj (Yl r e (by intro z;cases z))];exact r) fun c h r=>by rw[Qj (Yl r e (by intro z;cases z))];exact r
def ItKt(d:Addr)(o:Obj)(kvs:List (List Key×V)):It :=
  ⟨fun i H=>H d=some (.frz o (.dT kvs))/\i<kvs.length,
   fun i H v H'=>H'=H/\∃t k x,v=.ref t/\H t=some (.tup (k.map kV))/\kvs[i]?=some (k,x),
   fun i H=>H d=some (.frz o (.dT kvs))/\kvs.length<=i⟩
theorem Qlt{w:World}{es:Array DictEntry}(a:o.data=.dict es ep) :
  Turn P w K tg (ItKt d o kvs) [it] it (fun i h=>h.IsKeyIter it d i es.size ep) where
 mem:=by simp
 obj:=fun i h f c C=>by
  obtain⟨q,e,c1,T⟩:=f
  have V:c=it:=by simpa using C
  subst V
  exact⟨q,e,fun v z=>by rw[T]at z;cases z⟩
 keep:=fun i h A f k=>f.at fun o e=>k it (by simp) o e
 item:=by
  intro X O J R C i j s σ H E I B f Y
  subst O J R
  obtain⟨M,hi⟩:=Y
  obtain⟨m,z,y,g,r,oo,Z,S,l,h2,n,D,h5⟩:=(show ObjOk X.prog X.w H s.heap d (.frz o (.dT kvs))from I.hok d _ M)
  rw[m]at l
  cases l
  rw[a]at n
  cases n
  have lr:=Paired.length r
  have Q:es.size=g.length:=by rw[<-jQf,D,jX]
  obtain⟨U,L,f2,G,F,N⟩:=B it (by simp)
  refine Wh f m a Om fun A p sb=>?_
  have I1:Inv X j σ H { s with heap:=A }:=I.turned (t':=s.toks) (fun b o u e=>(sb.2 b u).trans e) U L G F N
  obtain⟨q,e,c,T⟩:=id p
  have hk:es[i].key=.ref (g[i]).2.1:=by
   have h6:es.toList[i]?=(g.map (entryOfKey (tupleKind (Xg X.prog X.w))))[i]?:=by rw[D]
   rw[yW,gE (show i<g.length by lia),kQd,kJd (show i<es.size by lia)]at h6
   rw[Y5 h6];rfl
  obtain⟨⟨k,x⟩,ek⟩:∃kx,kvs[i]?=some kx:=⟨_,gE hi⟩
  obtain⟨q2,W,e4,V,_⟩:=Qv r ek
  have e6:q2=g[i]:=Y5 (W.symm.trans (gE Om))
  subst e6
  exact⟨_,rfl,Qkt (s:={ s with heap:=A }) e c T Dc ⟨.ref (g[i]).2.1,H,I1,hk,⟨rfl,_,k,x,rfl,V,ek⟩,p,fun b u=>(B b u).1⟩⟩
 done:=by
  intro X O J R C i j s σ H E I B f Y
  subst O J R
  obtain⟨M,hi⟩:=Y
  obtain⟨m,z,y,g,r,oo,Z,S,l,h2,n,D,h5⟩:=(show ObjOk X.prog X.w H s.heap d (.frz o (.dT kvs))from I.hok d _ M)
  rw[m]at l
  cases l
  rw[a]at n
  cases n
  have lr:=Paired.length r
  have Q:es.size=g.length:=by rw[<-jQf,D,jX]
  obtain⟨U,L,f2,G,F,N⟩:=B it (by simp)
  exact Wy (I.ok.hd C) f m a Om fun A eb=>⟨rfl,I.turned (t':=s.toks) (fun b o u z=>eb b o u z) U L G F N⟩
 self:=fun _ _ _ _ _ f h=>wpAny_pyIter_keyiter f h
def iKeysT(F:Addr->Prop)(td:TE):TI:=fun σ H R=>td σ H fun v H1=>∃d kvs,v=.ref d/\H1 d=some (.dT kvs)/\(F d->∀o,R (ItKt d o kvs) (upd H1 d (.frz o (.dT kvs))))
theorem Qtk{a:Expr}(K:PE X a td):PI X tg a (iKeysT (NF X) td):=by
 intro f s u H R I h
 refine thn (K f s u H _ I h) fun v j l=>?_
 obtain⟨x,B,m,J,F⟩:=l
 obtain⟨d,i,e,g,q⟩:=F
 subst e
 obtain rfl:v=Value.ref d:=J
 have nf:=m.nfT g
 obtain⟨o,p,k⟩:=m.freezeT g
 obtain⟨z,y,O,r,M,G,D,n,E,A,P,N⟩:=(show ObjOk X.prog X.w B j.heap d (.dT i)from m.hok d _ g)
 rw[p]at n
 cases n
 refine Qgj y p E A ?_
 have L:Inv X f u (upd B d (.frz o (.dT i))) { j with heap:=j.heap.push { cls:=.type "dict_keyiterator",data:=.fields #[.ref d,.int 0 0,.int G.size 0,.int D 0] } }:=k.kept (t':=j.toks) fun b o z=>jZ _ z
 refine⟨j.heap.objs.size,[j.heap.objs.size],_,ItKt d o i,_,rfl,L,Qlt A,⟨_,yY _ rfl,rfl,rfl⟩,fun c C=>?_,q nf o⟩
 simp only[kZ,jQa,or_false]at C
 subst C
 exact k.fpOk (jK _) (k.hok.fresh (jK _))
def tThwE(F:Addr->Prop)(t:TE):TE:=fun σ H Q=>t σ H fun v H'=>∃d o kvs,F d/\H' d=some (.frz o (.dT kvs))/\Q v (upd H' d (.dT kvs))
theorem Qtl{t:TE}(h:PE X e t):PE X e (tThwE (NF X) t):=by
 intro a s g H Q I q
 refine thn (h a s g H _ I q) fun v k b=>?_
 obtain⟨x,j,f,c,d,o,i,nf,e,r⟩:=b
 exact⟨x,_,f.thawT nf e,c,r⟩
end L2
namespace Nb
open PySem L2
theorem Qil{v:V}(h:(ns.map V.str)[i]?=some v):∃n,ns[i]?=some n/\v=.str n:=by
 rw[yW]at h
 cases e:ns[i]? with
 |none=>rw[e]at h;cases h
 |some n=>rw[e]at h;exact⟨n,rfl,(Y5 h).symm⟩
theorem at3_2{a b c:V}:atI [a,b,c] 2=some c:=rfl
abbrev Ch:=Str×Str×Int
def ChV(K:Fg)(H:Hp)(v:V)(c:Ch):Prop:=∃t,v=.ref t/\SqT K H t [.str c.1,.str c.2.1,.int c.2.2]
abbrev ChsAre(K:Fg)(H:Hp):List V->List Ch->Prop:=Paired (ChV K H)
theorem ChV.same(s:Same H H'){v:V}{c:Ch}(h:ChV K H v c):ChV K H' v c:=by obtain⟨t,e,z⟩:=h;exact⟨t,e,s.tup z⟩
theorem ChV.updL{g:Addr}(a:H g=some (.lst ys)){v:V}{c:Ch}(h:ChV K H v c):ChV K (upd H g (.lst zs)) v c:=by obtain⟨t,e,z⟩:=h;exact⟨t,e,Zi a z⟩
theorem ChsAre.same(s:Same H H'){A:List Ch}(h:ChsAre K H vs A):ChsAre K H' vs A:=Paired.mapP h fun _ _ z=>z.same s
theorem ChsAre.updL{g:Addr}(a:H g=some (.lst ys)){A:List Ch}(h:ChsAre K H vs A):ChsAre K (upd H g (.lst zs)) vs A:=Paired.mapP h fun _ _ z=>z.updL a
structure ChsAt(K:Fg)(H:Hp)(a:Addr)(A:List Ch):Prop where
 ex:∃vs,SqL K H a vs/\ChsAre K H vs A
 few:A.length<=2000000
theorem ChsAt.same(s:Same H H'){A:List Ch}(h:ChsAt K H a A):ChsAt K H' a A:=⟨let ⟨vs,z1,z2⟩:=h.ex;⟨vs,s.seq z1,z2.same s⟩,h.few⟩
theorem ch_mem{A:List Ch}(h:ChsAre K H vs A){v:V}(e:vs[i]?=some v):∃c,A[i]?=some c/\c∈A/\ChV K H v c:=by
 obtain⟨c,a,z⟩:=Qv h e
 exact⟨c,a,kW a,z⟩
theorem lc_chs{D:Addr}{A:List Ch}{f:Ch->Int}{Q:Addr->Hp->Prop}(l:τ0=none::cs)(o:ChsAt K H a A)(s:H D=none)
  (C:∀(c:Ch) (t:Addr) (H1:Hp),c∈A->Same H H1->SqT K H1 t [.str c.1,.str c.2.1,.int c.2.2]->∀P:V->Hp->Prop,(∀H2,Same H1 H2->P (.int (f c)) H2)->te (some (.ref t)::cs) H1 P)
  (y:∀H1,Same H H1->H1 D=some (.lst ((A.map f).map V.int))->Q D H1) :
  LcW (Itl K a) D τ0 H (Vi 0) tYes te Q:=by
 subst l
 obtain⟨q,k,p⟩:=o.ex
 have G:=Paired.length p
 have F:=X0 2000000
 have I:=o.few
 let j:Nat->St->List V->Hp->Prop:=fun i g e H1=>∃v:Option V,g=v::cs/\e=((A.take i).map f).map V.int/\H1 D=some (.lst e)/\Same H H1
 refine Ze (n:=A.length) j ?_ (fun i g e H1 r h=>?_) (fun i g e H1 r h=>?_) (fun g e H1 h=>?_) ?_ ?_
 .exact⟨none,rfl,rfl,Qc,Qd s _⟩
 .obtain⟨v,rfl,rfl,b,d⟩:=h
  exact⟨b,by rw[jX,jX,xJ];lia⟩
 .obtain⟨v,rfl,rfl,b,d⟩:=h
  exact⟨q,_,d.seq k,gE Om⟩
 .obtain⟨v,rfl,rfl,b,d⟩:=h
  exact⟨q,d.seq k,Om⟩
 .rintro i g e H1 x H2 r ⟨v,rfl,rfl,b,d⟩ ⟨rfl,u⟩
  obtain⟨c,B,z,t,rfl,w⟩:=ch_mem p (u _ (d.seq k))
  refine C c t _ z d (d.tup w) _ fun E m=>⟨m _ _ b,_,rfl,?_,Qc,Vr (d.trans m) s⟩
  rw[Ka B,zQ,zQ];rfl
 .rintro g e H1 ⟨v,rfl,rfl,b,d⟩
  rw[yV]at b
  exact y H1 d b
def wayR(w:Str):BR->Option (Str×Int×Int)
 |.way w' v l c=>if w'=w then some (v,l,c)else none
 |_=>none
theorem wayR_some{x:Str×Int×Int}:wayR w r=some x↔r=.way w x.1 x.2.1 x.2.2:=by
 cases r with
 |way w' v l c=>
  show(if w'=w then some (v,l,c)else none)=some x↔_
  by_cases h:w'=w
  .rw[Y22 h,h]
   constructor
   .intro e;cases e;rfl
   .intro e;injection e with _ d a b;subst d a b;rfl
  .rw[Y20 h]
   exact⟨fun e=>(nomatch e),fun e=>Y21 (by injection e) h⟩
 |_=>exact⟨fun e=>(nomatch e),fun e=>(nomatch e)⟩
def chW(n:Int)(w:Str)(p:Str×Int×Int):List Ch:=(List.range (n-p.2.1+1).toNat).map fun b:Nat=>(w,p.1,(b:Int))
def chO(n:Int)(B:List BR)(w:Str):List Ch:=(B.filterMap (wayR w)).flatMap (chW n w)
def chs(n:Int)(B:List BR):List Ch:=(wks B).flatMap (chO n B)
theorem Jo{α β:Type}{l:List α}{f:α->List β}{m:Nat}(h:∀x∈l,(f x).length<=m):(l.flatMap f).length<=l.length*m:=by
 induction l with
 |nil=>simp
 |cons a l ih=>
  rw[jZe,jJ,yZ,Nat.add_mul,Nat.one_mul]
  have d:=h a (jY ..)
  have c:=ih fun x b=>h x (kQ _ b)
  lia
theorem Wr{α β:Type}{l:List α}{x:α}(f:α->List β)(h:l[i]?=some x):(l.take (i+1)).flatMap f=(l.take i).flatMap f++f x:=by
 rw[Ka h,yXd];simp
theorem Qxo{c:Ch}(h:c∈chO n B w):c.1=w/\∃l k,BR.way w c.2.1 l k∈B/\0<=c.2.2/\c.2.2+l<=n:=by
 obtain⟨x,d,f⟩:=jJe.mp h
 obtain⟨r,a,e⟩:=xQ.mp d
 rw[wayR_some]at e
 subst e
 obtain⟨b,g,rfl⟩:=zV.mp f
 have:=jKc.mp g
 exact⟨rfl,x.2.1,x.2.2,a,by show(0:Int)<=(b:Int);lia,by show(b:Int)+x.2.1<=n;lia⟩
theorem Qxp{c:Ch}(h:c∈chs n B):∃l k,BR.way c.1 c.2.1 l k∈B/\0<=c.2.2/\c.2.2+l<=n:=by
 obtain⟨w,b,a⟩:=jJe.mp h
 obtain⟨e,z⟩:=Qxo a
 rw[e]
 exact z
theorem Qpd(bk:BookOk n B):∀x∈B.filterMap (wayR w),(chW n w x).length<=12:=fun x b=>by
 obtain⟨r,a,e⟩:=xQ.mp b
 rw[wayR_some]at e
 subst e
 have c:1<=x.2.1/\_:=bk.wb.ok _ a
 have:=bk.n12
 unfold chW
 rw[jX,wY]
 lia
theorem Qpe(bk:BookOk n B)(w:Str):(chO n B w).length<=4800:=by
 have c:=Jo (Qpd bk (w:=w))
 have a:=zY (wayR w) B
 have b:=bk.wb.len
 unfold chO
 lia
theorem Qxq(bk:BookOk n B):(chs n B).length<=2000000:=by
 have c:=Jo (l:=wks B) (f:=chO n B) (m:=4800) fun w _=>Qpe bk w
 have a:(wks B).length<=B.length:=zY Ki B
 have b:=bk.wb.len
 unfold chs
 lia
end Nb
variable{good:List Nb.Ch->Prop}
namespace L2
open PySem PySem.Spec PyProof.Rows PySem.SeqAt
theorem Qgk{a b:Value}{Q:VP}(e:s.TypeIs a "list")(h:s.TypeIs b "list")(i:wpAny M A (call (.builtin "list.__iadd__") [a,b]) Q E s):wpAny M A (inplaceOp .Add a b) Q E s:=by
 unfold inplaceOp
 refine Y30 ?_
 have f:typeLookup (.type "list") (dunderI "add")=pure (some (.builtin "list.__iadd__")):=F.slot_list_iadd.lookup
 have d:isSeqSlot (some (.builtin "list.__iadd__"))=true:=Dk
 have c:fillsInplaceSlot (.type "list") "add" (Operator.Add == .Add)=pure false:=by
  unfold fillsInplaceSlot
  show(typeLookup (.type "list") (dunderI "add") >>= fun g=>pure (g.isSome&&!isSeqSlot g))=pure false
  rw[f,pure_bind,d];rfl
 refine jQ (Y40 e (jQ (Y32 c ?_)))
 show wpAny M A (if false=true then _ else _) Q E s
 rw[Y20 yQ]
 refine jQ (wpAny_binaryOp1_none (nm:="add") e h (PySem.fillsNumberSlot_seq (id:="list.__add__") (r:=none) F.slot_list_add.lookup Dk (by rw[typeLookup_type,Y60];kernel_rfl) rfl) ?_)
 refine jQ (Y32 (PySem.seqSlot_of f d) ?_)
 exact jQ (Y58 i)
def ipL:TIp:=fun x y H Q=>∃l b xs zs,x=.ref l/\y=.ref b/\H l=some (.lst xs)/\H b=some (.lst zs)/\xs.length+zs.length<=sizeLine/\Q (.ref l) (upd H l (.lst (xs++zs)))
theorem Qxr:PIp X .Add ipL:=by
 intro j s A H x y v u Q I t k h
 obtain⟨l,b,D,G,rfl,rfl,i,o,C,q⟩:=h
 cases t
 cases k
 obtain⟨z,c,n,r,B,e⟩:=I.lstM i
 obtain⟨E,a,m,p,w,g⟩:=I.lstM o
 have f:c.toArray.size+a.toArray.size<=sizeLine:=by rw[kY,kY];lia
 have d:¬(!c.toArray.isEmpty&&Builtin.List.listTooLong (c.toArray.size+a.toArray.size))=true:=by
  rw[Qre f,Bool.and_false]
  exact yQ
 refine Qgk ⟨_,e,rfl⟩ ⟨_,g,rfl⟩ (Y63 F.slot_list_iadd ⟨_,e,rfl⟩ F.entry_list_iadd (F.args_list_iadd_2 _ _)
  (AutoSeq1.list___iadd___list_list_0 l c.toArray n b a.toArray m d (by rw[kY];lia) Om) ⟨e,g,?_⟩)
 refine⟨.ref l,_,I.lset (its':=c++a) i e (by simp) (r.append p) ?_,rfl,q⟩
 rw[jJ]
 lia
end L2
namespace Nb
open PySem L2
abbrev Qcz:Stmt:=inClass (top 11) 3
def wyK(w:Str):List Key->Option Str
 |[.inr a,.inr b,.inr v]=>if a="way"/\b=w then some v else none
 |_=>none
theorem Qxs{k:List Key}(h:wayK k=false):wyK w k=none:=by
 have c:¬(k.head?=some (inr ("way":Str))):=Y69 h
 unfold wyK
 split
 .rename_i a b v
  rw[Y20]
  rintro⟨rfl,_⟩
  exact c rfl
 .rfl
theorem Qxt(r:BR):wyK w r.key=(wayR w r).map (·.1):=by
 cases r with
 |way w' v l c=>
  show(if ("way":Str)="way"/\w'=w then some v else none)=Option.map _ (if w'=w then some (v,l,c)else none)
  by_cases h:w'=w
  .rw[Y22 ⟨rfl,h⟩,Y22 h];rfl
  .rw[Y20 (fun z=>h z.2),Y20 h];rfl
 |use k w' v t m=>rfl
 |after x y g=>
  show(if ("after":Str)="way"/\x=w then some y else none)=none
  rw[Y20 (fun z=>Y21 z.1 Dk)]
 |_=>rfl
theorem Qep{w:Str}:∀l:List (List Key),l.filterMap (wyK w)=(l.filter wayK).filterMap (wyK w)
 |[]=>rfl
 |k::l=>by
  rw[kXa]
  by_cases h:wayK k=true
  .rw[Y22 h,jXe,jXe,Qep l]
  .rw[Y20 h,jXe,Qxs (by simpa using h),Qep l]
theorem Qxu(h:(kvs.map (·.1)).filter wayK=(B.map BR.key).filter wayK)(w:Str):kvs.filterMap (fun p=>wyK w p.1)=(B.filterMap (wayR w)).map (·.1):=by
 have a:kvs.filterMap (fun p=>wyK w p.1)=(kvs.map (·.1)).filterMap (wyK w):=by rw[List.filterMap_map];rfl
 rw[a,Qep,h,<-Qep,List.filterMap_map,List.map_filterMap]
 congr 1
 funext r
 exact Qxt r
theorem Qxv(h:(kvs.map (·.1)).filter wayK=(B.map BR.key).filter wayK){k:List Key}{x:V}(j:(k,x)∈kvs)(e:cutV (k.map kV) none (some 2)=[V.str "way",V.str w]):∃v,k=[inr ("way":Str),inr w,inr v]:=by
 have d:(k.take 2).map kV=[V.str "way",V.str w]:=by
  rw[<-e]
  unfold cutV
  rw[HT.sIx_none,jZc,kYe,show(2:Int)=((2:Nat):Int)from rfl,HT.sIx_nat,jX,<-kQc]
  congr 1
  by_cases c:2<=k.length
  .rw[wK c]
  .rw[kZa Om,wQ Om,wQ (jK _)]
 have g:wayK k=true:=by
  match k,d with
  |a::k',d=>
   rw[List.take_succ_cons,zX]at d
   injection d with b
   cases a with
   |inl i=>exact nomatch b
   |inr a=>injection b with b;subst b;exact yJ rfl
  |[],d=>exact nomatch d
 have n:k∈(B.map BR.key).filter wayK:=by
  rw[<-h]
  exact xY.mpr ⟨zV.mpr ⟨_,j,rfl⟩,g⟩
 obtain⟨r,o,rfl⟩:=zV.mp (xY.mp n).1
 have f:r.word="way":=by
  have:=kK g
  exact Y37 (Y5 (show some (inr r.word:Key)=some (inr ("way":Str))from this))
 obtain⟨m,v,l,c,rfl⟩:=Qec f
 have b:[V.str "way",V.str m]=[V.str "way",V.str w]:=d
 injection b with _ b
 injection b with b
 injection b with b
 subst b
 exact⟨v,rfl⟩
theorem Qvc{k:Key}{a:Str}(h:V.str a=kV k):k=inr a:=by
 cases k with
 |inl i=>exact nomatch h
 |inr x=>injection h with h;rw[h]
theorem two_keys{a b:Str}(h:[V.str a,V.str b]=ks.map kV):ks=[inr a,inr b]:=by
 cases ks with
 |nil=>exact nomatch h
 |cons x ks=>
  rw[zX]at h
  injection h with d h
  cases ks with
  |nil=>exact nomatch h
  |cons y ks=>
   rw[zX]at h
   injection h with c h
   cases ks with
   |nil=>rw[Qvc d,Qvc c]
   |cons z ks=>exact nomatch h
structure ChI(K:Fg)(H0 H:Hp)(g:Addr)(A:List Ch):Prop where
 fr:H0 g=none
 sm:Same H0 H
 ex:∃ys,H g=some (.lst ys)/\ChsAre K H ys A
theorem ChI.same(s:Same H H'){g:Addr}{A:List Ch}(h:ChI K H0 H g A):ChI K H0 H' g A:=⟨h.fr,h.sm.trans s,let ⟨ys,z1,z2⟩:=h.ex;⟨ys,s _ _ z1,z2.same s⟩⟩
def Qvd(K:Fg)(C:Addr):Sp:=fun vs H Q _=>∃(p:Addr) (n:Int) (B:List BR),vs=[.ref p]/\FcAt K C H p n B/\BookOk n B/\∀(g:Addr) (H':Hp),Same H H'->H g=none->H' g≠none->ChsAt K H' g (chs n B)->Q (.ref g) H'
section
variable{w:World}
theorem scFcA:FnScope ["self","found","work","way"] ["self"] (Qh Qcz):=Sc
theorem okFcA(F:Fun K "all_choices" "Facts.all_choices" Qcz f fd)(M:Mg mg)(T:FcTxt K mg C)(GL:FnOk P w K mg base CX0 1 fL fdL ["self","work","way"] (Qif K C))(bL:Binds K fdL ["self","work","way"] [])(mL:Meth K C "last_begin" fL):FnOk P w K mg base CX0 2 f fd ["self"] (Qvd K C):=by
 refine F.ok scFcA (fun vs H Q E h=>?_) (fun az A aq s H vs Q E hr h=>?_)
 .obtain⟨p,n,B,rfl,_⟩:=h
  rfl
 obtain⟨p,n,B,rfl,ao,bk,q⟩:=h
 have ar:=Z6 6 hr.un
 have hz:=X0 2000000
 obtain⟨dx,lw,lb,lh,ls,la,L,fs,d,yh,aA,ya,N⟩:=id ao
 refine⟨_,(Qg (Z4 1 scFcA.nd (Xd Qf))
  (Qg (Ye Y33 rfl (Qx (Yn (pv 0) rfl)) (Z3 2 scFcA.nd) (Qi (Ye Y33 rfl (Qx (Qtl (Yu ["names","work"] [none,some 2] rfl (Qtk (Yn (pv 0) rfl)) (fun _ _ _=>(Z3 0 (show(["names","work"]:List Str).Nodup by decide +kernel))) (fun _ _ _=>(Zw (Qm (Qxn (K:=K) (n:=6) rfl ar) (Xi (Qse (K:=K) rfl) (pv 0) Yi (Xn Qe)) (Yy (Qa Qq (Qa (pv 1) Qf))) (Qs _)))) (fun _ _ _=>(Qr (Wb (K:=K) rfl) (pv 0) Qe))))) (Z3 3 scFcA.nd) (Qi (Qmk (i:=1) scFcA.nd rfl (inl rfl) (Yu ["begin","work","way"] [none,some 2,some 3] rfl (Xo rfl M.range_ (Qa (Ql Xc (Zd (pv 0) T.cl mL GL (hr.mono Dc) bL .nil Jq (Qa (pv 2) (Qa (pv 3) Qf))) Qe) Qf)) (fun _ _ _=>(Z3 0 (show(["begin","work","way"]:List Str).Nodup by decide +kernel))) (fun _ _ _=>Yr) (fun _ _ _=>(Yy (Qa (pv 1) (Qa (pv 2) (Qa (pv 0) Qf)))))) Qxr)))))
  (Qi (Xb (pv 1))))),?_⟩
 refine⟨Z1 0,fun g hg=>?_⟩
 have c0:ChI K H (upd H g (.lst [])) g []:=⟨hg,Qd hg _,[],Qc,.nil⟩
 generalize upd H g (.lst [])=S at c0⊢
 let ai:Nat->St->Hp->Prop:=fun i Y S=>∃u v:Option V,Y=[some (.ref p),some (.ref g),u,v]/\ChI K H S g (((wks B).take i).flatMap (chO n B))
 refine⟨_,rfl,p,C,dx,fs,_,rfl,c0.sm _ _ N.hp,T.cl,T.nW,N.fW,lw,rfl,⟨_,Qb (c0.sm _ _ N.hW)⟩,Zc (xs:=(wks B).map V.str) ai ⟨none,none,rfl,c0⟩ ?_ ?_ ?_⟩
 .rintro i Y S hi ⟨u,v,rfl,c⟩
  exact Qb (c.sm _ _ N.hW)
 .rintro i x Y S ex ⟨u,v,rfl,c⟩
  obtain⟨w,ew,rfl⟩:=Qil ex
  refine⟨_,rfl,p,C,dx,fs,_,rfl,c.sm _ _ N.hp,T.cl,T.nI,N.fI,L,d,rfl,c.sm _ _ N.hI,fun nf o D hD=>?_⟩
  have ag:=c.sm _ _ N.hI
  have sf:∀b u,S b=some u->b≠L->upd S L (.frz o (.dT d)) b=some u:=fun b u e ne=>by rw[Qj ne];exact e
  have R:upd S L (.frz o (.dT d)) L=some (.frz o (.dT d)):=Qc
  have ab:S D=none:=by
   cases e:S D with
   |none=>rfl
   |some u=>
    by_cases c:D=L
    .subst c;rw[R]at hD;cases hD
    .rw[sf D u e c]at hD;cases hD
  generalize upd S L (.frz o (.dT d))=Hf at sf R hD⊢
  have lk:=N.kl
  let af:Nat->St->List V->Hp->Prop:=fun j O G U=>∃v:Option V,O=[v,some (.str w)]/\G=((d.take j).filterMap fun p=>wyK w p.1).map V.str/\G.length<=j/\U D=some (.lst G)/\Same Hf U
  refine Ze (n:=d.length) af ?_ (fun j O G U hj h=>?_) (fun j O G U hj h=>?_) (fun O G U h=>?_) ?_ ?_
  .exact⟨none,rfl,rfl,jK _,Qc,Qd hD _⟩
  .obtain⟨v,rfl,ey,hl,I,J⟩:=h
   exact⟨I,Om⟩
  .obtain⟨v,rfl,ey,hl,I,J⟩:=h
   exact⟨J _ _ R,hj⟩
  .obtain⟨v,rfl,ey,hl,I,J⟩:=h
   exact⟨J _ _ R,jK _⟩
  .rintro j O G U x H3 hj ⟨v,rfl,ey,hl,I,J⟩ ⟨rfl,t,k,y,rfl,ht,ek⟩
   obtain⟨al,e2⟩:=Qab k none (some 2)
   refine⟨_,rfl,_,rfl,t,_,rfl,Qz ht,fun p2 H4 s4 am=>⟨_,rfl,Z1 2,fun p3 an=>?_⟩⟩
   rw[e2]at am
   have W:=s4.trans (Qd an (.tup [.str "way",.str w]))
   have ad:=(Qd an (.tup [.str "way",.str w])).tup am
   have ac:SqT K (upd H4 p3 (.tup [.str "way",.str w])) p3 ([inr ("way":Str),inr w].map kV):=Qz Qc
   generalize upd H4 p3 (.tup [.str "way",.str w])=H5 at W ad ac⊢
   refine⟨p2,p3,al,[inr ("way":Str),inr w],rfl,rfl,ad,ac,fun c hc=>⟨_,rfl,ite2 (fun y=>?_) (fun y=>?_)⟩⟩
   .have e3:=hc.mp y
    rw[e3]at e2
    obtain⟨vv,rfl⟩:=Qxv N.wo (kW ek) e2
    have e4:wyK w [inr ("way":Str),inr w,inr vv]=some vv:=by
     show(if ("way":Str)="way"/\w=w then some vv else none)=some vv
     rw[Y22 ⟨rfl,rfl⟩]
    refine⟨_,rfl,t,_,_,_,rfl,rfl,W.tup (Qz ht),at3_2,W _ _ I,_,rfl,?_,by rw[jJ];exact jQb hl,Qc,Vr (J.trans W) hD⟩
    rw[Jn (fun p=>wyK w p.1) ek,e4,zQ,ey]
    rfl
   .have e4:wyK w k=none:=by
     cases e:wyK w k with
     |none=>rfl
     |some vv=>
      exfalso
      unfold wyK at e
      split at e
      .rename_i a b v'
       split at e
       .rename_i h'
        obtain⟨rfl,rfl⟩:=h'
        have e5:cutV ([V.str "way",V.str b,V.str v']) none (some 2)=al.map kV:=e2
        rw[cut2]at e5
        refine y (hc.mpr ?_)
        exact two_keys e5
       .cases e
      .cases e
    refine⟨_,rfl,?_,Om,W _ _ I,J.trans W⟩
    rw[Jn (fun p=>wyK w p.1) ek,e4,ey]
    simp
  rintro O G U ⟨v',rfl,ey,hl,I,J⟩
  rw[yV,Qxu N.wo]at ey
  refine⟨L,o,d,nf,J _ _ R,?_⟩
  have nD:D≠L:=fun e=>by rw[e,ag]at ab;cases ab
  have W:Same S (upd U L (.dT d)):=fun b u e=>by
   by_cases c:b=L
   .subst c;rw[Qc,<-ag];exact e
   .rw[Qj c];exact J _ _ (sf b u e c)
  have Z:upd U L (.dT d) D=some (.lst G):=by rw[Qj nD];exact I
  have c5:=c.same W
  have au:D≠g:=fun e=>by obtain⟨zs,hz,_⟩:=c.ex;rw[e,hz]at ab;cases ab
  generalize upd U L (.dT d)=H5 at W Z c5⊢
  rw[ey]at Z
  clear ey I J R sf
  have wl:=zY (wayR w) B
  have bl:=bk.wb.len
  refine⟨D,rfl,⟨_,Qb Z⟩,Zc (xs:=((B.filterMap (wayR w)).map (·.1)).map V.str) (fun j Y H6=>∃v:Option V,Y=[some (.ref p),some (.ref g),some (.str w),v]/\ChI K H H6 g (((wks B).take i).flatMap (chO n B)++((B.filterMap (wayR w)).take j).flatMap (chW n w))/\H6 D=some (.lst (((B.filterMap (wayR w)).map (·.1)).map V.str))) ⟨v,rfl,by rw[yXb,List.flatMap_nil,xX];exact c5,Z⟩ ?_ ?_ ?_⟩
  .rintro j Y H6 hj ⟨v,rfl,c6,X⟩
   exact Qb X
  .rintro j x Y H6 ex ⟨v,rfl,c6,X⟩
   obtain⟨vv,ah,rfl⟩:=Qil ex
   rw[yW]at ah
   obtain⟨⟨v1,l,k⟩,aj,e7⟩:=jKf.mp ah
   have av:v1=vv:=e7
   subst av
   obtain⟨r,hr,er⟩:=xQ.mp (kW aj)
   rw[wayR_some]at er
   subst er
   have ax:1<=l/\l<=n/\_:=bk.wb.ok _ hr
   have ay:=bk.n12
   refine⟨_,rfl,_,rfl,p,dx,fs,rfl,c6.sm _ _ N.hp,N.nL,_,rfl,_,rfl,p,n,B,w,v1,l,k,rfl,ao.same c6.sm,hr,fun H7 s7=>⟨_,_,rfl,rfl,_,rfl,Om,Om,fun D2 aa=>?_⟩⟩
   let ak:Nat->St->List V->Hp->Prop:=fun m O G H8=>∃v:Option V,O=[v,some (.str w),some (.str v1)]/\ChsAre K H8 G ((List.range m).map fun b:Nat=>(w,v1,(b:Int)))/\H8 D2=some (.lst G)/\Same H7 H8
   refine Ze (n:=(n-l+1).toNat) ak ?_ (fun m O G H8 hm h=>?_) (fun m O G H8 hm h=>?_) (fun O G H8 h=>?_) ?_ ?_
   .exact⟨none,rfl,.nil,Qc,Qd aa _⟩
   .obtain⟨v,rfl,hY,I,J⟩:=h
    have:=Paired.length hY
    rw[jX,wY]at this
    exact⟨I,Om⟩
   .exact hm
   .exact jK _
   .rintro m O G H8 x H9 hm ⟨v,rfl,hY,I,J⟩ ⟨rfl,rfl⟩
    refine⟨_,rfl,_,rfl,_,rfl,Z1 3,fun t ht=>?_⟩
    have s9:=Qd ht (.tup [.str w,.str v1,.int (0+(m:Int))])
    have ap:upd H9 t (.tup [.str w,.str v1,.int (0+(m:Int))]) t=some (.tup [.str w,.str v1,.int (0+(m:Int))]):=Qc
    generalize upd H9 t (.tup [.str w,.str v1,.int (0+(m:Int))])=H10 at s9 ap⊢
    refine⟨s9 _ _ I,_,rfl,?_,Qc,Vr (J.trans s9) aa⟩
    rw[yQa,zQ]
    refine Paired.snoc ((ChsAre.same s9 hY).updL (s9 _ _ I)) ⟨t,rfl,Zi (s9 _ _ I) (Qz ?_)⟩
    rw[ap,kJb]
   rintro O G H8 ⟨v',rfl,hY,I,J⟩
   have c8:=c6.same (s7.trans J)
   obtain⟨xs,ae,hX⟩:=c8.ex
   have l1:=Paired.length hX
   have l2:=Paired.length hY
   have aw:D2≠g:=fun e=>by
    obtain⟨zs,hz,_⟩:=(c6.same s7).ex
    rw[e,hz]at aa;cases aa
   have e9:((wks B).take i).flatMap (chO n B)++((B.filterMap (wayR w)).take (j+1)).flatMap (chW n w)=(((wks B).take i).flatMap (chO n B)++((B.filterMap (wayR w)).take j).flatMap (chW n w))++((List.range (n-l+1).toNat).map fun b:Nat=>(w,v1,(b:Int))):=by
    rw[Wr (chW n w) aj,zJ];rfl
   refine⟨g,D2,xs,G,rfl,rfl,ae,I,?_,_,rfl,?_,?_⟩
   .rw[l1,l2,<-jJ,<-e9,jJ]
    have a1:=Jo (l:=(wks B).take i) (f:=chO n B) (m:=4800) fun w _=>Qpe bk w
    have a2:=Jo (l:=(B.filterMap (wayR w)).take (j+1)) (f:=chW n w) (m:=12) fun x hx=>Qpd bk x (List.mem_of_mem_take hx)
    have a3:(wks B).length<=B.length:=zY Ki B
    rw[xJ]at a1 a2
    lia
   .rw[e9]
    exact⟨c8.fr,Vr c8.sm c8.fr,_,Qc,Qcq (hX.updL ae) (ChsAre.updL ae hY)⟩
   .rw[Qj au]
    exact J _ _ (s7 _ _ X)
  .rintro Y H6 ⟨v,rfl,c6,X⟩
   rw[jX,jX,yV]at c6
   exact⟨_,_,rfl,by rw[Wr (chO n B) ew];exact c6⟩
 .rintro Y S ⟨u,v,rfl,c⟩
  rw[jX,yV]at c
  obtain⟨G,hy,hY⟩:=c.ex
  exact⟨_,rfl,q g S c.sm c.fr (by rw[hy];exact fun z=>nomatch z) ⟨⟨G,Qb hy,hY⟩,Qxq bk⟩⟩
end
end Nb
namespace L2
open PySem PySem.Spec PyProof.Rows PySem.SeqAt
def ItS(x:Str):It:=⟨fun i _=>i<x.cps.size,fun i H v H'=>H'=H/\∃c,x.cps[i]?=some c/\v=.str ⟨#[c]⟩,fun i _=>x.cps.size<=i⟩
theorem Qtm{w:World}{t:Tok}(j:Addr):Turn P w K tg (ItS x) [j] j (fun i h=>h.IsStrIter j "str_ascii_iterator" x t i) where
 mem:=jY
 obj:=fun i h g b f=>by
  rw[jW.mp f]
  obtain⟨o,e,_,d⟩:=g
  exact⟨o,e,fun v z=>by rw[d]at z;cases z⟩
 keep:=fun i h m ⟨o,e,r⟩ k=>⟨o,k j jY o e,r⟩
 item:=by
  intro X F B G _ i a s M H E I n g p
  subst F B G
  obtain⟨L,C,O,y,u,D⟩:=n j jY
  have N:x.cps[i]?=some (x.cps[i]'p):=kJd p
  refine wpAny_pyNext_ascii_item g N fun m l R=>?_
  have J:Inv X a M H { s with heap:=m,toks:=s.toks+1 }:=I.turned (t':=s.toks+1) (fun b o f e=>(R.2 b f).trans e) L C y u D
  obtain⟨o,e,c,d⟩:=id l
  exact⟨_,rfl,Qkt (s:={ s with heap:=m,toks:=s.toks+1 }) e c d Dc ⟨.str _,H,J,⟨_,rfl⟩,⟨rfl,_,N,rfl⟩,l,fun b f=>(n b f).1⟩⟩
 done:=by
  intro X F B G S i a s M H E I n g p
  subst F B G
  obtain⟨L,C,O,y,u,D⟩:=n j jY
  refine wpAny_pyNext_ascii_end (I.ok.hd S) g (Array.getElem?_eq_none p) fun m ex=>⟨rfl,I.turned (t':=s.toks) (fun b o f e=>ex b o f e) L C y u D⟩
 self:=fun A i s Q E g q=>wpAny_pyIter_striter_ascii g q
theorem pi_str{l:Expr}{tl:TE}(m:PE X l tl):PI X tg l (fun σ H R=>tl σ H fun v H1=>∃x:Str,v=.str x/\x.cps.all (· < 128)=true/\R (ItS x) H1):=by
 intro a s σ H R I h
 refine thn (m a s σ H _ I h) fun v f d=>?_
 obtain⟨z,H1,c,k,g⟩:=d
 obtain⟨x,rfl,j,q⟩:=g
 obtain⟨t,rfl⟩:=(show ∃t,v=Value.str x t from k)
 refine wpAny_pyIter_ascii j ?_
 refine⟨f.heap.objs.size,[f.heap.objs.size],_,_,H1,rfl,c.kept (t':=f.toks) fun b o e=>jZ _ e,Qtm (t:=t) _,⟨_,yY _ rfl,rfl,rfl⟩,fun b i=>?_,q⟩
 rw[jW.mp i]
 exact c.fpOk (jK _) (c.hok.fresh (jK _))
theorem Qgl:OpR X (compareOp .LtE) (fun a b H Q=>∃i j,a=.str i/\b=.str j/\Q (.bl (!decide (j.cps.toList<i.cps.toList))) H):=by
 rintro d s g H a b u v Q I f e ⟨i,j,rfl,rfl,q⟩
 obtain⟨t,rfl⟩:=(show ∃t,u=Value.str i t from f)
 obtain⟨c,rfl⟩:=(show ∃c,v=Value.str j c from e)
 exact PySem.P.le_str (Xp I q rfl)
theorem Qgm:∀{ts:List Str} {its:List Value},Vals (ts.map V.str) its->∃l:List (Str×Tok),l.map (·.1)=ts/\its=strValues l
 |[],_,.nil=>⟨[],rfl,rfl⟩
 |x::r,_,.cons ⟨t,e⟩ z=>let ⟨l,a,b⟩:=Qgm z;⟨(x,t)::l,by rw[zX,a],by rw[e,b];rfl⟩
theorem Qxw:MtR X "str.join" (fun x xs H Q=>∃(sep:Str) (a:Addr) (ts:List Str),x=.str sep/\xs=[.ref a]/\SqL X.K H a (ts.map V.str)/\JoinOk sep ts=true/\Q (.str (Txt.join sep ts)) H):=by
 intro b s o H x xs v n Q I c d h
 obtain⟨sep,a,ts,rfl,rfl,j,ok,q⟩:=h
 obtain⟨t,rfl⟩:=c
 obtain⟨u,rfl,f⟩:=d.one
 cases f
 obtain⟨e,r,p,_⟩:=I.list j
 obtain⟨l,i,g⟩:=Qgm r
 subst g
 exact PySem.SC.join p.isList i ok fun m k=>⟨.str _,H,I.tok k,⟨_,rfl⟩,q⟩
theorem Qgn:∀{l:List (Str×Tok)},Vals ((l.map (·.1)).map V.str) (strValues l)
 |[]=>.nil
 |(_,t)::_=>.cons ⟨t,rfl⟩ Qgn
theorem Qtn:MtR X "str.split" (fun x xs H Q=>∃(a b:Str),x=.str a/\xs=[.str b]/\(b.length == 0)=false/\a.length<=sizeLine/\(Builtin.Str.partsBetween a (Builtin.Str.occurrences a b 0 a.length (a.length+1)) b.length).length<=sizeLine/\∀D,H D=none->Q (.ref D) (upd H D (.lst ((Txt.split a b).map V.str)))):=by
 intro d s y H x xs v z Q I o p h
 obtain⟨a,b,rfl,rfl,i,m,j,q⟩:=h
 obtain⟨t,rfl⟩:=o
 obtain⟨u,rfl,r⟩:=p.one
 obtain⟨t',rfl⟩:=r
 have w:=I.hok.fresh (jK s.heap.objs.size)
 have fin:∀(l:List (Str×Tok)) (k:Nat),l.map (·.1)=Txt.split a b->(strValues l).length<=sizeLine->EP X d y Q (.ref s.heap.objs.size) { s with toks:=k,heap:=s.heap.push ⟨.type "list",none,.seq (strValues l).toArray,#[]⟩ }:=fun l k e n=>by
  rw[<-e]at q
  have v:=Qgn (l:=l)
  exact⟨.ref s.heap.objs.size,_,I.lnew (t':=k) v (by rw[v.length];exact n),rfl,q _ w⟩
 cases c:(decide (a.length<b.length)||decide (Builtin.Str.strKind a<Builtin.Str.strKind b))
 .cases g:(Builtin.Str.occurrences a b 0 a.length (a.length+1)).isEmpty
  .refine Y63 F.slot_str_split (typeIs_str _ _ _) F.entry_str_split (F.args_str_split_2 _ _) (meets_str_split_sep a b t t' c i g m j) ?_
   have f:=fin (numbered s.toks (Builtin.Str.partsBetween a (Builtin.Str.occurrences a b 0 a.length (a.length+1)) b.length)) (s.toks+(Builtin.Str.partsBetween a (Builtin.Str.occurrences a b 0 a.length (a.length+1)) b.length).length) ((numbered_texts _ _).trans ((Y20 (ne_true_of_eq_false c)).trans (Y20 (ne_true_of_eq_false g))).symm) (by
    show(List.map _ (numbered _ _)).length<=sizeLine
    rw[jX,<-jX (f:=(·.1)),numbered_texts]
    exact j)
   rw[<-strsFrom_eq]at f
   exact f
  .exact Y63 F.slot_str_split (typeIs_str _ _ _) F.entry_str_split (F.args_str_split_2 _ _) (meets_str_split_not_found a b t t' c i g) (fin [(a,t)] s.toks ((Y20 (ne_true_of_eq_false c)).trans (Y22 g)).symm (Z1 1))
 .exact Y63 F.slot_str_split (typeIs_str _ _ _) F.entry_str_split (F.args_str_split_2 _ _) (meets_str_split_cannot_occur a b t t' c) (fin [(a,t)] s.toks (Y22 c).symm (Z1 1))
theorem Qgo:Zy X (.type "str") (fun xs H Q=>(∃a:Str,xs=[.str a]/\Q (.str a) H)\/∃i:Int,xs=[.int i]/\i.natAbs.log2<1920/\Q (.str (toString i)) H):=by
 intro b s d H xs e Q I r h
 rcases h with⟨a,rfl,q⟩ | ⟨i,rfl,c,q⟩
 .obtain⟨u,rfl,t,rfl⟩:=vals1 r
  exact PySem.P.str_of_str ⟨.str a,H,I,⟨_,rfl⟩,q⟩
 .obtain⟨u,rfl,t,rfl⟩:=vals1 r
  exact PySem.P.str_of_int c ⟨.str _,H,I.tok _,⟨_,rfl⟩,q⟩
def ItVl(d:Addr)(o:Obj)(kvs:List (Key×V)):It :=
  ⟨fun i H=>H d=some (.frz o (.dK kvs))/\i<kvs.length,
   fun i H v H'=>∃k,H'=H/\kvs[i]?=some (k,v),
   fun i H=>H d=some (.frz o (.dK kvs))/\kvs.length<=i⟩
def vTn(it d:Addr)(o:Obj)(n i:Nat)(h:Heap):Prop:=∃es ep,o.data=.dict es ep/\h.IsValIter it d i n ep
theorem Qpf{w:World}{kvs:List (Key×V)} :
  Turn P w K tg (ItVl d o kvs) [it] it (vTn it d o kvs.length) where
 mem:=by simp
 obj:=fun i h g c A=>by
  obtain⟨_,_,_,q,e,c1,O⟩:=g
  have e5:c=it:=by simpa using A
  subst e5
  exact⟨q,e,fun v z=>by rw[O]at z;cases z⟩
 keep:=fun i h u g k=>by
  obtain⟨p,e2,l,a⟩:=g
  exact⟨p,e2,l,a.at fun o e=>k it (by simp) o e⟩
 item:=by
  intro X M D N A i j s U H E I y g S
  subst M D N
  obtain⟨J,W⟩:=S
  obtain⟨p,T,l,a⟩:=g
  obtain⟨vs,f,G⟩:=Qct I.hok J l
  have r:=f.length
  obtain⟨⟨k,x⟩,Y⟩:∃Z,kvs[i]?=some Z:=⟨_,gE W⟩
  obtain⟨⟨k',v⟩,ev,e4,rv⟩:=Qv f Y
  have R:k=k':=e4
  subst R
  rw[r]at a
  obtain⟨Q,F,f2,C,B,L⟩:=y it (by simp)
  refine wpAny_pyNext_values_item a G ev fun u m sb=>?_
  have I1:Inv X j U H { s with heap:=u }:=I.turned (t':=s.toks) (fun b o n e=>(sb.2 b n).trans e) Q F C B L
  obtain⟨q,e,c,O⟩:=id m
  exact⟨v,rfl,Qkt (s:={ s with heap:=u }) e c O Dc ⟨x,H,I1,rv,⟨k,rfl,Y⟩,⟨p,T,l,by rw[r];exact m⟩,fun b n=>(y b n).1⟩⟩
 done:=by
  intro X M D N A i j s U H E I y g S
  subst M D N
  obtain⟨J,W⟩:=S
  obtain⟨p,T,l,a⟩:=g
  obtain⟨vs,f,G⟩:=Qct I.hok J l
  have r:=f.length
  rw[r]at a
  obtain⟨Q,F,f2,C,B,L⟩:=y it (by simp)
  exact wpAny_pyNext_values_end (I.ok.hd A) a G (kXd.mpr Om) fun u eb=>⟨rfl,I.turned (t':=s.toks) (fun b o n z=>eb b o n z) Q F C B L⟩
 self:=fun _ _ _ _ _ g h=>by
  obtain⟨_,_,_,a⟩:=g
  exact wpAny_pyIter_valiter a h
def iVals(F:Addr->Prop)(td:TE):TI:=fun σ H R=>td σ H fun v H1=>∃d kvs,v=.ref d/\H1 d=some (.dK kvs)/\(F d->∀o,R (ItVl d o kvs) (upd H1 d (.frz o (.dK kvs))))
theorem Qxx{a:Expr}(ha:PE X a td)(k:autoParam (attributeBase a "values" X.env (eval a X.env)=eval a X.env) J1._auto_1)(j:autoParam ((apos.endLine == cpos.line)=true) J1._auto_1) :
  PI X tg (.Call (.Attribute a "values" apos) [] [] cpos) (iVals (NF X) td):=by
 intro g s r H R I h
 refine wpAny_Call_method0_late k j (thn (ha g s r H _ I h) fun v f y=>?_)
 obtain⟨x,M,p,Z,S⟩:=y
 obtain⟨d,i,e,n,q⟩:=S
 subst e
 obtain rfl:v=Value.ref d:=Z
 obtain⟨L,t2,V⟩:=Qjl p (.inl ⟨i,.inl n⟩)
 refine⟨"dict","dict.values",PySem.F.plainAttrs_dict,PySem.F.slot_dict_values,PySem.F.type_dict_values,L,t2,Y39 rfl (PySem.evalArgs_none ?_)⟩
 have nf:=p.nf n
 obtain⟨o,P,U⟩:=p.freeze n
 obtain⟨z,aa,T,O,D⟩:=Ky p.hok n
 obtain⟨o',A,C,B,h2,E,h4⟩:=id D
 rw[P]at B
 cases B
 refine Y50 PySem.F.slot_dict_values L PySem.F.entry_dict_values (PySem.F.args_dict_values_1 _) (meets_dict_values (Xg X.prog X.w) d V) ⟨⟨T,D⟩,?_⟩
 have N:(f.heap.push { cls:=.type "dict_values",data:=.fields #[.ref d] }).objs.size=f.heap.objs.size+1:=jZb ..
 have K:(f.heap.push { cls:=.type "dict_values",data:=.fields #[.ref d] }).get? f.heap.objs.size=some { cls:=.type "dict_values",data:=.fields #[.ref d] }:=yY _ rfl
 have G:∀b o,f.heap.get? b=some o->(f.heap.push { cls:=.type "dict_values",data:=.fields #[.ref d] }).get? b=some o:=fun b o z=>jZ _ z
 generalize f.heap.push { cls:=.type "dict_values",data:=.fields #[.ref d] }=h' at N K G
 have m:Inv X g r (upd M d (.frz o (.dK i))) { f with heap:=h' }:=U.kept (t':=f.toks) G
 obtain⟨u,l,Q⟩:=Qct m.hok Qc E
 have W:=l.length
 refine wpAny_pyIter_values (s:={ f with heap:=h' }) ⟨_,K,rfl,rfl⟩ Q ?_
 have Y:Inv X g r (upd M d (.frz o (.dK i))) { f with heap:=h'.push { cls:=.type "dict_valueiterator",data:=.fields #[.ref d,.int 0 0,.int u.length 0,.int C 0] } }:=m.kept (t':=f.toks) fun b o z=>jZ _ z
 refine⟨h'.objs.size,[h'.objs.size],_,ItVl d o i,_,rfl,Y,Qpf,⟨A,C,E,?_⟩,fun c J=>?_,q nf o⟩
 .rw[W]
  exact⟨_,yY _ rfl,rfl,rfl⟩
 .simp only[kZ,jQa,or_false]at J
  subst J
  exact m.fpOk (jK _) (m.hok.fresh (jK _))
theorem Qto{kvs:List (Key×V)}(a:Nat->St->Hp->Prop)(q:a 0 σ H)(r:∀i σ H,i<=kvs.length->a i σ H->H d=some (.frz o (.dK kvs)))
  (h:∀i k x σ H,kvs[i]?=some (k,x)->a i σ H->g x σ H fun σ2 H2=>tb { D with nx:=a (i+1),ct:=a (i+1),bk:=D.nx } σ2 H2) (s:∀σ H,a kvs.length σ H->D.nx σ H) :
  ∃W:Nat->Nat->St->Hp->Prop,(∃m,W 0 m σ H)/\∀i n σ H,W i n σ H ->
   ((ItVl d o kvs).stop i H/\D.nx σ H)\/((ItVl d o kvs).go i H/\∃N:St->Hp->Prop,(∀σ' H',N σ' H'->∃m',m'<n/\W (i+1) m' σ' H')/\∀x H',(ItVl d o kvs).yld i H x H'->g x σ H' fun σ2 H2=>tb { D with nx:=N,ct:=N,bk:=D.nx } σ2 H2):=by
 refine⟨fun i n σ H=>n=kvs.length-i/\i<=kvs.length/\a i σ H,⟨_,rfl,xW _,q⟩,?_⟩
 rintro i n σ H ⟨rfl,j,p⟩
 have c:=r i σ H j p
 by_cases b:i<kvs.length
 .refine .inr ⟨⟨c,b⟩,a (i+1),fun σ' H' f=>⟨kvs.length-(i+1),Om,rfl,b,f⟩,fun x H' y=>?_⟩
  obtain⟨k,rfl,l⟩:=y
  exact h i k x σ H' l p
 .have e:i=kvs.length:=Om
  subst e
  exact .inl ⟨⟨c,jK _⟩,s σ H p⟩
end L2
namespace L2
open PySem PySem.Spec PySem.Calls PyProof.Rows PySem.W PySem.SeqAt
theorem Qeq:MtR X "str.ljust" (fun x xs H Q=>∃(a:Str) (i:Int),x=.str a/\xs=[.int i]/\PadOk i=true/\Q (.str (Txt.ljust a i)) H):=by
 intro b s l H x xs v j Q I d f h
 obtain⟨a,i,rfl,rfl,e,q⟩:=h
 obtain⟨t,rfl⟩:=d
 obtain⟨u,rfl,g⟩:=f.one
 obtain⟨c,rfl⟩:=g
 exact SC.ljust e fun c k=>⟨.str _,H,I.tok _,⟨_,rfl⟩,q⟩
theorem Qtp:MtR X "str.zfill" (fun x xs H Q=>∃(a:Str) (i:Int),x=.str a/\xs=[.int i]/\PadOk i=true/\Q (.str (Txt.zfill a i)) H):=by
 intro b s l H x xs v j Q I d f h
 obtain⟨a,i,rfl,rfl,e,q⟩:=h
 obtain⟨t,rfl⟩:=d
 obtain⟨u,rfl,g⟩:=f.one
 obtain⟨c,rfl⟩:=g
 exact SC.zfill e fun c k=>⟨.str _,H,I.tok _,⟨_,rfl⟩,q⟩
theorem Qpg:MtR X "dict.clear" (fun x xs H Q=>∃(d:Addr) (kvs:List (Key×V)),x=.ref d/\xs=[]/\H d=some (.dK kvs)/\Q .non (upd H d (.dK []))):=by
 intro a s j H x xs v i Q I b c h
 obtain⟨d,kvs,rfl,rfl,f,q⟩:=h
 cases b
 cases c
 exact Qwb I f fun g e=>⟨.non,_,e,rfl,q⟩
theorem Qph:Zy X (.builtin "isinstance") (fun xs H Q=>∃(d:Addr) (kvs:List (Key×V)),xs=[.ref d,.ty "dict"]/\H d=some (.dK kvs)/\Q (.bl true) H):=by
 intro a s p H xs n Q I g h
 obtain⟨d,kvs,rfl,l,q⟩:=h
 obtain⟨u,v,rfl,j,b⟩:=g.two
 cases j
 cases b
 obtain⟨z,f,m,i,k⟩:=Ky I.hok l
 obtain⟨o,e,c⟩:=k.typeIs
 exact IsiPair.dict_dict e c ⟨.bl true,H,I,rfl,q⟩
theorem Qpi{α β:Type}{R:α->β->Prop}{xs:List α}{ys:List β}(h:Paired R xs ys){y:β}(e:ys[i]?=some y):∃x,xs[i]?=some x/\R x y:=by
 have f:=h.length
 have c:=(kX.mp e).1
 have a:xs[i]?=some (xs[i]'Om):=gE Om
 obtain⟨d,b,r⟩:=Qv h a
 rw[e]at b
 cases b
 exact⟨_,a,r⟩
theorem Qgp(hu:A.units+1<cLine)(I:Inv X pins σ H s)(S:PlanAt X.K H a pl)(h2:PlanAt X.K H b pl2)(k:pl.Perm pl2):∃vs1 vs2,(a == sysModules)=false/\(b == sysModules)=false/\s.heap.DictOf (Xg X.prog X.w) a vs1/\s.heap.DictOf (Xg X.prog X.w) b vs2/\vs1.length=vs2.length/\PySem.W.KeqHits A.in1 s vs2 vs1 true:=by
 obtain⟨m,V,N⟩:=S
 obtain⟨f,U,P⟩:=h2
 obtain⟨z1,u,vs1,d,r⟩:=Ky I.hok V
 obtain⟨z2,t,vs2,c,l⟩:=Ky I.hok U
 have D:(f.map (·.1)).Nodup:=by
  obtain⟨_,_,_,_,_,_,_,_,n⟩:=id l
  rw[Qhw c];exact n
 have l1:=Paired.length N
 have l2:=Paired.length P
 have l3:=d.length
 have l4:=c.length
 have h:∀i,i<=vs1.length->PySem.W.KeqHits A.in1 s vs2 (vs1.drop i) true:=by
  intro i hi
  obtain⟨n,hn⟩:∃n,vs1.length-i=n:=⟨_,rfl⟩
  induction n generalizing i with
  |zero=>rw[kYd Om];exact .nil
  |succ n ih=>
   have G:i<vs1.length:=Om
   rw[kJc G]
   obtain⟨q,Q,L⟩:=Qv d (i:=i) (x:=m[i]'Om) (gE _)
   obtain⟨g,F,f1,C,g1,k1⟩:=Qv N (i:=i) (x:=m[i]'Om) (gE _)
   obtain⟨j,p⟩:=wJ.mp (k.mem_iff.mp (kW F))
   obtain⟨y2,E,f2,O,T,k2⟩:=Qpi P p
   have z:vs1[i]=q:=by rw[gE G]at Q;exact Y5 Q
   have ev:valV f (inr g.1)=some (.ref O):=Qfx (i:=j) D (by
    rw[E]
    exact congrArg some (Prod.ext f2 T))
   obtain⟨y,Y,R⟩:=RelO.some_of (v:=.ref O) (o:=valueAt vs2 (inr g.1)) (by rw[<-ev];exact c.val _)
   cases R
   have er:q.2=.ref C:=by
    have M:=L.2
    rw[g1]at M
    exact(show q.2=Value.ref C from M)
   rw[z]
   obtain⟨qk,Z⟩:=q
   have ek:qk=inr g.1:=L.1.symm.trans f1
   have B:Z=.ref C:=er
   subst ek B
   exact PySem.W.KeqHits.hit (e:=true) (b:=true) Y (Qfw (ks:=[inr g.2.1,Sum.inl g.2.2]) (by show A.units+1<cLine;exact hu) I k1 k2) (ih (i+1) Om Om)
 have J:=h 0 (xW _)
 rw[jZc]at J
 have l5:=k.length_eq
 exact⟨vs1,vs2,u,t,r,l,Om,J⟩
theorem Qxy{n:Nat}(t:X.K=K)(E:2<=n)(l:X.A.units+n<cLine):OpR X (compareOp .NotEq) (fun x y H Q=>∃(a b:Addr) (pl pl2:Z7),x=.ref a/\y=.ref b/\PlanAt K H a pl/\PlanAt K H b pl2/\pl.Perm pl2/\Q (.bl false) H):=by
 subst t
 intro k s C H x y v u Q I z m h
 obtain⟨a,b,pl,pl2,rfl,rfl,o,r,f,q⟩:=h
 cases z
 cases m
 obtain⟨d,c,i,g,e,j,D,p⟩:=Qgp (A:=X.A) Om I o r f
 exact PySem.W.keq_ne (knd:=Xg X.prog X.w) i g e j Om (fun _=>p) (by
  have B:(d.length == c.length&&true)=true:=by rw[Bool.and_true,beq_iff_eq];lia
  rw[B]
  exact⟨.bl false,H,I,rfl,q⟩)
theorem Qxz{n:Nat}(t:X.K=K)(E:2<=n)(l:X.A.units+n<cLine):OpR X (compareOp .Eq) (fun x y H Q=>∃(a b:Addr) (pl pl2:Z7),x=.ref a/\y=.ref b/\PlanAt K H a pl/\PlanAt K H b pl2/\pl.Perm pl2/\Q (.bl true) H):=by
 subst t
 intro k s C H x y v u Q I z m h
 obtain⟨a,b,pl,pl2,rfl,rfl,o,r,f,q⟩:=h
 cases z
 cases m
 obtain⟨d,c,i,g,e,j,D,p⟩:=Qgp (A:=X.A) Om I o r f
 exact PySem.W.keq_eq (knd:=Xg X.prog X.w) i g e j Om (fun _=>p) (by
  have B:(d.length == c.length&&true)=true:=by rw[Bool.and_true,beq_iff_eq];lia
  rw[B]
  exact⟨.bl true,H,I,rfl,q⟩)
open PySem.MeetsSeq PySem.MeetsSeq2 PySem.MeetsSeq3 in
theorem Qtq{w:World}(l b:Addr)(c a:Array Value)(n x:Nat)(v u:Option Addr)(E t:Array (Option Value))(hsz:c.size=a.size)(k:Nat) :
  ∀i:Nat,c.size-i=k->MeetsIn prog w (Builtin.«list.__eq__.loop» ⟨[.ref l,.ref b,rawInt i,rawInt 2],[]⟩)
   (fun A R s=>s.heap.get? l=some { cls:=.type "list",dict:=v,data:=.seq c n,slots:=E }/\s.heap.get? b=some { cls:=.type "list",dict:=u,data:=.seq a x,slots:=t } /\
    (∀j (h1:j<c.size) (h2:j<a.size),EqW prog w A.in1 s c[j] a[j] true)/\R (.ok (.ret (.bool true))) s):=by
 induction k with
 |zero=>
  intro i z A R s h
  obtain⟨D,g,d,B,y⟩:=s;obtain⟨o,p,r,h⟩:=h
  wp_walk using Y34 o,Y34 p
  have f:c[((i:Nat):Int).toNat]?=none:=by simp;lia
  have m:a[((i:Nat):Int).toNat]?=none:=by simp;lia
  rw[f,m]
  wp_walk using Y34 o,Y34 p
  show R (.ok (.ret (.bool (c.size == a.size)))) _
  rw[hsz]
  simpa using h
 |succ k ih=>
  intro i z A R s h
  obtain⟨D,g,d,B,y⟩:=s;obtain⟨o,p,r,h⟩:=h
  wp_walk using Y34 o,Y34 p
  have q:i<c.size:=Om
  have e:i<a.size:=Om
  have f:c[((i:Nat):Int).toNat]?=some c[i]:=by simp[q]
  have m:a[((i:Nat):Int).toNat]?=some a[i]:=by simp[e]
  have C:((i:Int)+1)=((i+1:Nat):Int):=by push_cast;rfl
  rw[f,m]
  refine jQ (r i q e _ _ ?_)
  wp_walk
  rw[C]
  exact⟨jJc plain_eq_loop _,Y28 entry_eq_loop (by
   rw[Y35 plain_eq_loop _]
   exact ih (i+1) Om A R _ ⟨o,p,r,h⟩)⟩
open PySem.MeetsSeq PySem.MeetsSeq2 PySem.MeetsSeq3 in
theorem Qtr{w:World}(l b:Addr)(c a:Array Value)(n k:Nat)(m f:Option Addr)(p e:Array (Option Value))(hsz:c.size=a.size) :
  MeetsIn prog w (Builtin.«list.__eq__» ⟨[.ref l,.ref b],[]⟩)
   (fun A R s=>s.heap.get? l=some { cls:=.type "list",dict:=m,data:=.seq c n,slots:=p }/\s.heap.get? b=some { cls:=.type "list",dict:=f,data:=.seq a k,slots:=e } /\
    (∀j (h1:j<c.size) (h2:j<a.size),EqW prog w A.in1 s c[j] a[j] true)/\R (.ok (.ret (.bool true))) s):=by
 intro A R s h
 obtain⟨u,g,d,x,t⟩:=s;obtain⟨o,i,q,h⟩:=h
 have v:=AutoSeq1.sub_list_list
 have r:¬(c.size != a.size)=true:=by simp[hsz]
 wp_walk using Y34 o,Y34 i
 exact⟨jJc plain_eq_loop _,Y28 entry_eq_loop (by
  rw[Y35 plain_eq_loop _]
  exact Qtq l b c a n k m f p e hsz _ 0 rfl A R _ ⟨o,i,q,h⟩)⟩
theorem Qya{n:Nat}(hn:3<=n)(hu:X.A.units+n<cLine):OpR X (compareOp .Eq) (fun x y H Q=>∃(a b l1 l2 d1 d2:Addr) (us vs:List V) (bk:List (List Key)) (pl:Z7),x=.ref a/\y=.ref b/\SqL X.K H a [.ref l1,.ref d1]/\SqL X.K H b [.ref l2,.ref d2]/\SqL X.K H l1 us/\Qhu H us bk/\SqL X.K H l2 vs/\Qhu H vs bk/\PlanAt X.K H d1 pl/\PlanAt X.K H d2 pl/\Q (.bl true) H):=by
 intro M s σ H x y v u Q I rx N h
 obtain⟨a,b,l1,l2,d1,d2,us,vs,bk,pl,rfl,rfl,c,k,S,h4,h5,P,Y,h8,q⟩:=h
 cases rx
 cases N
 obtain⟨U,r,pt,_⟩:=I.list c
 obtain⟨C,r',o,_⟩:=I.list k
 obtain⟨u1,u2,rfl,z,m⟩:=r.two
 obtain⟨w1,w2,rfl,l,g⟩:=r'.two
 cases z
 cases m
 cases l
 cases g
 have k0:EqAt X.A.in1 s (.ref l1) (.ref l2) true:=Qfv (A:=X.A.in1) (by show X.A.units+1+1<cLine;lia) I S h5 h4 P
 have W:EqW X.prog X.w X.A.in1 s (.ref d1) (.ref d2) true:=Qfy (A:=X.A.in1) (by show X.A.units+1+1<cLine;lia) I Y h8
 have key:∀j (c:j < [Value.ref l1,.ref d1].toArray.size) (k:j < [Value.ref l2,.ref d2].toArray.size),EqW X.prog X.w X.A.in1 s [Value.ref l1,.ref d1].toArray[j] [Value.ref l2,.ref d2].toArray[j] true:=fun j c k=>by
  match j,c with
  |0,_=>exact fun E Q Z=>k0 _ _ E Q Z
  |1,_=>exact W
  |j+2,c=>exact Y21 c (by simp)
 obtain⟨⟨T,R,G,sl⟩,i,L,O,J⟩:=id pt.isList
 obtain⟨⟨D,t,B,p⟩,d,e,m2,f⟩:=id o.isList
 simp only at L J e f
 subst L J e f
 exact wpAny_richCompare_same_room (op:=.Eq) ⟨_,i,rfl⟩ ⟨_,d,rfl⟩ F.slot_list_eq (Y50 F.slot_list_eq ⟨_,i,rfl⟩ F.entry_list_eq (F.args_list_eq_2 _ _) (Qtr a b [Value.ref l1,.ref d1].toArray [Value.ref l2,.ref d2].toArray O m2 R t sl p rfl)
  ⟨i,d,key,⟨(fun x=>nomatch x),⟨.bl true,H,I,rfl,q⟩⟩⟩) Om
theorem Qer:SlR X (fun x lo hi H Q=>∃z:Str,x=.str z/\(StrLaws.sliceText z lo hi).length<=sizeLine/\Q (.str (StrLaws.sliceText z lo hi)) H):=by
 intro d s D H x v C E lo hi F Q I y w B g h
 obtain⟨z,rfl,a,q⟩:=h
 obtain⟨t,rfl⟩:=y
 have b:∀{u:Value} {o:Option Int},IsPart u o->∃p:Option (Int×Tok),partValue p=u/\p.map (·.1)=o:=fun{u o} h=>by
  cases h with
  |none=>exact⟨none,rfl,rfl⟩
  |int=>exact⟨some (_,_),rfl,rfl⟩
 obtain⟨m,f,j⟩:=b B
 obtain⟨A,e,k⟩:=b g
 refine⟨"str",_,slot_str_getitem.lookup,typeIs_str s z t,?_⟩
 obtain⟨o,i,r,n⟩:=w
 refine wpAny_getItem_str_slice (l:=m) (u:=A) (st:=none) ⟨o,i,r,by rw[n,<-f,<-e];rfl⟩ rfl ?_
 unfold sliceMade slicePicked
 unfold StrLaws.sliceText at a q
 rw[j,k]
 show Made.post (if ((1:Int) == 1&&(Builtin.Str.strSliceIndices lo hi 1 z.length).length == z.length)=true then _ else _) _ _
 split
 .rename_i c
  rw[Y22 c]at q
  exact⟨.str z,H,I,⟨_,rfl⟩,q⟩
 .rename_i c
  rw[Y20 c]at q a
  exact⟨a,.str _,H,I.tok _,⟨_,rfl⟩,q⟩
theorem Zt{D:Addr}{o:HO}(s:Same H H1)(a:H D=none):Same H (upd H1 D o):=fun b u e=>by
 rw[Qj (Qk e a)];exact s b u e
structure Walk{α:Type}(J:It)(H:Hp)(xs:List α)(val:α->V):Prop where
 go:∀i H1,Same H H1->i<xs.length->J.go i H1
 stop:∀H1,Same H H1->J.stop xs.length H1
 yl:∀i H1 v H2,Same H H1->J.yld i H1 v H2->i<xs.length->H2=H1/\∃x,xs[i]?=some x/\v=val x
theorem Zu{α:Type}{xs:List α}{val:α->V}(h:SqL K H a (xs.map val)):Walk (Itl K a) H xs val where
 go i H1 s hi:=⟨_,_,s.seq h,gE (by rw[jX];exact hi)⟩
 stop H1 s:=⟨_,s.seq h,by rw[jX];exact jK _⟩
 yl i H1 v H2 s:=by
  rintro⟨rfl,c⟩ hi
  have e:=c _ (s.seq h)
  rw[yW]at e
  obtain⟨x,ex,b⟩:=jKf.mp e
  exact⟨rfl,x,ex,b.symm⟩
theorem Qts:Walk (ItS x) H x.cps.toList (fun c=>.str ⟨#[c]⟩) where
 go i H1 s hi:=by rw[jQf]at hi;exact hi
 stop H1 s:=by rw[jQf];exact jK _
 yl i H1 v H2 s:=by
  rintro⟨rfl,c,a,b⟩ hi
  exact⟨rfl,c,by rw[kQd];exact a,b⟩
theorem Vu{α:Type}{xs:List α}{x:α}(h:xs[i]?=some x):xs.take (i+1)=xs.take i++[x]:=by
 obtain⟨a,e⟩:=kX.mp h
 rw[List.take_succ,h]
 rfl
theorem Qim{α β:Type}{xs:List α}{val:α->V}{D:Addr}{Q:Addr->Hp->Prop}(R:Hp->V->β->Prop)(f:α->β)(m:τ0=none::cs)(l:Walk J H xs val)(G:xs.length<sizeLine)(u:H D=none)
  (B:∀{H1 H2 v x},Same H H1->Same H1 H2->R H1 v x->R H2 v x) (t:∀{H1 v x zs},R H1 v x->R (upd H1 D (.lst zs)) v x)
  (F:∀x∈xs,∀H1,Same H H1->H1 D≠none->∀P:V->Hp->Prop,(∀v H2,Same H1 H2->R H2 v (f x)->P v H2)->te (some (val x)::cs) H1 P)
  (E:∀H1 ys,Same H H1->H1 D=some (.lst ys)->Paired (R H1) ys (xs.map f)->Q D H1) :
  LcW J D τ0 H (Vi 0) tYes te Q:=by
 subst m
 let j:Nat->St->List V->Hp->Prop:=fun i e ys H1=>∃v:Option V,e=v::cs/\H1 D=some (.lst ys)/\Same H H1/\i<=xs.length/\Paired (R H1) ys ((xs.take i).map f)
 refine Ze (n:=xs.length) j ?_ (fun i e ys H1 g h=>?_) (fun i e ys H1 g h=>?_) (fun e ys H1 h=>?_) ?_ ?_
 .exact⟨none,rfl,Qc,Qd u _,xW _,.nil⟩
 .obtain⟨v,rfl,a,c,_,d⟩:=h
  refine⟨a,?_⟩
  have:=Paired.length d
  rw[jX,xJ]at this
  lia
 .obtain⟨v,rfl,a,c,_,d⟩:=h
  exact l.go i H1 c g
 .obtain⟨v,rfl,a,c,_,d⟩:=h
  exact l.stop H1 c
 .rintro i e ys H1 x H2 g ⟨v,rfl,a,c,_,d⟩ C
  obtain⟨rfl,y,p,rfl⟩:=l.yl i H1 x H2 c C g
  refine F y (kW p) _ c (by rw[a];exact Option.some_ne_none _) _ fun w q k r=>⟨k _ _ a,_,rfl,Qc,Zt (c.trans k) u,g,?_⟩
  rw[Vu p,zQ]
  have A:Paired (R (upd q D (.lst (ys++[w])))) ys ((xs.take i).map f):=by
   clear a
   generalize ((xs.take i).map f)=bs at d
   generalize s:(HO.lst (ys++[w]))=o
   have:∀v b,R _ v b->R (upd q D o) v b:=fun v b h=>by rw[<-s];exact t (B c k h)
   clear s
   induction d with
   |nil=>exact .nil
   |cons z _ ih=>exact .cons (this _ _ z) ih
  exact Paired.snoc A (t r)
 .rintro e ys H1 ⟨v,rfl,a,c,_,d⟩
  rw[yV]at d
  exact E H1 ys c a d
theorem Qda{α:Type}{g:α->V}:∀{ys:List V} {xs:List α},Paired (fun v x=>v=g x) ys xs->ys=xs.map g
 |_,_,.nil=>rfl
 |_,_,.cons e t=>by rw[e,Qda t];rfl
theorem Jw{α β:Type}{xs:List α}{val:α->V}{D:Addr}{Q:Addr->Hp->Prop}(g:β->V)(f:α->β)(a:τ0=none::cs)(l:Walk J H xs val)(m:xs.length<sizeLine)(i:H D=none)
  (d:∀x∈xs,∀H1,Same H H1->∀P:V->Hp->Prop,(∀H2,Same H1 H2->P (g (f x)) H2)->te (some (val x)::cs) H1 P)
  (n:∀H1,Same H H1->H1 D=some (.lst ((xs.map f).map g))->Q D H1) :
  LcW J D τ0 H (Vi 0) tYes te Q :=
 Qim (fun _ v x=>v=g x) f a l m i (fun _ _ h=>h) (fun h=>h) (fun x j H1 b _ P h=>d x j H1 b P fun H2 k=>h _ H2 k rfl) fun H1 o b e c=>n H1 b (by rw[e,Qda c])
theorem le1(a b:Nat):(!decide (([b]:List Nat) < [a]))=decide (a<=b):=by
 rw[StrLaws.lt_cons_cons,StrLaws.lt_nil_nil,Bool.and_false,Bool.or_false]
 by_cases h:a<=b
 .rw[yJ h,xV Om];rfl
 .rw[xV h,yJ Om];rfl
end L2
namespace Nb
open PySem L2
abbrev sg(x:Str):List Nat:=x.cps.toList
theorem Kl{y:Str}(h:sg x=sg y):x=y:=Str.ext' (Array.toList_inj.mp h)
theorem Zx(x y:Str):sg (x++y)=sg x++sg y:=by
 show(x.cps++y.cps).toList=_
 rw[kXe]
theorem Ya(x:Str):(sg x).length=x.length:=jQf
theorem Qve{c:Nat}:∀{a b x y:List Nat},c∉a->c∉b->a++c::x=b++c::y->a=b/\x=y
 |[],[],_,_,_,_,h=>by injection h with _ h;exact⟨rfl,h⟩
 |[],b::bs,_,_,_,hb,h=>by
  injection h with d _
  exact Y21 (d▸jY) hb
 |a::as,[],_,_,ha,_,h=>by
  injection h with d _
  exact Y21 (d▸jY) ha
 |a::as,b::bs,_,_,ha,hb,h=>by
  injection h with d e
  obtain⟨f,g⟩:=Qve (fun z=>ha (kQ _ z)) (fun z=>hb (kQ _ z)) e
  exact⟨by rw[d,f],g⟩
theorem Qlu(c:Nat)(x y:Str)(r:List Str):sg (Str.join ⟨#[c]⟩ (x::y::r))=sg x++c::sg (Str.join ⟨#[c]⟩ (y::r)):=by
 show sg (x++⟨#[c]⟩++Str.join ⟨#[c]⟩ (y::r))=_
 rw[Zx,Zx,zJ]
 rfl
theorem Qkh{c:Nat}:∀{xs ys:List Str},xs≠[]->ys≠[]->(∀x∈xs,c∉sg x)->(∀y∈ys,c∉sg y)->Str.join ⟨#[c]⟩ xs=Str.join ⟨#[c]⟩ ys->xs=ys
 |[],_,h,_,_,_,_=>Y21 rfl h
 |_,[],_,h,_,_,_=>Y21 rfl h
 |[x],[y],_,_,_,_,h=>by
  have a:x=y:=h
  rw[a]
 |[x],y::y'::r,_,_,hx,_,h=>by
  have a:sg x=sg (Str.join ⟨#[c]⟩ (y::y'::r)):=congrArg sg h
  rw[Qlu]at a
  exact Y21 (show c∈sg x by rw[a];exact yX _ jY) (hx x jY)
 |x::x'::r,[y],_,_,_,hy,h=>by
  have a:sg (Str.join ⟨#[c]⟩ (x::x'::r))=sg y:=congrArg sg h
  rw[Qlu]at a
  exact Y21 (show c∈sg y by rw[<-a];exact yX _ jY) (hy y jY)
 |x::x'::r,y::y'::q,_,_,hx,hy,h=>by
  have a:=congrArg sg h
  rw[Qlu,Qlu]at a
  obtain⟨d,e⟩:=Qve (hx x jY) (hy y jY) a
  rw[Kl d,Qkh (kXb _ _) (kXb _ _) (fun z b=>hx z (kQ _ b)) (fun z b=>hy z (kQ _ b)) (Kl e)]
theorem Qtt(x y:Str):Txt.split x y≠[]:=by
 unfold Txt.split
 split
 .exact kXb _ _
 .split
  .exact kXb _ _
  .rw[StrLaws.partsBetween_eq]
   obtain⟨p,r,e⟩:=StrLaws.partsFrom_ne x y.length 0 (Builtin.Str.occurrences x y 0 x.length (x.length+1))
   rw[e]
   exact kXb _ _
theorem Qdb{c:Nat}{xs:List Str}(h:xs≠[])(a:∀x∈xs,c∉sg x):Txt.split (Str.join ⟨#[c]⟩ xs) ⟨#[c]⟩=xs :=
 Qkh (Qtt _ _) h (StrLaws.split_free _ c) a (StrLaws.join_split _ _)
theorem join_eq(a:Str)(b:List Str):Txt.join a b=Str.join a b:=StrLaws.glued_eq_join a b
theorem join_snoc{sep:Str}:∀{xs:List Str} {x:Str},xs≠[]->Str.join sep (xs++[x])=Str.join sep xs++sep++x
 |[],_,h=>Y21 rfl h
 |[a],x,_=>rfl
 |a::b::r,x,_=>by
  show a++sep++Str.join sep (b::r++[x])=a++sep++Str.join sep (b::r)++sep++x
  rw[join_snoc (kXb _ _)]
  apply Kl
  simp only[Zx,zJ]
theorem Yk(x y:Str):(x++y).length=x.length+y.length:=Str.length_append x y
theorem Qin(x:Str):x++("":Str)=x:=by
 apply Kl
 rw[Zx]
 exact xX _
def numT(n:Int):Str:=Str.ofString (toString n)
theorem Qdc:∀(k m:Nat),m<10 ^ (k+1)->(Nat.toDigits 10 m).length<=k+1
 |0,m,h=>by
  rw[kKb Om]
  exact jK _
 |k+1,m,h=>by
  by_cases b:m<10
  .rw[kKb b]
   exact Nat.le_add_left _ _
  .have a:m % 10<10:=Nat.mod_lt m Dc
   have t:Nat.toDigits 10 (m / 10)++Nat.toDigits 10 (m % 10)=Nat.toDigits 10 (10*(m / 10)+m % 10):=Nat.toDigits_append_toDigits Dc Om a
   rw[Nat.div_add_mod]at t
   have c:=Qdc k (m / 10) (by rw[Nat.pow_succ]at h;lia)
   rw[<-t,jJ,kKb a]
   show _+1<=_
   lia
theorem Qpj(m:Nat):sg (numT ((m:Nat):Int))=(Nat.toDigits 10 m).map Char.toNat:=PySem.W.KIN.signs_num m
theorem Qlv(d:0<=n):∀c∈sg (numT n),48<=c/\c<=57:=by
 obtain⟨m,rfl⟩:=Int.eq_ofNat_of_zero_le d
 intro c b
 rw[Qpj]at b
 obtain⟨f,a,e⟩:=zV.mp b
 have r:=PyProof.Rows.digit_range (Nat.isDigit_of_mem_toDigits Dc Dc a)
 rw[<-e]
 exact r
abbrev sWoR:Stmt:=top 22
abbrev sBeR:Stmt:=top 23
theorem joinOk_of{sep:Str}{ts:List Str}{b:Nat}(h:∀t∈ts,t.length<=b)(hz:ts.length*(b+sep.length)<=sizeLine):JoinOk sep ts=true:=by
 unfold JoinOk
 rw[StrLaws.joinTotal]
 have d:(ts.map (·.length)).sum<=ts.length*b:=by
  clear hz
  induction ts with
  |nil=>exact xW _
  |cons t ts ih=>
   have e:=h t jY
   have c:=ih fun x a=>h x (kQ _ a)
   rw[zX,jZa,yZ,Nat.succ_mul]
   lia
 rw[Nat.mul_add]at hz
 show(!decide (_ > sizeLine))=true
 rw[xV Om]
 rfl
theorem Wi(x:Str)(xs:List Str):Str.join "" (x::xs)=x++Str.join "" xs:=by
 cases xs with
 |nil=>exact(Qin x).symm
 |cons y r=>
  show x ++ "" ++ _=_
  rw[Qin]
theorem Vv(b:X.K=K):MtR X "str.join" (fun x xs H Q=>∃(sep:Str) (a:Addr) (ts:List Str),x=.str sep/\xs=[.ref a]/\SqL K H a (ts.map V.str)/\JoinOk sep ts=true/\Q (.str (Txt.join sep ts)) H):=by subst b;exact Qxw
theorem Wj{n:Nat}:Walk (Itr 0 n) H (List.range n) (fun d:Nat=>V.int (d:Int)) where
 go i H1 s hi:=by rw[wY]at hi;exact hi
 stop H1 s:=by rw[wY];exact jK _
 yl i H1 v H2 s:=by
  rintro⟨rfl,rfl⟩ hi
  rw[wY]at hi
  exact⟨rfl,i,by rw[List.getElem?_range hi],by rw[kJb]⟩
theorem Qlw(b:X.K=K)(c:X.calm=true):Zy X (.builtin "sum") (fun xs H Q=>∃(a:Addr) (ns:List Int),xs=[.ref a]/\SqL K H a (ns.map V.int)/\Q (.int ns.sum) H):=by subst b;exact Vm c
def ofL(l:List Nat):Str:=⟨l.toArray⟩
theorem Qbs(l:List Nat):sg (ofL l)=l:=rfl
theorem Qpk(l:List Nat):(ofL l).length=l.length:=by rw[<-Ya,Qbs]
def padL(x:Str):List Nat:=sg x++List.replicate (13-x.length) 32
def sgnL(n b e:Int):List Nat:=(List.range n.toNat).map fun d:Nat=>if b<=(d:Int)/\(d:Int)<e then 35 else 46
def wrL(n:Int)(w v:Str)(b e:Int):List Nat:=padL w++sgnL n b e++32::sg v
def twoL(k:Int):List Nat:=sg (Txt.zfill (numT k) 2)
def brL(n:Int)(u:Nat->Int)(b:Str):List Nat:=padL b++(List.range n.toNat).flatMap fun d=>twoL (u d)
theorem Zp(h:x.length<=12):(padL x).length=13:=by
 unfold padL
 rw[jJ,kYf,Ya]
 lia
theorem Vw(n b e:Int):(sgnL n b e).length=n.toNat:=by unfold sgnL;rw[jX,wY]
theorem Qbt(h:x.length<=12):sg (Txt.ljust x 13)=padL x:=by
 unfold Txt.ljust
 rw[Y20 Om]
 show((Array.replicate 0 32++x.cps++Array.replicate ((13:Int).toNat-x.length) 32)).toList=_
 rw[kXe,kXe,Array.toList_replicate,Array.toList_replicate]
 rfl
theorem Qes:∀xs:List Str,sg (Str.join "" xs)=xs.flatMap sg
 |[]=>rfl
 |x::xs=>by rw[Wi,Zx,jZe,Qes xs]
theorem Qgq{b:Nat}:∀{xs:List Str},(∀t∈xs,t.length<=b)->(Str.join "" xs).length<=xs.length*b
 |[],_=>xW _
 |x::xs,h=>by
  have d:=h x jY
  have c:=Qgq (b:=b) (xs:=xs) fun t a=>h t (kQ _ a)
  rw[Wi,Yk,yZ,Nat.succ_mul]
  lia
theorem Qbu{α:Type}(f:α->Nat):∀l:List α,(l.flatMap fun x=>[f x])=l.map f
 |[]=>rfl
 |x::l=>by rw[jZe,zX,Qbu f l];rfl
def sgnS(b e:Int)(d:Nat):Str:=if b<=(d:Int)/\(d:Int)<e then "#" else "."
theorem Qac(n b e:Int):sg (Str.join "" ((List.range n.toNat).map (sgnS b e)))=sgnL n b e:=by
 rw[Qes,List.flatMap_map]
 have a:(fun d:Nat=>sg (sgnS b e d))=fun d:Nat=>[if b<=(d:Int)/\(d:Int)<e then 35 else 46]:=by
  funext d
  unfold sgnS
  split<;>rfl
 show(List.range n.toNat).flatMap (fun d:Nat=>sg (sgnS b e d))=_
 rw[a,Qbu]
 rfl
def Qpl(K:Fg)(C:Addr):Sp:=fun vs H Q _=>∃(p ch:Addr) (n:Int) (B:List BR) (w v:Str) (b l c:Int),vs=[.ref p,.ref ch]/\FcAt K C H p n B/\BookOk n B/\SqT K H ch [.str w,.str v,.int b]/\.way w v l c∈B/\∀H',Same H H'->Q (.str (ofL (wrL n w v b (b+l)))) H'
def Jp(B:List BR)(A:List Ch)(bn:Str)(d:Nat):Int:=(A.map (useR B bn (d:Int))).sum
def Qpm(K:Fg)(C:Addr):Sp:=fun vs H Q _=>∃(p tk:Addr) (n:Int) (B:List BR) (bn:Str) (A:List Ch),vs=[.ref p,.str bn,.ref tk]/\FcAt K C H p n B/\BookOk n B/\ChsAt K H tk A/\(∀c∈A,∃l k,BR.way c.1 c.2.1 l k∈B)/\A.length<=400/\bn.length<=12/\∀H',Same H H'->Q (.str (ofL (brL n (Jp B A bn) bn))) H'
theorem Qvf:∀{l:List Int},(∀x∈l,0<=x/\x<=99)->0<=l.sum/\l.sum<=(l.length:Int)*99
 |[],_=>⟨kZd _,kZd _⟩
 |x::l,h=>by
  have c:=h x jY
  have b:=Qvf (l:=l) fun y a=>h y (kQ _ a)
  rw[jZa,yZ]
  lia
theorem Qyb(b:WB n B){k:Fin 3}{t:Str}:0<=Yx B k w v t/\Yx B k w v t<=400*99:=by
 unfold Yx
 have g:=Qvf (l:=B.filterMap (Kh k w v t)) fun x d=>by
  obtain⟨r,c,e⟩:=xQ.mp d
  have ok:=b.ok r c
  cases r with
  |use k' w' v' t' m=>
   have a:(if k'=k/\w'=w/\v'=v/\t'=t then some m else none)=some x:=e
   split at a
   .have j:1<=m/\m<=99:=ok
    have i:=Y5 a
    lia
   .cases a
  |_=>cases e
 have f:=zY (Kh k w v t) B
 have h:=b.len
 lia
theorem Qvg(b:WB n B)(a:Str)(d:Int)(c:Ch):0<=useR B a d c/\useR B a d c<=400*99:=by
 unfold useR
 split
 .exact Qyb b
 .omega
theorem Qet{n:Int}{B:List BR}(b:WB n B)(a:Str)(d:Nat):∀{A:List Ch} {m:Nat},A.length<=m->0<=Jp B A a d/\Jp B A a d<=m*(400*99)
 |[],m,_=>⟨kZd _,by unfold Jp;simp;lia⟩
 |c::A,m,h=>by
  rw[yZ]at h
  obtain⟨k,rfl⟩:∃k,m=k+1:=⟨m-1,Om⟩
  have f:=Qvg b a d c
  have e:=Qet b a d (A:=A) (m:=k) Om
  unfold Jp at e⊢
  rw[zX,jZa]
  lia
theorem zf_len(d:∀c∈sg x,48<=c):(Txt.zfill x 2).length<=2+x.length:=by
 unfold Txt.zfill
 split
 .omega
 .unfold zfilled
  have b:∀k:Nat,(Builtin.Str.padded x k 0 48).length=k+x.length:=fun k=>by
   show(Array.replicate k 48++x.cps++Array.replicate 0 48).size=_
   rw[kJe,kJe,Array.size_replicate,Array.size_replicate]
   rfl
  have a:∀c,x.cps[0]?=some c->48<=c:=fun c e=>d c (by rw[<-kQd]at e;exact kW e)
  split
  .rename_i e;have:=a _ e;lia
  .rename_i e;have:=a _ e;lia
  .rw[b];show(2:Int).toNat-_+_<=_;lia
theorem Qyc{k:Int}(a:0<=k)(b:k<=999999999):(numT k).length<=9:=by
 obtain⟨m,rfl⟩:∃m:Nat,k=(m:Int):=⟨k.toNat,Om⟩
 rw[<-Ya,Qpj,jX]
 exact Qdc 8 m Om
theorem two_len{k:Int}(a:0<=k)(b:k<=999999999):(Txt.zfill (numT k) 2).length<=11:=by
 have e:=zf_len (x:=numT k) fun c d=>(Qlv a c d).1
 have f:=Qyc a b
 lia
theorem Qyd{u:Nat->Int}{b:Str}(a:b.length<=12):Txt.ljust b 13++Str.join "" ((List.range n.toNat).map fun d=>Txt.zfill (numT (u d)) 2)=ofL (brL n u b):=by
 refine Kl ?_
 rw[Qbs,Zx,Qbt a,Qes,List.flatMap_map]
 rfl
theorem Qpn{i:Int}(c:0<=i)(d:i<=999999999):i.natAbs.log2<1920:=by
 have b:i.natAbs<2 ^ 30:=by show i.natAbs<1073741824;lia
 by_cases a:i.natAbs=0
 .rw[a];decide
 .exact Nat.lt_trans ((Nat.log2_lt a).mpr b) Dc
theorem Kq(bk:BookOk n B){l:Int}(h:BR.way w v l c∈B):NmOk w/\NmOk v:=⟨bk.gn _ h w jY,bk.gn _ h v (kQ _ jY)⟩
theorem Qye{b e:Int}(a:w.length<=12):Txt.ljust w 13++Str.join "" ((List.range n.toNat).map (sgnS b e)) ++ " " ++ v=ofL (wrL n w v b e):=by
 refine Kl ?_
 rw[Qbs,Zx,Zx,Zx,Qbt a,Qac]
 unfold wrL
 rw[zJ]
 rfl
section
variable{w:World}
theorem scWoR:FnScope ["facts","choice","signs"] ["facts","choice"] (Qh sWoR):=Sc
theorem okWoR(R:mg "WIDTH"=some (.int 13 tW))(T:FcTxt K mg C)(W:FnOk P w K mg base CX0 1 fE fdE ["self","choice"] (Qgf K C))(bE:Binds K fdE ["self","choice"] [])(mE:Meth K C "end_of" fE)(F:Fn K mg "work_row" sWoR)(M:Mg mg):Cal P w K mg base 3 "work_row" ["facts","choice"] (Qpl K C):=by
 refine Xt F scWoR (fun _ _ _ _ _ _=>Jt (fun _ _=>rfl)) (fun X H Q E h=>?_) (fun f Z A x s H X Q E Y h=>?_)
 .obtain⟨p,k,n,B,w,v,b,l,c,rfl,_⟩:=h
  rfl
 obtain⟨p,k,n,B,w,v,b,l,c,rfl,m,bk,a,j,q⟩:=h
 refine⟨_,(Qg (Qaq (i:=2) ["day","facts","choice"] [none,some 0,some 1] rfl scWoR.nd rfl (inl rfl) (Xo rfl M.range_ (Qa (Yn (pv 0) rfl) Qf)) (fun _ _ _=>(Z3 0 (show(["day","facts","choice"]:List Str).Nodup by decide +kernel))) (fun _ _ _=>Yr) (fun _ _ _=>(Qdj (Qdp Wu Qfe (Qr (Wb (K:=K) rfl) (pv 2) Qe) (pv 0) (Zd (pv 1) T.cl mE W (Y.mono Dc) bE .nil Jq (Qa (pv 2) Qf))) Qq Qq)))
  (Qi (Xb (Ql Xm (Ql Xm (Ql Xm (Zh Y4 PySem.F.slot_str_ljust PySem.F.type_str_ljust Qeq (Qr Xr (pv 1) Qe) (Qa (Kt (v:=.int 13) rfl R ⟨_,rfl⟩) Qf)) (Zh Y4 PySem.F.slot_str_join PySem.F.type_str_join (Vv (K:=K) rfl) Qq (Qa (pv 2) Qf))) Qq) (Qr Xr (pv 1) Qe))))),?_⟩
 obtain⟨I,lw,lb,lh,ls,la,ds,fs,aa,yh,ab,ya,o⟩:=id m
 have hz:=X0 2000000
 have n1:=bk.n1
 have S:=bk.n12
 obtain⟨u,U⟩:=Kq bk j
 refine⟨_,rfl,p,C,I,fs,_,rfl,o.hp,T.cl,T.nD,o.fD,n,rfl,Om,Om,fun D hD=>?_⟩
 refine Jw V.str (sgnS b (b+l)) rfl Wj (by rw[wY];lia) hD (fun d hd G g P h=>?_) fun G g N=>?_
 .refine⟨_,rfl,k,_,_,_,rfl,rfl,g.tup a,rfl,_,rfl,_,_,rfl,rfl,_,rfl,ite2 (fun r=>?_) (fun r=>?_)⟩
  .refine⟨_,rfl,p,I,fs,rfl,g _ _ o.hp,o.nE,_,rfl,p,k,n,B,w,v,b,l,c,rfl,m.same g,g.tup a,j,fun L J=>?_⟩
   refine⟨_,_,rfl,rfl,_,rfl,ite2 (fun y=>?_) (fun y=>?_)⟩
   .have e:=h L J
    rw[show sgnS b (b+l) d="#" by unfold sgnS;rw[Y22 ⟨kK r,kK y⟩]]at e
    exact e
   .have e:=h L J
    rw[show sgnS b (b+l) d="." by unfold sgnS;rw[Y20 (fun z=>y (yJ z.2))]]at e
    exact e
  .refine⟨_,rfl,iteF ?_⟩
   have e:=h G (Same.refl _)
   rw[show sgnS b (b+l) d="." by unfold sgnS;rw[Y20 (fun z=>r (yJ z.1))]]at e
   exact e
 .have lp:(Txt.ljust w 13).length=13:=by rw[<-Ya,Qbt u.2.1,Zp u.2.1]
  have lj:(Str.join "" ((List.range n.toNat).map (sgnS b (b+l)))).length<=12:=by rw[<-Ya,Qac,Vw];lia
  have lv:=U.2.1
  refine⟨_,rfl,k,_,_,_,rfl,rfl,g.tup a,rfl,rfl,w,13,rfl,rfl,Dk,?_⟩
  refine⟨rfl,_,rfl,_,D,_,rfl,rfl,Qb N,joinOk_of (b:=1) (fun t O=>?_) (by rw[jX,wY];show _*1<=_;lia),?_⟩
  .obtain⟨d,_,rfl⟩:=zV.mp O
   unfold sgnS
   split<;>decide +kernel
  rw[join_eq]
  refine⟨_,_,rfl,rfl,Om,?_⟩
  refine⟨_,_,rfl,rfl,by rw[Yk];show _+1<=_;lia,?_⟩
  refine⟨_,rfl,k,_,_,_,rfl,rfl,g.tup a,rfl,?_⟩
  refine⟨_,_,rfl,rfl,by rw[Yk,Yk];show _+_+1+_<=_;lia,?_⟩
  rw[Qye u.2.1]
  exact q G g
theorem scBeR:FnScope ["facts","bench","taken","used"] ["facts","bench","taken"] (Qh sBeR):=Sc
theorem okBeR(hW:mg "WIDTH"=some (.int 13 tW))(T:FcTxt K mg C)(GU:FnOk P w K mg base CX0 2 fU fdU ["self","choice","bench","day"] (Qih K C))(bU:Binds K fdU ["self","choice","bench","day"] [])(mU:Meth K C "used_by" fU)(F:Fn K mg "bench_row" sBeR)(M:Mg mg):Cal P w K mg base 4 "bench_row" ["facts","bench","taken"] (Qpm K C):=by
 refine Xt F scBeR (fun _ _ _ _ _ _=>Ww (fun _ _ _=>rfl)) (fun W H Q E h=>?_) (fun f ab A N s H W Q E hr h=>?_)
 .obtain⟨p,Y,n,B,a,e,rfl,_⟩:=h
  rfl
 obtain⟨p,Y,n,B,a,e,rfl,y,bk,S,x,O,g,q⟩:=h
 refine⟨_,(Qg (Qsb (i:=3) ["day","facts","bench","taken"] [none,some 0,some 1,some 2] rfl scBeR.nd rfl (inl rfl) (Xo rfl M.range_ (Qa (Yn (pv 0) rfl) Qf)) (fun _ _ _=>(Z3 0 (show(["day","facts","bench","taken"]:List Str).Nodup by decide +kernel))) (fun _ _ _=>Yr) (fun _ _ _=>(Qt (Qlw (K:=K) rfl rfl) rfl M.sum Qji (Qa (Yu ["choice","day","facts","bench"] [none,some 0,some 1,some 2] rfl (Qsd (K:=K) rfl (pv 3)) (fun _ _ _=>(Z3 0 (show(["choice","day","facts","bench"]:List Str).Nodup by decide +kernel))) (fun _ _ _=>Yr) (fun _ _ _=>(Zd (pv 2) T.cl mU GU (hr.mono Dc) bU .nil Jq (Qa (pv 0) (Qa (pv 3) (Qa (pv 1) Qf)))))) Qf))))
  (Qi (Xb (Ql Xm (Zh Y4 PySem.F.slot_str_ljust PySem.F.type_str_ljust Qeq (pv 1) (Qa (Kt (v:=.int 13) rfl hW ⟨_,rfl⟩) Qf)) (Zh Y4 PySem.F.slot_str_join PySem.F.type_str_join (Vv (K:=K) rfl) Qq (Qa (Yu ["many"] [none] rfl (Qx (pv 3)) (fun _ _ _=>(Z3 0 Z2)) (fun _ _ _=>Yr) (fun _ _ _=>(pe_bmK (K:=K) rfl Y4 PySem.F.slot_str_zfill PySem.F.type_str_zfill Qtp (Xv Qgo rfl M.str_ Qjr (Qa (pv 0) Qf)) (Qa Qe Qf)))) Qf)))))),?_⟩
 obtain⟨U,lw,lb,lh,ls,la,ds,fs,ac,yh,ae,ya,z⟩:=id y
 have hz:=X0 2000000
 have n1:=bk.n1
 have aa:=bk.n12
 refine⟨_,rfl,p,C,U,fs,_,rfl,z.hp,T.cl,T.nD,z.fD,n,rfl,Om,Om,fun D hD=>?_⟩
 refine Jw V.int (fun d:Nat=>Jp B e a d) rfl Wj (by rw[wY];lia) hD (fun d hd H1 r P h=>?_) fun H1 r R=>?_
 .obtain⟨W,L,ad⟩:=(S.same r).ex
  refine⟨_,rfl,Y,rfl,⟨_,L⟩,fun J m=>?_⟩
  refine lc_chs (f:=useR B a (d:Int)) rfl (S.same r) m (fun c t o hc j I P2 u=>?_) fun o j u=>?_
  .obtain⟨l,k,hw⟩:=x c hc
   exact⟨_,rfl,p,U,fs,rfl,(r.trans j) _ _ z.hp,z.nU,_,rfl,_,rfl,_,rfl,p,t,n,B,c.1,c.2.1,a,c.2.2,l,k,(d:Int),rfl,y.same (r.trans j),bk.wb,I,hw,fun H3 Z=>u H3 Z⟩
  .exact⟨J,_,rfl,Qb u,h o j⟩
 .have lp:(Txt.ljust a 13).length=13:=by rw[<-Ya,Qbt g,Zp g]
  have G:∀d:Nat,0<=Jp B e a d/\Jp B e a d<=999999999:=fun d=>by
   have:=Qet bk.wb a d O
   lia
  refine⟨_,rfl,rfl,a,13,rfl,rfl,Dk,?_⟩
  refine⟨rfl,_,rfl,D,rfl,⟨_,Qb R⟩,fun J m=>?_⟩
  refine Jw V.str (fun d:Nat=>Txt.zfill (numT (Jp B e a d)) 2) rfl (Zu (xs:=List.range n.toNat) (val:=fun d:Nat=>V.int (Jp B e a d)) (Qb (by rw[R,jZd];rfl))) (by rw[wY];lia) m (fun d hd o j P h=>?_) fun o j u=>?_
  .refine⟨_,rfl,.inr ⟨_,rfl,Qpn (G d).1 (G d).2,?_⟩⟩
   exact⟨rfl,_,2,rfl,rfl,Dk,h o (Same.refl _)⟩
  .have X:∀t∈(List.range n.toNat).map (fun d:Nat=>Txt.zfill (numT (Jp B e a d)) 2),t.length<=11:=fun t I=>by
    obtain⟨d,_,rfl⟩:=zV.mp I
    exact two_len (G d).1 (G d).2
   refine⟨_,J,_,rfl,rfl,Qb u,joinOk_of (b:=11) X (by rw[jX,wY];show _*11<=_;lia),?_⟩
   rw[join_eq]
   have lj:(Str.join "" ((List.range n.toNat).map fun d:Nat=>Txt.zfill (numT (Jp B e a d)) 2)).length<=12*11:=by
    have:=Qgq X
    rw[jX,wY]at this
    lia
   refine⟨_,_,rfl,rfl,Om,?_⟩
   rw[Qyd g]
   exact q o (r.trans j)
abbrev sDrw:Stmt:=top 24
theorem Qeu:∀{ys:List V} {A:List Ch},ChsAre K H ys A->∃zs:List (Addr×Ch),ys=zs.map (fun z=>V.ref z.1)/\A=zs.map (·.2)/\∀z∈zs,SqT K H z.1 [.str z.2.1,.str z.2.2.1,.int z.2.2.2]:=by
 intro ys A h
 induction h with
 |nil=>exact⟨[],rfl,rfl,fun _ h=>nomatch h⟩
 |@cons v c ys A hv _ ih=>
  obtain⟨zs,a,d,h⟩:=ih
  obtain⟨t,e,b⟩:=hv
  refine⟨(t,c)::zs,by rw[zX,a,e],by rw[zX,d],fun z hz=>?_⟩
  rcases kZ.mp hz with rfl | hz
  .exact b
  .exact h z hz
def Yb(B:List BR)(pl:Z7):List Ch:=(wks B).map fun w=>(w,look pl w)
theorem Qpo(h:Zz K H pl ys ws):ChsAre K H ys (ws.map fun w=>(w,look pl w)):=by
 unfold Zz at h
 induction h with
 |nil=>exact .nil
 |cons hv _ ih=>exact .cons hv ih
def WayC(n:Int)(B:List BR)(A:List Ch):Prop:=∀c∈A,∃l k,BR.way c.1 c.2.1 l k∈B/\0<=c.2.2/\c.2.2+l<=n
theorem Qki(bk:BookOk n B)(b:PlanFor n B pl)(h:B.flatMap (gW pl)=[]):WayC n B (Yb B pl):=by
 intro c i
 obtain⟨w,f,rfl⟩:=zV.mp i
 obtain⟨l,k,d,a,g,e⟩:=b.get bk.wb (Zm h (wks_mem.mp f))
 exact⟨l,k,a,g,e⟩
def endC(B:List BR)(c:Ch):Int:=c.2.2+lenB B c.1 c.2.1
def wrC(n:Int)(B:List BR)(c:Ch):Str:=ofL (wrL n c.1 c.2.1 c.2.2 (endC B c))
def brC(n:Int)(B:List BR)(A:List Ch)(b:Str):Str:=ofL (brL n (Jp B A b) b)
def Za(n:Int)(B:List BR)(A:List Ch):List Str:=A.map (wrC n B)++(bns B).map (brC n B A)
def nlS:Str:="\n"
def Qcg(rows:List Str):Str:=Str.join "" (rows.map (· ++ nlS))
theorem Qvh(bk:BookOk n B){c:Ch}{l k:Int}(h:BR.way c.1 c.2.1 l k∈B):(wrC n B c).length<=38:=by
 obtain⟨b,d⟩:=Kq bk h
 have a:=Zp b.2.1
 have e:=d.2.1
 have f:=bk.n12
 unfold wrC
 rw[Qpk]
 unfold wrL
 rw[jJ,jJ,yZ,a,Vw,Ya]
 lia
theorem Vx(bk:BookOk n B){b:Str}(h:b∈bns B):NmOk b:=by
 obtain⟨r,a,e⟩:=xQ.mp h
 cases r with
 |bench b' m=>cases e;exact bk.gn _ a b jY
 |_=>cases e
theorem br_len(bk:BookOk n B){A:List Ch}(c:A.length<=400){b:Str}(h:NmOk b):(brC n B A b).length<=145:=by
 have e:=Zp h.2.1
 have f:=bk.n12
 unfold brC
 rw[Qpk]
 unfold brL
 rw[jJ,e]
 have a:((List.range n.toNat).flatMap fun d=>twoL (Jp B A b d)).length<=(List.range n.toNat).length*11:=Jo fun d _=>by
  have:=Qet bk.wb b d c
  unfold twoL
  rw[Ya]
  exact two_len this.1 Om
 rw[wY]at a
 lia
theorem Qtu(bk:BookOk n B){A:List Ch}(e:A.length<=400)(f:WayC n B A):∀t∈Za n B A,t.length<=145:=by
 intro t g
 rcases kJ.mp g with h | h
 .obtain⟨c,i,rfl⟩:=zV.mp h
  obtain⟨l,k,a,_⟩:=f c i
  have:=Qvh bk a
  lia
 .obtain⟨b,d,rfl⟩:=zV.mp h
  exact br_len bk e (Vx bk d)
def Qpp(K:Fg):Sp:=fun vs H Q _=>∃(d P:Addr) (n:Int) (us:List V) (B:List BR) (pl:Z7),vs=[.ref d,.ref P]/\H d=some (.lst us)/\RowsB H us B/\BookOk n B/\PlanAt K H P pl/\PlanFor n B pl/\B.flatMap (gW pl)=[]/\∀H',Same H H'->Q (.str (Qcg (Za n B (Yb B pl)))) H'
theorem scDrw:FnScope ["book","plan","facts","taken","rows"] ["book","plan"] (Qh sDrw):=Sc
theorem okDrw{fI:Addr}(T:FcTxt K mg C)(ag:Mk K C fI)(GI:FnOk P w K mg base CX0 2 fI fdI ["self","book"] (Qek K C))(bI:Binds K fdI ["self","book"] [])(F:Fn K mg "drawn" sDrw)(M:Mg mg)(a:Cal P w K mg base 1 "choices_taken" ["facts","plan"] (Qii K C))(j:Cal P w K mg base 3 "work_row" ["facts","choice"] (Qpl K C))(i:Cal P w K mg base 4 "bench_row" ["facts","bench","taken"] (Qpm K C)):Cal P w K mg base 5 "drawn" ["book","plan"] (Qpp K):=by
 refine Xt F scDrw (fun _ _ _ _ _ _=>Jt (fun _ _=>rfl)) (fun vs H Q E h=>?_) (fun f an A ae s H vs Q E U h=>?_)
 .obtain⟨d,Pp,n,us,B,m,rfl,_⟩:=h
  rfl
 obtain⟨d,Pp,n,us,B,m,rfl,hd,hB,bk,hP,Y,hW,q⟩:=h
 have hu:=Z6 1 U.un
 refine⟨_,(Qg (Z4 2 scDrw.nd (Qhk ag GI (U.mono Dc) rfl T.mgC bI .nil Jq (Qa (pv 0) Qf)))
  (Qg (Z4 3 scDrw.nd (Xj a (U.mono Dc) (Qa (pv 2) (Qa (pv 1) Qf))))
  (Qg (Z4 4 scDrw.nd (Ql Kc (Yu ["choice","facts"] [none,some 2] rfl (Qx (pv 3)) (fun _ _ _=>(Z3 0 (show(["choice","facts"]:List Str).Nodup by decide +kernel))) (fun _ _ _=>Yr) (fun _ _ _=>(Xj j (U.mono Dc) (Qa (pv 1) (Qa (pv 0) Qf))))) (Yu ["bench","facts","taken"] [none,some 2,some 3] rfl (Qx (Yn (pv 2) rfl)) (fun _ _ _=>(Z3 0 (show(["bench","facts","taken"]:List Str).Nodup by decide +kernel))) (fun _ _ _=>Yr) (fun _ _ _=>(Xj i (U.mono Dc) (Qa (pv 1) (Qa (pv 0) (Qa (pv 2) Qf))))))))
  (Qi (Xb (Zh Y4 PySem.F.slot_str_join PySem.F.type_str_join (Vv (K:=K) rfl) Qq (Qa (Yu ["row"] [none] rfl (Qx (pv 4)) (fun _ _ _=>(Z3 0 Z2)) (fun _ _ _=>Yr) (fun _ _ _=>(Ql Xm (pv 0) Qq))) Qf))))))),?_⟩
 refine Ju ?_
 intro af ak al
 have hz:=X0 2000000
 have bl:=bk.wb.len
 have wl:(wks B).length<=B.length:=zY _ _
 have nl:(bns B).length<=B.length:=zY _ _
 refine⟨_,rfl,fun p I fp aa ab=>?_⟩
 dsimp only[tNil]
 have W:Same H (upd (upd H I (.own p)) p (.ins C I [])):=(Qd aa _).trans (Qd (by rw[Qj ab.symm];exact fp) _)
 have L:upd (upd H I (.own p)) p (.ins C I []) p=some (.ins C I []):=Qc
 generalize upd (upd H I (.own p)) p (.ins C I [])=H1 at W L⊢
 refine⟨p,d,I,n,us,B,rfl,L,W _ _ hd,hB.same W,bk,fun H2 y fr=>⟨rfl,?_⟩⟩
 have s2:Same H H2:=fun b o e=>fr b o (W _ _ e) (Qk e fp)
 clear W L fr
 obtain⟨ac,lw,lb,lh,ls,la,ds,fs,aj,yh,ao,ya,hF⟩:=id y
 refine⟨_,rfl,_,rfl,p,Pp,n,B,m,rfl,y,bk,PlanAt.same hP s2,Y,hW,fun tk ys H3 s3 O hT=>?_⟩
 have hC:=Qpo hT
 have hA:ChsAt K H3 tk (Yb B m):=⟨⟨ys,Qb O,hC⟩,by unfold Yb;rw[jX];lia⟩
 have G:(Yb B m).length<=400:=by unfold Yb;rw[jX];lia
 have v:=Qki bk Y hW
 obtain⟨zs,e1,S,ad⟩:=Qeu hC
 have S:Yb B m=zs.map (·.2):=S
 subst e1
 have lz:zs.length<=400:=by rw[S,jX]at G;exact G
 refine⟨_,rfl,tk,rfl,⟨_,Qb O⟩,fun D hD=>?_⟩
 refine Jw V.str (fun z:Addr×Ch=>wrC n B z.2) rfl (Zu (val:=fun z:Addr×Ch=>V.ref z.1) (Qb O)) Om hD (fun z Z H4 X P h=>?_) fun H4 X h4=>?_
 .obtain⟨l,k,hk,_⟩:=v z.2 (by rw[S];exact kJa Z)
  refine⟨_,rfl,_,rfl,p,z.1,n,B,_,_,_,l,k,rfl,y.same (s3.trans X),bk,X.tup (ad z Z),hk,fun R N=>?_⟩
  have J:=h R N
  unfold wrC endC at J
  rw[Zl bk.wb hk]at J
  exact J
 have r:=s3.trans X
 refine⟨_,rfl,p,C,ac,fs,_,rfl,r _ _ hF.hp,T.cl,T.nB,hF.fB,lb,rfl,⟨_,Qb (r _ _ hF.hB)⟩,fun D2 ah=>?_⟩
 refine Jw V.str (brC n B (Yb B m)) rfl (Zu (val:=V.str) (Qb (r _ _ hF.hB))) Om ah (fun b hb R N P h=>?_) fun R N h5=>?_
 .exact⟨_,rfl,_,rfl,_,rfl,p,tk,n,B,b,Yb B m,rfl,y.same (r.trans N),bk,hA.same (X.trans N),fun c hc=>let ⟨l,k,hk,_⟩:=v c hc;⟨l,k,hk⟩,G,(Vx bk hb).2.1,fun H6 s6=>h H6 s6⟩
 refine⟨D,D2,_,_,rfl,rfl,N _ _ h4,h5,by simp only[jX];lia,fun g hg=>?_⟩
 have e3:zs.map (fun z:Addr×Ch=>wrC n B z.2)=(Yb B m).map (wrC n B):=by rw[S,jZd];rfl
 rw[e3,<-zQ]
 have s6:=Qd hg (.lst ((Za n B (Yb B m)).map V.str))
 have J:upd R g (.lst ((Za n B (Yb B m)).map V.str)) g=some (.lst ((Za n B (Yb B m)).map V.str)):=Qc
 have am:(Za n B (Yb B m)).length<=800:=by unfold Za;rw[jJ,jX,jX];lia
 have x:=Qtu bk G v
 show af _ _ (upd R g (.lst ((Za n B (Yb B m)).map V.str)))
 generalize upd R g (.lst ((Za n B (Yb B m)).map V.str))=H6 at s6 J⊢
 refine⟨rfl,_,rfl,g,rfl,⟨_,Qb J⟩,fun D3 ai=>?_⟩
 refine Jw V.str (fun t:Str=>t++nlS) rfl (Zu (val:=V.str) (Qb J)) Om ai (fun t ht H7 s7 P h=>?_) fun H7 s7 h7=>?_
 .exact⟨_,rfl,_,_,rfl,rfl,by have:=x t ht;show _+1<=_;lia,h H7 (Same.refl _)⟩
 .refine⟨_,D3,_,rfl,rfl,Qb h7,joinOk_of (b:=146) (fun t ht=>?_) (by rw[jX];show _*146<=_;lia),?_⟩
  .obtain⟨u,hu,rfl⟩:=zV.mp ht
   have:=x u hu
   rw[Yk]
   show _+1<=_
   lia
  .rw[join_eq]
   exact q H7 (((((s2.trans r).trans N).trans s6)).trans s7)
end
theorem idx_hi(a:Nat){j:Int}(h:(a:Int)<=j):Builtin.Str.strSliceIndices none (some j) 1 a=Builtin.Str.strSliceIndices none (some (a:Int)) 1 a:=by
 have c:(if j<0 then j+(a:Int)else j)=j:=Y20 Om
 have d:(if (a:Int)<0 then(a:Int)+(a:Int)else(a:Int))=(a:Int):=Y20 Om
 have b:max (0:Int) (min j (a:Int))=max (0:Int) (min (a:Int) (a:Int)):=Om
 show sliceRange _ (if (1:Int) > 0 then max 0 (min (if j<0 then j+(a:Int)else j) (a:Int))else _) _=sliceRange _ (if (1:Int) > 0 then max 0 (min (if (a:Int)<0 then(a:Int)+(a:Int)else(a:Int)) (a:Int))else _) _
 rw[c,d,b];rfl
theorem idx_lo(a:Nat){j:Int}(h:(a:Int)<=j):Builtin.Str.strSliceIndices (some j) none 1 a=Builtin.Str.strSliceIndices (some (a:Int)) none 1 a:=by
 have c:(if j<0 then j+(a:Int)else j)=j:=Y20 Om
 have d:(if (a:Int)<0 then(a:Int)+(a:Int)else(a:Int))=(a:Int):=Y20 Om
 have b:max (0:Int) (min j (a:Int))=max (0:Int) (min (a:Int) (a:Int)):=Om
 show sliceRange (if (1:Int) > 0 then max 0 (min (if j<0 then j+(a:Int)else j) (a:Int))else _) _ _=sliceRange (if (1:Int) > 0 then max 0 (min (if (a:Int)<0 then(a:Int)+(a:Int)else(a:Int)) (a:Int))else _) _ _
 rw[c,d,b];rfl
theorem sg_to(x:Str)(k:Nat):sg (StrLaws.sliceText x none (some (k:Int)))=(sg x).take k:=by
 have e:x.cps.toList.length=x.length:=Ya x
 by_cases h:k<=x.length
 .rw[StrLaws.sliceText_to ⟨Om,by rw[e];lia⟩]
  show((x.cps.toList.drop 0).take _)=_
  rw[jZc]
  congr 1
 .have a:StrLaws.sliceText x none (some (k:Int))=StrLaws.sliceText x none (some (x.length:Int)):=by
   unfold StrLaws.sliceText
   rw[idx_hi x.length Om]
  rw[a,StrLaws.sliceText_to ⟨Om,by rw[e];exact kZd _⟩]
  show((x.cps.toList.drop 0).take _)=_
  rw[jZc,wQ (by rw[e];lia),wQ (by rw[Ya];lia)]
theorem Qyf(x:Str)(k:Nat):sg (StrLaws.sliceText x (some (k:Int)) none)=(sg x).drop k:=by
 have e:x.cps.toList.length=x.length:=Ya x
 by_cases h:k<=x.length
 .rw[StrLaws.sliceText_from ⟨Om,by rw[e];lia⟩]
  show((x.cps.toList.drop _).take _)=_
  rw[wQ (by rw[jJd];lia)]
  try congr 1
 .have a:StrLaws.sliceText x (some (k:Int)) none=StrLaws.sliceText x (some (x.length:Int)) none:=by
   unfold StrLaws.sliceText
   rw[idx_lo x.length Om]
  rw[a,StrLaws.sliceText_from ⟨Om,by rw[e];exact kZd _⟩]
  show((x.cps.toList.drop _).take _)=_
  rw[kYd (l:=sg x) (by rw[Ya];lia),kYd (by rw[e];lia)]
  exact List.take_nil
end Nb
namespace L2
open PySem PySem.Spec PyProof.Rows
def TrG(h base:Heap)(e:Addr)(G:Obj->Prop)(fl:Value):Prop:=∃oe vs T oT ts,h.get? e=some oe/\G oe/\oe.data=.fields vs/\vs[1]?=some (.ref T)/\base.get? T=none/\T≠e/\h.get? T=some oT/\oT.data=.fields ts/\ts[3]?=some fl
def Kr(G:Obj->Prop):Prop:=∀o v,G o->G (o.mapFields (·.setIfInBounds 1 v))
section
variable{env:Env}{L e:Addr}{oe:Obj}{vs:Array Value}{G:Obj->Prop}
theorem Qvi{hd:Value}{nx:Bool}{Q:Unit->Shared->Prop}(u:Kr G)(N:A.frames=some (env::outer))(fs:s.heap.FunFrames base (env::outer))(F:env.frame=some L)(he:s.heap.get? e=some oe)(st:base.StaysIn s.heap)(r:base.get? e=none)(m:oe.data=.fields vs)(two:1<vs.size)(g:G oe)
  (q:∀h',base.StaysIn h'->h'.FunFrames base (env::outer)->TrG h' base e G (rawInt L)->s.heap.UpToSlots h'->Q () { s with heap:=h' }) :
  wpAny M A (do let a ← frameOf env;let pl ← entryPlaceOf L nx;let b ← EntryCells.newEntry hd a .none (rawInt L) .none pl;setField (.ref e) 1 b) Q E s:=by
 have p:e∉(env::outer).filterMap (·.frame):=fun z=>by
  obtain⟨_,o,x,j⟩:=fs.mem z
  rw[he]at x
  cases x
  exact j vs m
 refine jQ (wpAny_frameOf_fun N fs F fun c l=>jQ (wpAny_entryPlaceOf fun pl P=>?_))
 unfold EntryCells.newEntry newFields
 refine jQ (Y26 ?_ (P.sizeOk5 _ _ _ _ _))
 have w:c.get? e=some oe:=(l.2.1 e p).trans he
 have t:base.StaysIn c:=fun b o z=>(l.2.1 b fun y=>by rw[(fs.mem y).1]at z;cases z).trans (st b o z)
 have C:c.objs.size≠e:=kQf (yK w)
 obtain⟨i,k⟩:∃i:Obj,i={ cls:=.type "traceback",dict:=none,data:=.fields ([hd,.ref L,.none,rawInt L,.none]++(if pl.isEmpty then List.replicate 6 Value.none else pl)).toArray }:=⟨_,rfl⟩
 have J:i.isFreed=false:=by rw[k];rfl
 have n:i.data=.fields ([hd,.ref L,.none,rawInt L,.none]++(if pl.isEmpty then List.replicate 6 Value.none else pl)).toArray:=by rw[k]
 rw[<-k]
 have v:=jZ i w
 have O:=yY c J
 obtain⟨S,K⟩:∃f:Obj->Obj,f=Obj.mapFields (·.setIfInBounds 1 (Value.ref c.objs.size)):=⟨_,rfl⟩
 refine Y53 v m two ?_
 show Q () { s with heap:=(c.push i).update e (Obj.mapFields (·.setIfInBounds 1 (Value.ref c.objs.size))) }
 have B:=Y42 m (·.setIfInBounds 1 (Value.ref c.objs.size))
 have I:=jYc (Obj.mapFields (·.setIfInBounds 1 (Value.ref c.objs.size))) v (Y61 B)
 have H:=(jXd (c.push i) (Obj.mapFields (·.setIfInBounds 1 (Value.ref c.objs.size))) (Ne.symm C)).trans O
 have keep:∀b o,b≠e->c.get? b=some o->((c.push i).update e (Obj.mapFields (·.setIfInBounds 1 (Value.ref c.objs.size)))).get? b=some o:=fun b o R z=>(jXd _ _ (Ne.symm R)).trans (jZ _ z)
 have d:∀b o,s.heap.get? b=some o->(∀ws,o.data≠.fields ws)->b≠e:=fun b o z j y=>by
  rw[y,he]at z
  cases z
  exact j vs m
 refine q _ (fun b o z=>keep b o (fun y=>by rw[y,r]at z;cases z) (t b o z)) (fs.of_keeps fun b o z j=>?_) ⟨_,_,_,i,_,I,u _ _ g,B,by rw[yQe two],t.fresh,C,H,n,?_⟩ fun b o z j=>?_
 .obtain⟨D,y⟩:=l.2.2 b o z
  exact⟨_,keep b _ (d b o z j) y,rfl⟩
 .rw[List.getElem?_toArray];rfl
 .obtain⟨D,y⟩:=l.2.2 b o z
  exact⟨D,keep b _ (d b o z j) y⟩
theorem Qio{Q:Unit->Shared->Prop}(u:Kr G)(d:A.frames=some (env::outer))(fs:s.heap.FunFrames base (env::outer))(b:env.frame=some L)(he:s.heap.get? e=some oe)(st:base.StaysIn s.heap)(a:base.get? e=none)(c:oe.data=.fields vs)(one:vs[1]?=some .none)(g:G oe)
  (q:∀h',base.StaysIn h'->h'.FunFrames base (env::outer)->TrG h' base e G (rawInt L)->s.heap.UpToSlots h'->Q () { s with heap:=h' }):wpAny M A (noteFrame (.ref e) env) Q E s:=by
 unfold noteFrame
 simp only[b]
 refine jQ (Y23 he c one ?_)
 rw[Y20 Dc]
 exact Qvi u d fs b he st a c (kQe.mp one).1 g q
theorem Qdd{Q:Unit->Shared->Prop}(u:Kr G)(C:A.frames=some (env::outer))(fs:s.heap.FunFrames base (env::outer))(m:env.frame=some L)(t:TrG s.heap base e G .none)(st:base.StaysIn s.heap)(j:base.get? e=none)
  (q:∀h',base.StaysIn h'->h'.FunFrames base (env::outer)->TrG h' base e G (rawInt L)->s.heap.UpToSlots h'->Q () { s with heap:=h' }):wpAny M A (noteFrame (.ref e) env) Q E s:=by
 obtain⟨H,F,T,I,w,l,g,n,one,B,r,k,i,d⟩:=t
 have a:∀b,b≠T->(s.heap.update T (Obj.mapFields (·.setIfInBounds 3 Value.none))).get? b=s.heap.get? b:=fun b z=>jXd _ _ (Ne.symm z)
 have c:∀b o,s.heap.get? b=some o->(∀ws,o.data≠.fields ws)->b≠T:=fun b o z f y=>by
  rw[y,k]at z
  cases z
  exact f w i
 unfold noteFrame
 simp only[m]
 refine jQ (Y23 l n one ?_)
 rw[Y22 (show(Value.ref T != Value.none)=true from rfl)]
 refine jQ (Y23 k i d ?_)
 rw[Y20 (show ¬((Value.none == rawInt L)=true)by unfold rawInt;exact yQ)]
 refine jQ (Y53 k i (kQe.mp d).1 ?_)
 refine Qvi u C (fs.of_keeps fun b o z f=>⟨o,(a b (c b o z f)).trans z,rfl⟩) m ((a e (Ne.symm r)).trans l) (fun b o z=>(a b fun y=>by rw[y,B]at z;cases z).trans (st b o z)) j n (kQe.mp one).1 g fun h' p D v x=>?_
 exact q h' p D v fun b o z f=>x b o ((a b (c b o z f)).trans z) f
theorem Qev{l:List Env}{fl:Value}{Q:Unit->Shared->Prop}(st:base.StaysIn s.heap)(fs:s.heap.FunFrames base l)(t:TrG s.heap base e G fl)
  (q:∀h',base.StaysIn h'->h'.FunFrames base l->TrG h' base e G .none->s.heap.UpToSlots h'->Q () { s with heap:=h' }):wpAny M A (setFlight (.ref e) none) Q E s:=by
 obtain⟨v,u,T,w,r,k,g,p,one,m,n,j,i,d⟩:=t
 have sz:=(kQe.mp d).1
 have a:∀b,b≠T->(s.heap.update T (Obj.mapFields (·.setIfInBounds 3 Value.none))).get? b=s.heap.get? b:=fun b z=>jXd _ _ (Ne.symm z)
 have c:∀b o,s.heap.get? b=some o->(∀ws,o.data≠.fields ws)->b≠T:=fun b o z f y=>by
  rw[y,j]at z
  cases z
  exact f r i
 unfold setFlight
 refine jQ (Y23 k p one ?_)
 rw[Y22 (show(Value.ref T != Value.none)=true from rfl)]
 refine Y53 j i sz (q (s.heap.update T (Obj.mapFields (·.setIfInBounds 3 Value.none))) (fun b o z=>(a b fun y=>by rw[y,m]at z;cases z).trans (st b o z)) (fs.of_keeps fun b o z f=>⟨o,(a b (c b o z f)).trans z,rfl⟩) ?_ fun b o z f=>⟨o.slots,(a b (c b o z f)).trans z⟩)
 exact⟨v,u,T,_,_,(a e (Ne.symm n)).trans k,g,p,one,m,n,jYc _ j (Y61 (Y42 i _)),Y42 i _,by rw[yQe sz]⟩
def FlyG(base:Heap)(l:List Env)(e:Addr)(G:Obj->Prop)(h:Heap):Prop:=base.StaysIn h/\base.get? e=none/\h.FunFrames base l/\TrG h base e G .none
theorem FlyG.there{l:List Env}{h:Heap}(x:FlyG base l e G h):∃ob vs,h.get? e=some ob/\G ob/\ob.data=.fields vs:=by obtain⟨_,_,_,b,vs,_,_,_,a,g,d,_⟩:=x;exact⟨b,vs,a,g,d⟩
theorem Qlx{Q:Unit->Shared->Prop}(u:Kr G)(p:A.frames=some (env::outer))(f:env.frame=some L)(x:FlyG base (env::outer) e G s.heap)(q:∀h',FlyG base outer e G h'->s.heap.UpToSlots h'->Q () { s with heap:=h' }):wpAny M A (leaving env (.ref e)) Q E s:=by
 obtain⟨r,a,n,j⟩:=x
 unfold leaving
 refine jQ (Qdd u p n f j r a fun t l o m c=>Qev l o m fun b d g k i=>?_)
 exact q b ⟨d,a,g.2.2,k⟩ (c.trans i)
theorem Qew{Q:Unit->Shared->Prop}(u:Kr G)(p:A.frames=some (env::outer))(f:env.frame=some L)(fs:s.heap.FunFrames base (env::outer))(he:s.heap.get? e=some oe)(st:base.StaysIn s.heap)(a:base.get? e=none)(o:oe.data=.fields vs)(one:vs[1]?=some .none)(g:G oe)(q:∀h',FlyG base outer e G h'->s.heap.UpToSlots h'->Q () { s with heap:=h' }):wpAny M A (leaving env (.ref e)) Q E s:=by
 unfold leaving
 refine jQ (Qio u p fs f he st a o one g fun r l n m c=>Qev l n m fun b d i k j=>?_)
 exact q b ⟨d,a,i.2.2,k⟩ (c.trans j)
end
abbrev exT(us:List Value):Obj:=⟨.type "tuple",none,.seq us.toArray,#[]⟩
abbrev exE(C n:Addr):Obj:=⟨.ref C,none,.fields #[.ref n,.none,.none,.none,.bool false,.none],#[]⟩
abbrev exH(h:Heap)(C:Addr)(us:List Value):Heap:=(h.push (exT us)).push (exE C h.objs.size)
theorem Qbv{h:Heap}(e:h.get? b=some o):(exH h C us).get? b=some o:=jZ _ (jZ _ e)
theorem Qpq{h:Heap}:(exH h C us).get? (h.objs.size+1)=some (exE C h.objs.size):=Heap.get?_push_at (by simp) rfl
section
variable{w:World}{a:Str}{b:Str}{N:Addr}{x1 x2 x3:List Value}{x4:Bool}{x5:List Str}{x6:List Value}{x7:Bool}{x8:Option Bool}{x9:Option Addr}{y0 y1 y2 y3 y5:Option Value}{T nw ini:String}{m:Z9}
theorem Qpr{Q:Fin->Shared->Prop}(F:ExcBaseFacts T nw ini x3)(l:OwnTail s.heap x3 x2)(j:s.heap.get? C=some (excClassObj a b C N x1 x2 x4 x5 x6 x7 x8 x9 y0 y1 y2 y3 y5 nw))(t:s.heap.Ns N m)(x:m "__init__"=some (.ref f))(u:s.heap.get? f=some fo)(v:fo.cls=.type "function")(p:us.length<=sizeLine)
  (q:wpAny (model P w) A (call (.ref f) (.ref (s.heap.objs.size+1)::us)) (fun r s'=>r=.none/\Q (.done (.ret (.ref (s.heap.objs.size+1)))) s') E { s with heap:=exH s.heap C us }):wpAny (model P w) A (Builtin.«type.__call__» ⟨.ref C::us,[]⟩) Q E s:=by
 obtain⟨h,g,d,k,n⟩:=s
 dsimp only at *
 repeat first
  |with_reducible refine Y27 j ?_
  |with_reducible refine wpAny_madeBy_exc j ?_
  |wp_step
 refine codeAny_call_builtin_code (Code.quiet_builtin _ F.quiet) (wpAny_check_new_subT F l j (codeAny_exc_new_subT F l j ?_ p))
 show wpAny (model P w) A _ _ E ⟨exH h C us,g,d,k,n⟩
 have one:=Qpq (h:=h) (C:=C) (us:=us)
 have c:=Qbv (C:=C) (us:=us) j
 have i:(Value.ref C::x2).contains (.ref C)=true:=by rw[kYc,beq_self_eq_true,Bool.true_or]
 unfold isInstance
 repeat first
  |with_reducible refine Y27 one ?_
  |(with_reducible refine wpAny_isSubtype_exc c ?_;rw[i])
  |wp_step
 refine wpAny_typeLookup_tail c (let ⟨o,es,ep,e,r⟩:=t;⟨o,es,ep,Qbv e,r⟩) (l.keeps fun _ _ e=>Qbv e) F.mroIs F.init.lookup ?_
 rw[x]
 refine Y30 (jQ ?_)
 unfold bindSpecial
 refine jQ (Y40 (T:="function") ⟨_,Qbv u,v⟩ ?_)
 rw[Y22 Dc]
 refine jV (jQ (Y29 q (fun r s' z=>?_) fun _ _ z=>z))
 obtain⟨rfl,z⟩:=z
 wp_walk
 exact z
theorem Qps{Q:VP}(F:ExcBaseFacts T nw ini x3)(e:OwnTail s.heap x3 x2)(c:s.heap.get? C=some (excClassObj a b C N x1 x2 x4 x5 x6 x7 x8 x9 y0 y1 y2 y3 y5 nw))(j:s.heap.Ns N m)(o:m "__init__"=some (.ref f))(l:s.heap.get? f=some fo)(n:fo.cls=.type "function")(i:us.length<=sizeLine)
  (q:wpAny (model P w) (A.under (.builtin "type.__call__" ⟨.ref C::us,[]⟩)) (call (.ref f) (.ref (s.heap.objs.size+1)::us)) (fun r s'=>r=.none/\Q (.ref (s.heap.objs.size+1)) s') E { s with heap:=exH s.heap C us }):wpAny (model P w) A (call (.ref C) us) Q E s:=by
 have t:=tc_lookup
 have v:=tc_bind (.ref C)
 have u:s.TypeIs (.ref C) "type":=⟨_,c,rfl⟩
 obtain⟨h,g,d,k,p⟩:=s
 dsimp only at *
 refine wpAny_call (codeAny_of_tree ?_)
 show wpAny _ _ (callAny (.ref C) _) _ _ _
 repeat any_goals first
  |assumption
  |with_reducible refine Y27 c ?_
  |wp_step
 exact⟨rfl,codeAny_call_builtin_at (Code.quiet_builtin _ Dk) entry_typeCall (wpAny_check_type_call_sub c (Qpr F e c j o l n i q))⟩
end
inductive TailN (h:Heap) (ns:List Str) (z:List Value):List Value->Prop
 |base:TailN h ns z z
 |own {a:Addr} {c:Value} {dd:Option Addr} {cd:ClassData} {sl:Array (Option Value)} {m:Z9} {l:List Value} (e:h.get? a=some ⟨c,dd,.cls cd,sl⟩) (hN:h.Ns cd.ns m) (no:∀n∈ns,m n=none) (t:TailN h ns z l):TailN h ns z (.ref a::l)
theorem TailN.own_tail{h:Heap}{z l:List Value}(t:TailN h ns z l)(a:("__init__":Str)∈ns):OwnTail h z l:=by
 induction t with
 |base=>exact .base
 |own e hN no _ ih=>exact .own e hN (no _ a) ih
theorem TailN.has{h:Heap}{z l:List Value}(t:TailN h ns z l){X:String}(a:z.contains (.type X)=true):l.contains (.type X)=true:=by
 induction t with
 |base=>exact a
 |own _ _ _ _ ih=>rw[kYc,ih,Bool.or_true]
theorem TailN.refuse{h:Heap}{z l:List Value}(t:TailN h ns z l){v:Value}{n:Str}(hz:refuseLoop v n z=pure ()):refuseLoop v n l=pure ():=by
 induction t with
 |base=>exact hz
 |own _ _ _ _ ih=>rw[refuseLoop_ref];exact ih
section
variable{w:World}{a:Str}{b:Str}{N x:Addr}{x1 x2 x3:List Value}{x4:Bool}{x5:List Str}{x6:List Value}{x7:Bool}{x8:Option Bool}{x9:Option Addr}{y0 y1 y2 y3 y5:Option Value}{T nw sa ow:String}{m:Z9}{n:Str}{v:Value}
theorem Qip{l z:List Value}{y:Option Value}(t:TailN s.heap ns z l)(a:n∈ns)(hz:lookupAlong z n=pure y)(q:Q y s):wpAny M A (lookupAlong l n) Q E s:=by
 induction t with
 |base=>rw[hz];exact jV q
 |own e hN no _ ih=>
  rw[lookupAlong_cons]
  refine jQ (wpAny_classOwn_cls e hN ?_)
  rw[no _ a]
  exact ih
theorem Ws{y:Option Value}(d:s.heap.get? C=some (excClassObj a b C N x1 x2 x4 x5 x6 x7 x8 x9 y0 y1 y2 y3 y5 nw))(g:s.heap.Ns N m)(t:TailN s.heap ns x3 x2)(f:n∈ns)(e:mroOf (.type T)=pure x3)(c:typeLookup (.type T) n=pure y)(q:Q (match m n with | some u=>some u | none=>y) s):wpAny M A (typeLookup (.ref C) n) Q E s:=by
 rw[typeLookup_eq,e]at c
 rw[typeLookup_eq]
 refine jQ (wpAny_mroOf_exc d ?_)
 rw[lookupAlong_cons]
 refine jQ (wpAny_classOwn_exc d g ?_)
 revert q
 cases m n with
 |some u=>exact fun q=>jV q
 |none=>exact fun q=>Qip t f c q
theorem Qpt{nv:Value}{Q:Unit->Shared->Prop}(F:StoreFacts T x3 sa ow)(f:s.heap.get? C=some (excClassObj a b C N x1 x2 x4 x5 x6 x7 x8 x9 y0 y1 y2 y3 y5 nw))(t:TailN s.heap ns x3 x2)(e:s.heap.get? x=some o)(g:o.cls=.ref C)(q:Q () s):wpAny M A (checkBuiltinCall sa ⟨[.ref x,nv,v],[]⟩) Q E s:=by
 have d:(Value.ref C::x2).contains (.type ow)=true:=by rw[kYc,t.has F.hasOwner,Bool.or_true]
 have c:=F.args (.ref x) nv v
 simp only[checkBuiltinCall,F.kind,F.split]
 refine jQ ?_
 unfold isInstance
 repeat first
  |(with_reducible refine Y27 e ?_;rw[g])
  |(with_reducible refine wpAny_isSubtype_exc f ?_;rw[d])
  |wp_step
 revert c
 unfold argsOk
 cases Manifest.signature? sa with
 |none=>exact fun _=>jV q
 |some sg=>exact fun c=>Y32 c q
abbrev wD(h:Heap)(x:Addr):Heap:=(h.push ⟨.type "dict",none,.dict #[],#[]⟩).update x fun o=>{ o with dict:=some h.objs.size }
theorem wD_new{h:Heap}(b:h.get? x=some o):(wD h x).Ns1 h.objs.size fun _=>none :=
 Heap.Ns1.of_empty ⟨_,#[],_,(Heap.get?_update_ne _ _ _ _ (kQf (yK b))).trans (Heap.get?_push_at rfl rfl),rfl,fun e a=>Y21 a (by simp),fun _=>rfl⟩
theorem Qgr{fs:Array Value}{Q:Fin->Shared->Prop}(F:StoreFacts T x3 sa ow)(p:s.heap.get? C=some (excClassObj a b C N x1 x2 true x5 x6 x7 x8 x9 y0 y1 y2 y3 y5 nw))(t:TailN s.heap ns x3 x2)(B:s.heap.Ns N m)(J:n∈ns)(G:m n=none)(I:typeLookup (.type T) n=pure none)(i:s.heap.get? x=some ⟨.ref C,none,.fields fs,sl⟩)
  (q:∀h tk,h.Ns1 s.heap.objs.size (fun y=>if y=n then some v else none)->h.get? x=some ⟨.ref C,some s.heap.objs.size,.fields fs,sl⟩->(∀c o,c≠x->s.heap.get? c=some o->h.get? c=some o)->Q (.done (.ret .none)) { s with heap:=h,toks:=tk }) :
  wpAny (model P w) A (Builtin.«object.__setattr__» ⟨[.ref x,.str n tk,v],[]⟩) Q E s:=by
 have f:=t.refuse (F.passes (.ref x))
 obtain⟨h,g,d,k,H⟩:=s
 dsimp only at *
 have j:=wD_new i
 unfold Builtin.«object.__setattr__»
 repeat first
  |with_reducible refine wpAny_nsSet1 j fun z l r=>?_
  |rw[refuse_eq]
  |rw[refuseLoop_ref,f]
  |with_reducible refine Y27 i ?_
  |with_reducible refine wpAny_mroOf_exc p ?_
  |(with_reducible refine Ws (s:=⟨h,g,d,_,H⟩) p B t J F.mro I ?_;rw[G])
  |wp_step
 obtain⟨O,S,R,u,L,D⟩:=l.count (Within.cons n v Within.nil)
 refine Y27 u ?_
 rw[L,pastItsLine_dict (jQc D (by rw[yZ,kYb,sizeLine_eq];lia))]
 have M:=jZ ⟨.type "dict",none,.dict #[],#[]⟩ i
 have lt:=yK i
 refine jV ?_
 wp_walk
 exact q z _ l ((r.2 x (zW lt)).trans (jYc _ M rfl)) fun c o K e=>(r.2 c (zW (yK e))).trans ((Heap.get?_update_ne _ _ _ _ K).trans (jZ _ e))
theorem Qgs{fs:Array Value}{Q:Unit->Shared->Prop}(F:StoreFacts T x3 sa ow)(i:s.heap.get? C=some (excClassObj a b C N x1 x2 true x5 x6 x7 x8 x9 y0 y1 y2 y3 y5 nw))(t:TailN s.heap ns x3 x2)(p:s.heap.Ns N m)(G:n∈ns)(H:m n=none)(u:("__setattr__":Str)∈ns)(e:m "__setattr__"=none)(z:typeLookup (.type T) n=pure none)(f:s.heap.get? x=some ⟨.ref C,none,.fields fs,sl⟩)
  (q:∀h tk,h.Ns1 s.heap.objs.size (fun y=>if y=n then some v else none)->h.get? x=some ⟨.ref C,some s.heap.objs.size,.fields fs,sl⟩->(∀c o,c≠x->s.heap.get? c=some o->h.get? c=some o)->Q () { s with heap:=h,toks:=tk }) :
  wpAny (model P w) A (setAttr (.ref x) n v) Q E s:=by
 have J:=F.slot.bind (.ref x)
 obtain⟨h,g,d,k,l⟩:=s
 dsimp only at *
 unfold setAttr callSpecial? specialOf
 repeat any_goals first
  |assumption
  |with_reducible refine Y27 f ?_
  |(with_reducible refine Ws (s:=⟨h,g,d,_,l⟩) i p t u F.mro F.slot.lookup ?_;rw[e])
  |wp_step
 refine Y43 F.slot.plain F.entry (Qpt F i t f rfl (Qgr (s:=⟨h,g,d,_,l⟩) F i t p G H z f fun D j r I B=>?_))
 repeat any_goals first
  |assumption
  |wp_step
 exact q D j r I B
end
end L2
namespace L2
open PySem PySem.Spec PySem.Calls PyProof.Rows PySem.W
structure ExcFld(K:Frag)(C:Addr)(n:Str):Prop where
 ga:findIn K (.ref C) "__getattribute__"=some (some (.builtin "BaseException.__getattribute__"))
 gn:findIn K (.ref C) "__getattr__"=some none
 fn:findIn K (.ref C) n=some none
 mb:mroIn K C (.type "BaseException")=some true
 hd:∃c dd cd sl,K.lookup C=some ⟨c,dd,.cls cd,sl⟩/\cd.hasDict=true
section
variable{w:World}{h:Heap}{g:Array GenState}{d:Drawn}{t:Nat}{os:OsState}{fs:Array Value}{K:Frag}{n:Str}{v:Value}
theorem Qtv{Q:Fin->Shared->Prop}(X:K.In h)(Z:ExcFld K C n)(b:h.get? a=some ⟨.ref C,some dx,.fields fs,sl⟩)(i:h.Ns dx mA)(f:mA n=some v)(l:handedOut v=pure v)(s:Q (.done (.ret v)) ⟨h,g,d,t,os⟩) :
  wpAny (model prog w) A (Builtin.«object.__getattribute__» ⟨[.ref a,.str n tk],[]⟩) Q E ⟨h,g,d,t,os⟩:=by
 have q:=Js (M:=model prog w) b rfl
 have m:=looks_findIn (M:=model prog w) X Z.fn
 obtain⟨c,p,o,j,e,r⟩:=Z.hd
 have k:=X _ _ e
 unfold Builtin.«object.__getattribute__»
 repeat (any_goals (first | assumption | with_reducible refine Y27 b ?_ | with_reducible refine Looks.at (by assumption) ?_ | (with_reducible refine wpAny_nsGet i ?_;rw[f]) | with_reducible refine Y27 k ?_ | wp_step))
theorem Qyg(X:K.In h)(Z:ExcFld K C n)(b:h.get? a=some ⟨.ref C,some dx,.fields fs,sl⟩)(j:h.Ns dx mA)(i:mA n=some v)(c:handedOut v=pure v)(o:R (.ok (.ret v)) ⟨h,g,d,t,os⟩) :
  codeAny (model prog w) A (.call (.builtin "BaseException.__getattribute__") ⟨[.ref a,.str n tk],[]⟩) R ⟨h,g,d,t,os⟩:=by
 refine Y43 F.excAttr_ValueError.ga.plain F.entry_bexc_ga ?_
 have f:builtinKind "BaseException.__getattribute__"=some .slot:=Dk
 have l:splitId "BaseException.__getattribute__"=some ("BaseException","__getattribute__"):=Dk
 have p:=F.args_bexc_ga (.ref a) (.str n tk)
 have k:=Js (M:=model prog w) b rfl
 have e:=looks_mroIn (M:=model prog w) X Z.mb
 have m:Looks (model prog w) h (isInstance (.ref a) (.type "BaseException")) true:=k.andThen e
 simp only[checkBuiltinCall,f,l]
 refine jQ (m.at ?_)
 repeat (first | exact Qtv X Z b j i c o | wp_step)
theorem Qyh{Q:VP}(X:K.In h)(Z:ExcFld K C n)(b:h.get? a=some ⟨.ref C,some dx,.fields fs,sl⟩)(i:h.Ns dx mA)(e:mA n=some v)(c:handedOut v=pure v)(q:Q v ⟨h,g,d,t+1,os⟩) :
  wpAny (model prog w) A (getAttr (.ref a) n expr) Q E ⟨h,g,d,t,os⟩:=by
 have o:=Js (M:=model prog w) b rfl
 have j:=looks_findIn (M:=model prog w) X Z.ga
 have p:=looks_findIn (M:=model prog w) X Z.gn
 have m:=F.excAttr_ValueError.ga.bind (.ref a)
 have k:(expr&&onTheHeap (Value.builtin "BaseException.__getattribute__"))=false:=by cases expr<;>rfl
 have f:(Value.builtin "BaseException.__getattribute__" == Value.builtin "object.__getattribute__")=false:=Dk
 have l:(onTheHeap (Value.ref C)&&Value.builtin "BaseException.__getattribute__" == Value.builtin "object.__getattribute__")=false:=by rw[f];rfl
 unfold getAttr
 repeat (any_goals (first | assumption | with_reducible refine Looks.at (by assumption) ?_ | wp_step))
 refine Qyg X Z b i e c ?_
 repeat (any_goals (first | assumption | wp_step))
end
def exG(C dx:Addr):Obj->Prop:=fun o=>o.cls=.ref C/\o.dict=some dx
theorem Qpu:Kr (exG C dx):=fun o v g=>by
 obtain⟨c,d,b,f⟩:=o
 obtain⟨a,e⟩:=g
 cases b<;>exact⟨a,e⟩
def CXg(P:Program)(w:World)(C:Addr):CXT:=fun outer H s E ev s'=>∃(e dx:Addr) (H':Hp) (B:Heap),ev=.ref e/\E (.ref C) (some dx) H'/\s'.os=s.os/\AllBare s'.gens/\Un (frs outer) [] H H' s.heap s'.heap/\HOk P w H' s'.heap /\
 (∀b,b∉frs outer->((∃o,s.heap.get? b=some o)\/H' b≠none)->∃o,B.get? b=some o)/\FlyG B outer e (exG C dx) s'.heap
section
variable{w:World}{cd:Value}{s₀:Shared}{H₀:Hp}{E:XK}
abbrev cxG(P:Program)(w:World)(C:Addr)(K:Fg)(mg:Z9)(base:Heap)(N:List Str)(qual:Str)(scope:Scope)(f:Addr)(cd:Value)(A:Around)(outer:List Env)(s:Shared)(H:Hp)(E:XK):Cx:=cxOf (CXg P w C) P w K mg base N qual scope f cd A outer s H E
theorem Qiq(I:Inv (cxG P w C K mg base N qual scope f cd A outer s₀ H₀ E) pins σ H s)(e:s₀.heap.get? b=some o)(d:b∉frs outer):b∉frs (envOfC qual scope s₀.heap.objs.size f cd::outer):=fun z=>by
 have g:b∈(envOfC qual scope s₀.heap.objs.size f cd::outer).filterMap (·.frame):=z
 obtain⟨a,he,c⟩:=xQ.mp g
 rcases kZ.mp he with rfl | he
 .have:s₀.heap.objs.size=b:=Y5 c
  exact Y21 (yK e) (by rw[<-this];exact jYd _)
 .exact d (xQ.mpr ⟨a,he,c⟩)
theorem Qyi:Wo (CXg P w C) (cxG P w C K mg base N qual scope f cd A outer s₀ H₀ E) E:=by
 intro L V H s W J I h
 obtain⟨e,Q,r,B,rfl,q,R,m,un,D,G,fl⟩:=h
 show wpAny _ _ (leaving (envOfC qual scope s₀.heap.objs.size f cd) (.ref e)) _ _ _
 refine Qlx (M:=model P w) Qpu I.ok.frames rfl fl fun S l T=>?_
 have c:Un (frs (envOfC qual scope s₀.heap.objs.size f cd::outer)) [] H r s.heap J.heap:=un
 have j:∀b∈frs outer,b∈frs (envOfC qual scope s₀.heap.objs.size f cd::outer):=fun b d=>xQ.mpr (let ⟨env,he,hf⟩:=xQ.mp d;⟨env,kQ _ he,hf⟩)
 have k:∀b,b∉frs outer->((∃o,s₀.heap.get? b=some o)\/r b≠none)->∃o,B.get? b=some o:=fun b d z=>by
  rcases z with⟨o,a⟩ | z
  .obtain⟨p,i⟩:=I.base.there b o a (by intro z;cases z)
   exact G b (Qiq I a d) (.inl ⟨p,i⟩)
  .refine G b (fun y=>?_) (.inr z)
   obtain⟨x,i,_⟩:=Yj (show s.heap.FunFrames base (envOfC qual scope s₀.heap.objs.size f cd::outer)from I.stack) b y
   exact z (c.free b x i (I.stkFree b y) (by intro z;cases z))
 have big:Un (frs outer) [] H₀ r s₀.heap J.heap:=by
  refine⟨fun b o a n d g=>?_,fun b o a n d g=>?_,fun b o a n g=>?_,fun b o a g=>?_,fun b F a=>c.tups b F (I.base.tups b F a),fun b o u a=>c.frzs b o u (I.base.frzs b o u a),fun b ps a=>?_⟩
  .exact c.keep b o (I.base.keep b o a n d g) (I.base.free b o a n g) (Qiq I a d) g
  .obtain⟨X,i⟩:=I.base.slot b o a n d g
   obtain⟨v,t⟩:=c.slot b _ i (I.base.free b o a n g) (j b d) g
   exact⟨v,t⟩
  .obtain⟨p,i⟩:=I.base.there b o a g
   exact c.free b p i (I.base.free b o a n g) g
  .obtain⟨p,i⟩:=I.base.there b o a g
   exact c.there b p i g
  .obtain⟨O,i⟩:=I.base.tbls b ps a
   obtain⟨U,t⟩:=c.tbls b _ i
   exact⟨O++U,by rw[t,Array.append_assoc]⟩
 refine⟨e,Q,r,B,rfl,q,R.trans I.os,m,Qrx big k fl.1 l.1 T fun b d=>Yj fl.2.2.1 b (j b d),Qjq D k fl.1 l.1 fun b d=>?_,k,l⟩
 obtain⟨x,i,_⟩:=Yj (show s.heap.FunFrames base (envOfC qual scope s₀.heap.objs.size f cd::outer)from I.stack) b (j b d)
 exact c.free b x i (I.stkFree b (j b d)) (by intro z;cases z)
end
def excN(e C:Addr):HO:=.ext fun h=>∃t,h.get? e=some (exE C t)
def excM(e C dx:Addr):HO:=.ext fun h=>∃t,h.get? e=some { exE C t with dict:=some dx }
def excD(e C dx:Addr):HO:=.ext fun h=>∃fs sl,h.get? e=some ⟨.ref C,some dx,.fields fs,sl⟩
theorem Qyj{w:World}{h:Heap}{e t:Addr}(he:h.get? e=some { exE C t with dict:=some dx }):ObjOk P w H h e (excM e C dx):=⟨⟨t,he⟩,⟨_,he⟩,fun _ _ ⟨t,z⟩ k=>⟨t,k _ z⟩⟩
theorem Qyk{w:World}{h:Heap}{e:Addr}{fs:Array Value}(he:h.get? e=some ⟨.ref C,some dx,.fields fs,sl⟩):ObjOk P w H h e (excD e C dx):=⟨⟨fs,sl,he⟩,⟨_,he⟩,fun _ _ ⟨fs,sl,z⟩ k=>⟨fs,sl,k _ z⟩⟩
theorem Qyl{w:World}{h:Heap}{e t:Addr}(he:h.get? e=some (exE C t)):ObjOk P w H h e (excN e C):=⟨⟨t,he⟩,⟨_,he⟩,fun _ _ ⟨t,z⟩ k=>⟨t,k _ z⟩⟩
section
variable{e:Addr}{n:Str}
theorem Inv.excAt(I:Inv X pins σ H s)(a:H e=some (excN e C)):∃t,s.heap.get? e=some (exE C t):=(I.hok e _ a).1
theorem Inv.fieldX{tk:Nat}{t:Addr}(I:Inv X pins σ H s)(d:H e=some (excN e C))(k:RelV y u)(p:h'.Ns1 s.heap.objs.size (fun z=>if z=n then some u else none))(b:h'.get? e=some { exE C t with dict:=some s.heap.objs.size })(f:∀c o,c≠e->s.heap.get? c=some o->h'.get? c=some o) :
  H s.heap.objs.size=none/\Inv X pins σ (upd (upd H e (excM e C s.heap.objs.size)) s.heap.objs.size (.xd [(n,y)])) { s with heap:=h',toks:=tk }:=by
 have j:Mut (H e):=by rw[d];exact True.intro
 have i:=I.hok.fresh (jK s.heap.objs.size)
 obtain⟨q,m⟩:=I.excAt d
 have l:s.heap.objs.size≠e:=kQf (yK m)
 have a:upd H e (excM e C s.heap.objs.size) s.heap.objs.size=none:=by rw[Qj l];exact i
 refine⟨i,I.un (Un.track (Un.write j (.inl rfl) f ⟨_,b⟩) (yQf (jK _)) a) (HOk.track (I.hok.write j (.inl rfl) f ⟨_,b⟩ (Qyj b)) a ⟨_,p,fun g=>?_⟩)⟩
 show RelO ([(n,y)].lookup g) (if g=n then some u else none)
 by_cases z:g=n
 .subst z
  rw[Y22 rfl,wW,beq_self_eq_true]
  exact k
 .rw[Y20 z,wW,show(g == n)=false from beq_false_of_ne z]
  exact True.intro
end
open PySem.W in
theorem Qym{K:Frag}{h:Heap}{N:Addr}{m:Z9}{n:Str}{v:Value}(X:K.In h)(g:h.Ns N m)(e:nsIn K N n=some (some v)):m n=some v:=by
 obtain⟨o,i,f,c,d,_,b⟩:=g
 unfold nsIn at e
 split at e
 .rename_i q
  have z:=X _ _ q
  rw[c]at z
  cases z
  cases d
  rw[<-b]
  unfold nsFind findBy
  rw[<-Array.find?_toList]
  split at e
  .rename_i a
   rw[a]
   exact Y5 e
  .split at e<;>cases e
 .cases e
structure ErrI(K:Fg)(mg:Z9)(x:Str)(C D f:Addr)(n:Str):Prop where
 bound:mg x=some (.ref C)
 cls:∃a b N x1 x5 x6 x7 x8 x9 y0 y1 y2 y3 y5,K.lookup C=some (excClassObj a b C N x1 (.ref D::vErr) true x5 x6 x7 x8 x9 y0 y1 y2 y3 y5 "ValueError.__new__")/\PySem.W.nsOkIn K N=true/\PySem.W.nsIn K N "__init__"=some (some (.ref f))/\PySem.W.nsIn K N n=some none/\PySem.W.nsIn K N "__setattr__"=some none
 mid:∃c dd cd sl,K.lookup D=some ⟨c,dd,.cls cd,sl⟩/\PySem.W.nsOkIn K cd.ns=true/\PySem.W.nsIn K cd.ns "__init__"=some none/\PySem.W.nsIn K cd.ns n=some none/\PySem.W.nsIn K cd.ns "__setattr__"=some none
 none':typeLookup (.type "ValueError") n=pure none
theorem ErrI.tail{D:Addr}{n:Str}{h:Heap}(F:ErrI K mg x C D f n)(X:K.In h):TailN h ["__init__",n,"__setattr__"] vErr (.ref D::vErr):=by
 obtain⟨c,i,g,j,b,ok,a,e,d⟩:=F.mid
 refine .own (X _ _ b) (.of_isNs (PySem.W.isNs_of_in X ok)) (fun m hm=>?_) .base
 rcases kZ.mp hm with rfl | hm
 .exact PySem.W.nsMap_none_of_in X ok a
 rcases kZ.mp hm with rfl | hm
 .exact PySem.W.nsMap_none_of_in X ok e
 .rw[jW.mp hm];exact PySem.W.nsMap_none_of_in X ok d
section
variable{e D:Addr}{n:Str}
theorem Qir{Q:Unit->Shared->Prop}(F:ErrI X.K X.mg x C D f n)(I:Inv X pins σ H s)(d:H e=some (excN e C))(g:RelV y u)(q:∀s' dx,H dx=none->Inv X pins σ (upd (upd H e (excM e C dx)) dx (.xd [(n,y)])) s'->Q () s'):wpAny (model X.prog X.w) A (setAttr (.ref e) n u) Q E s:=by
 obtain⟨a,b,N,M,G,R,L,T,z,S,B,P,U,V,i,ok,v,m,j⟩:=F.cls
 obtain⟨t,o⟩:=I.excAt d
 have c:=I.kIn
 refine Qgs PySem.F.store_ValueError (c _ _ i) (F.tail c) (.of_isNs (PySem.W.isNs_of_in c ok)) (kQ _ jY) (PySem.W.nsMap_none_of_in c ok m) (kQ _ (kQ _ jY)) (PySem.W.nsMap_none_of_in c ok j) F.none' o fun O tk k r p=>?_
 obtain⟨l,J⟩:=I.fieldX (tk:=tk) d g k r p
 exact q _ _ l J
theorem Qyn{o value:Expr}{ta tv:TE}(F:ErrI X.K X.mg x C D f n)(d:PE X o ta)(j:PE X value tv)(c:swapsWith value (some (.Attribute o n pos')) pos.line X.env=pure false) :
  PS X (.Assign [.Attribute o n pos'] value pos) (fun D' σ H=>tv σ H fun y H1=>ta σ H1 fun z H2=>∃e,z=.ref e/\H2 e=some (excN e C)/\∀dx,H2 dx=none->D'.nx σ (upd (upd H2 e (excM e C dx)) dx (.xd [(n,y)]))):=by
 intro a s σ H D' I h
 refine plainObj_wpAny_Assign_Attribute (thn (j a s σ H _ I h) fun u s1 ⟨y,H1,I1,ry,q⟩=>thn (d a s1 σ H1 _ I1 q) fun k w b=>?_) c
 obtain⟨z,H2,i,l,e,g,p,t⟩:=b
 subst g
 obtain rfl:k=Value.ref e:=l
 exact Qir F i p ry fun v dx m r=>⟨σ,_,r,t dx m⟩
def spXI(C:Addr)(n:Str):Sp:=fun vs H Q _=>∃(e:Addr) (y:V),vs=[.ref e,y]/\H e=some (excN e C)/\∀dx,H dx=none->Q .non (upd (upd H e (excM e C dx)) dx (.xd [(n,y)]))
theorem Qyo{k:Nat}{p:Str}{Q:VP}(F:ErrI X.K X.mg x C D f n)(G:FnOk X.prog X.w X.K X.mg X.base CX0 k f fd ["self",p] (spXI C n))(B:Room (k+1) X.A)(L:Binds X.K fd ["self",p] [])(O:X.K.lookup f=some fo)(R:fo.cls=.type "function")(I:Inv X pins σ H s)(r:RelV y u)
  (h:∀dx s',H dx=none->dx≠s.heap.objs.size+1->Inv X pins σ (upd (upd H (s.heap.objs.size+1) (excM (s.heap.objs.size+1) C dx)) dx (.xd [(n,y)])) s'->Q (.ref (s.heap.objs.size+1)) s'):wpAny (model X.prog X.w) X.A (call (.ref C) [u]) Q X.xe s:=by
 obtain⟨a,b,N,x1,x5,x6,x7,x8,Y,y0,y1,y2,y3,y5,E,ok,m,z2,z3⟩:=F.cls
 have d:=I.kIn
 have i:=I.laid (a:=s.heap.objs.size+1) (o:=excN (s.heap.objs.size+1) C) (h':=exH s.heap C [u]) (t':=s.toks) (fun _ _ z=>Qbv z) (Nat.le_succ _) (Qyl Qpq)
 have l:s.heap.Ns N _:=.of_isNs (PySem.W.isNs_of_in d ok)
 have P:Vals [V.ref (s.heap.objs.size+1),y] [Value.ref (s.heap.objs.size+1),u]:=.cons rfl (.cons r .nil)
 refine Qps PySem.F.excBase_ValueError ((F.tail d).own_tail jY) (d _ _ E) l (Qym d l m) (d _ _ O) R (Z1 1) ?_
 refine wpAny_call (Y49 (G.run _ X.stack _ _ ⟨[Value.ref (s.heap.objs.size+1),u],[]⟩ _ _ (fun v M=>v=.non/\∃dx,H dx=none/\dx≠s.heap.objs.size+1/\M=upd (upd H (s.heap.objs.size+1) (excM (s.heap.objs.size+1) C dx)) dx (.xd [(n,y)])) E0 (B.make C [u] []) (i.env0.make C [u] []) (L _ [Value.ref (s.heap.objs.size+1),u] i.kIn rfl) P ⟨_,_,rfl,Qc,fun dx g=>⟨rfl,dx,?_⟩⟩) fun r s' c=>?_)
 .have j:dx≠s.heap.objs.size+1:=fun z=>by rw[z,Qc]at g;cases g
  rw[Qj j]at g
  exact⟨g,j,by rw[Qdh]⟩
 cases r with
 |error e=>exact c.elim
 |ok fl=>
  cases fl with
  |ret v=>
   obtain⟨v',Z,U,S,T,dx,q,J,rfl⟩:=i.after c
   subst T
   exact⟨S,h dx s' q J U⟩
  |next=>exact False.elim c
  |brk=>exact False.elim c
  |cont=>exact False.elim c
end
theorem Qly{env:Env}{go:Sem Value}{Q:Flow->Shared->Prop}{a b:Str}{N:Addr}{x1 x2:List Value}{x4:Bool}{x5:List Str}{x6:List Value}{x7:Bool}{x8:Option Bool}{x9:Option Addr}{y0 y1 y2 y3 y5:Option Value}{nw:String}(l:x2.contains (.type "BaseException")=true)(j:A.handled=none)
  (h:wpAny M A go (fun v s1=>∃e t dx,v=.ref e/\s1.heap.get? C=some (excClassObj a b C N x1 x2 x4 x5 x6 x7 x8 x9 y0 y1 y2 y3 y5 nw)/\s1.heap.get? e=some { exE C t with dict:=dx }/\E (.ref e) s1) E s):wpAny M A (raiseStmt env (some go) none) Q E s:=by
 have c:(Value.ref C::x2).contains (.type "BaseException")=true:=by rw[kYc,l,Bool.or_true]
 unfold raiseStmt
 refine jQ (Y29 h (fun v s1 z=>?_) fun _ _ z=>z)
 obtain⟨e,t,dx,rfl,f,i,z⟩:=z
 obtain⟨n,g,d,k,m⟩:=s1
 dsimp only at *
 repeat first
  |with_reducible refine Y27 i ?_
  |with_reducible refine Y27 f ?_
  |(with_reducible refine wpAny_isSubtype_exc f ?_;rw[c])
  |wp_step
 exact wpAny_raiseNew_none j z
def rm(H:Hp)(e:Addr):Hp:=fun b=>if b=e then none else H b
theorem Qbw{e:Addr}:rm H e e=none:=Y22 rfl
theorem Qch{e:Addr}(h:b≠e):rm H e b=H b:=Y20 h
section
variable{w:World}{cd:Value}{s₀:Shared}{H₀:Hp}{E:XK}{D f2:Addr}
 {n:Str}
theorem Un.rm{fs:List Addr}{h:Heap}{e:Addr}{φ:Heap->Prop}(u:Un fs [] H₀ H h h')(a:H e=some (.ext φ)):Un fs [] H₀ (L2.rm H e) h h' where
 keep:=u.keep
 slot:=u.slot
 free:=fun b o d z f=>by
  by_cases c:b=e
  .rw[c];exact Qbw
  .rw[Qch c];exact u.free b o d z f
 there:=u.there
 tups:=fun b g z=>by
  have t:=u.tups b g z
  rw[Qch fun c=>by rw[c,a]at t;cases t];exact t
 frzs:=fun b o v z=>by
  have t:=u.frzs b o v z
  rw[Qch fun c=>by rw[c,a]at t;cases t];exact t
 tbls:=fun b ps z=>by
  obtain⟨m,t⟩:=u.tbls b ps z
  exact⟨m,by rw[Qch fun c=>by rw[c,a]at t;cases t];exact t⟩
theorem HOk.rm{h:Heap}{e:Addr}{φ:Heap->Prop}(x:HOk P w H h)(a:H e=some (.ext φ)):HOk P w (L2.rm H e) h:=fun b o z=>by
 have d:b≠e:=fun c=>by rw[c,Qbw]at z;cases z
 rw[Qch d]at z
 exact(x b o z).stay (fun _ _ _ q=>q) (fun c q=>by rw[Qch fun y=>by rw[y,a]at q;cases q];exact q) fun c f q=>by rw[Qch fun y=>by rw[y,a]at q;cases q];exact q
theorem Qyp{e:Addr}(I:Inv (cxG P w C K mg base N qual scope f cd A outer s₀ H₀ E) pins σ H s)(l:s₀.heap.get? e=none)(p:H e=some (excM e C dx))(q:E (.ref C) (some dx) (L2.rm H e)):(cxG P w C K mg base N qual scope f cd A outer s₀ H₀ E).xe (.ref e) s:=by
 obtain⟨t,g⟩:=(I.hok e _ p).1
 show wpAny _ _ (leaving (envOfC qual scope s₀.heap.objs.size f cd) (.ref e)) _ _ _
 have u:s.heap.FunFrames base (envOfC qual scope s₀.heap.objs.size f cd::outer):=I.stack
 have x:∀b∈frs (envOfC qual scope s₀.heap.objs.size f cd::outer),H b=none:=I.stkFree
 have m:(hideAll s.heap (e::frs (envOfC qual scope s₀.heap.objs.size f cd::outer))).StaysIn s.heap:=fun b o z=>of_hideAll _ z
 refine Qew (base:=hideAll s.heap (e::frs (envOfC qual scope s₀.heap.objs.size f cd::outer))) (G:=exG C dx) Qpu I.ok.frames rfl (funFrames_hide u fun d g b a=>kQ _ (xQ.mpr ⟨d,g,a⟩)) g m (hideAll_none _ jY) rfl rfl ⟨rfl,rfl⟩ fun D fl B=>?_
 have h:∀b∈frs outer,b∈frs (envOfC qual scope s₀.heap.objs.size f cd::outer):=fun b a=>xQ.mpr (let ⟨d,g,hf⟩:=xQ.mp a;⟨d,kQ _ g,hf⟩)
 have n:∀b,b∉frs outer->((∃o,s₀.heap.get? b=some o)\/L2.rm H e b≠none)->∃o,(hideAll s.heap (e::frs (envOfC qual scope s₀.heap.objs.size f cd::outer))).get? b=some o:=fun b a z=>by
  rcases z with⟨o,i⟩ | z
  .obtain⟨k,j⟩:=I.base.there b o i (by intro z;cases z)
   refine⟨k,hideAll_get _ j fun y=>?_⟩
   rcases kZ.mp y with y | y
   .rw[y,l]at i;cases i
   .exact Qiq I i a y
  .have v:b≠e:=fun c=>z (by rw[c];exact Qbw)
   rw[Qch v]at z
   cases r:H b with
   |none=>exact Y21 r z
   |some ob=>
    obtain⟨k,j⟩:=(I.hok b ob r).ex
    refine⟨k,hideAll_get _ j fun y=>?_⟩
    rcases kZ.mp y with y | y
    .exact v y
    .exact z (x b y)
 refine⟨e,dx,L2.rm H e,_,rfl,q,I.os,I.bare,Qrx (Un.rm I.base p) n m fl.1 B fun b a=>Yj u b (h b a),Qjq (HOk.rm I.hok p) n m fl.1 fun b a=>?_,n,fl⟩
 by_cases c:b=e
 .rw[c];exact Qbw
 .rw[Qch c];exact x b (h b a)
theorem Km{k:Nat}{p:Str}{np:Pos}{a:Expr}(F:ErrI K mg x C D f2 n)(G:FnOk P w K mg base CX0 k f2 fd ["self",p] (spXI C n))(X:Binds K fd ["self",p] [])(hf:K.lookup f2=some fo)(U:fo.cls=.type "function")(R:keepIn K (.ref C)=true)
  (O:Room (k+1) (A.deeper (envOfC qual scope s₀.heap.objs.size f cd))) (ha:PA (cxG P w C K mg base N qual scope f cd A outer s₀ H₀ E) [a] ta) (hg:autoParam (Gl (cxG P w C K mg base N qual scope f cd A outer s₀ H₀ E) x) J1._auto_1) (hd:autoParam ((x == ("__debug__":Str))=false) J2._auto_1)
  (he:autoParam (starEach [a] (envOfC qual scope s₀.heap.objs.size f cd)=(false,eval a (envOfC qual scope s₀.heap.objs.size f cd))::starEach [] (envOfC qual scope s₀.heap.objs.size f cd)) J1._auto_1) :
  PS (cxG P w C K mg base N qual scope f cd A outer s₀ H₀ E) (.Raise (some (.Call (.Name x np) [a] [] cpos)) none pos) (fun _ σ H=>ta σ H fun vs H1=>∃y,vs=[y]/\∀dx,H1 dx=none->E (.ref C) (some dx) (upd H1 dx (.xd [(n,y)]))):=by
 intro d s σ H D' I h
 obtain⟨B,c2,L,j,Z,c5,V,c7,c8,W,d1,S,T,Y,Q,ok,z1,z2,z3⟩:=F.cls
 rw[arm_exec_Raise]
 refine jQ (Y62 (Qly (C:=C) (a:=B) (b:=c2) (N:=L) (x1:=j) (x2:=.ref D::vErr) (x4:=true) (x5:=Z) (x6:=c5) (x7:=V) (x8:=c7) (x9:=c8) (y0:=W) (y1:=d1) (y2:=S) (y3:=T) (y5:=Y) (nw:="ValueError.__new__") (by rw[kYc];exact Bool.or_eq_true_iff.mpr (.inr Dk)) (I.ok.hd rfl) (jQ (Y29 (Y41 (Vz I hg F.bound ?_ hd)) (fun v s3 z=>jQ (Y62 (jV z))) fun _ _ z=>z))))
 refine callWith_K (h₀:=base) I.ok.mod.kin R (thn (ha cpos d s σ H _ I h) fun us s1 ⟨vs,H1,I1,r,y,ey,q⟩=>⟨I1.kIn,?_⟩) he rfl
 subst ey
 cases r with
 |cons r0 rr=>
  cases rr
  have big:s₀.heap.objs.size<=s1.heap.objs.size+1:=by
   obtain⟨m,⟨o,_,_,u,_⟩,_⟩:=I1.loc
   exact Nat.le_of_lt (jKb (yK u))
  refine Qyo F G O X hf U I1 r0 fun dx s' M g J=>?_
  have i:upd (upd H1 (s1.heap.objs.size+1) (excM (s1.heap.objs.size+1) C dx)) dx (.xd [(n,y)]) (s1.heap.objs.size+1)=some (excM (s1.heap.objs.size+1) C dx):=by rw[Qj (Ne.symm g)];exact Qc
  obtain⟨t,l⟩:=(J.hok _ _ i).1
  refine⟨_,t,some dx,rfl,J.kIn _ _ Q,l,Qyp J (yQf big) i ?_⟩
  have eq:L2.rm (upd (upd H1 (s1.heap.objs.size+1) (excM (s1.heap.objs.size+1) C dx)) dx (.xd [(n,y)])) (s1.heap.objs.size+1)=upd H1 dx (.xd [(n,y)]):=by
   funext b
   by_cases c:b=s1.heap.objs.size+1
   .rw[c,Qbw,Qj (Ne.symm g)]
    exact(I1.hok.fresh (Nat.le_succ _)).symm
   .rw[Qch c]
    by_cases e:b=dx
    .rw[e,Qc,Qc]
    .rw[Qj e,Qj e,Qj c]
  rw[eq]
  exact q dx M
end
section
variable{k:Nat}{D:Addr}{ps:List Str}{g n c:Str}{p np pc pn epos hpos:Pos}{a:Expr}{t:TA}
theorem Qpv(ay:X.xe=fun _ _=>False)(af:X.stack=X.env::X.outer)(aA:X.env.frame=some X.env.locals)(F:FnOk X.prog X.w X.K X.mg X.base (CXg X.prog X.w C) k f fd ps sp)(hr:Room k X.A)(hm:X.mg g=some (.ref f))(hk:PySem.W.keepIn X.K (.ref f)=true)(hb:Binds X.K fd ps [])
  (ao:X.mg x=some (.ref D)) (ar:IsA X.K C D) (hN:X.N.Nodup) (ha:PA X (a::es) t) (hi:X.N[i]?=some c) (hj:X.N[j]?=some n) (aE:i≠j) (ac:X.env.scope.names.lookup c=some .local) (m:X.env.scope.names.lookup n=some .local)
  (hg:autoParam (Gl X g) J1._auto_1) (aj:autoParam (Gl X x) J1._auto_1) (an:autoParam ((g == ("__debug__":Str))=false) J2._auto_1) (ak:autoParam ((x == ("__debug__":Str))=false) J2._auto_1) (ap:autoParam ((n == ("__debug__":Str))=false) J2._auto_1) (av:autoParam ((n == ("__classdict__":Str))=false) J2._auto_1)
  (he:autoParam (starEach (a::es) X.env=(false,eval a X.env)::starEach es X.env) J1._auto_1) (au:autoParam ((backTo cpos (starEach es X.env)).any (·.1)=false) J1._auto_1) (hs:autoParam (swapsWith (.Call (.Name g p) (a::es) [] cpos) none epos.line X.env=pure false) J1._auto_1) :
  PS X (.Try [.Expr (.Call (.Name g p) (a::es) [] cpos) epos] [.ExceptHandler (some (.Name x np)) (some n) [.Assign [.Name c pc] (.Name n pn) apos] hpos] [] [] pos)
   (fun D σ H=>t σ H fun vs H1=>sp vs H1 (fun _ H2=>D.nx σ H2) (fun _ od H2=>∀e dx,od=some dx->H2 e=none->D.nx (((σ.set j (some (.ref e))).set i (some (.ref e))).set j none) (upd H2 e (excD e C dx)))):=by
 intro d s σ H Ds I h
 refine wpAny_Try_except (wpAny_execs_cons (wpAny_Expr_any ?_ I.quiet hs))
 refine Y41 (Vz I hg hm ?_ an)
 refine PySem.W.callWith_K (h₀:=X.base) I.ok.mod.kin hk (Y29 (ha cpos d s σ H _ I h) (fun us s1 ⟨vs,H1,I1,r,q⟩=>⟨I1.kIn,?_⟩) fun ev s1 z=>by rw[ay]at z;exact z.elim) he au
 have hl:us.length=ps.length:=by rw[<-r.length];exact F.len _ _ _ _ q
 have bd:=hb s1 us I1.kIn (by rw[xX];exact hl)
 rw[xX]at bd
 refine wpAny_call (Y49 (F.run X.A X.stack s1 H1 ⟨us,[]⟩ us vs _ _ hr I1.env0 bd r q) fun rr s' U=>?_)
 cases rr with
 |ok fl=>
  cases fl with
  |ret u=>
   obtain⟨v,L,I',r',q'⟩:=I1.after U
   exact Y66 (Y66 ⟨σ,L,I',q'⟩)
  |next=>exact False.elim U
  |brk=>exact False.elim U
  |cont=>exact False.elim U
 |error ev=>
  obtain⟨e,dx,L,B,rfl,q,os,M,un,ab,R,fl⟩:=U
  have az:=Yj I1.stack
  have Q:∀b∈frs X.stack,L b=none:=fun b hb=>by
   obtain⟨o1,e1,_⟩:=az b hb
   exact un.free b o1 e1 (I1.stkFree b hb) (by intro z;cases z)
  have J:∀h2:Heap,B.StaysIn h2->s'.heap.UpToSlots h2->Inv X d σ L { s' with heap:=h2 }:=fun h2 b2 up=>
   I1.call' (ch:=[]) os (Qrx un R fl.1 b2 up (Yj fl.2.2.1)) (Qjq ab R fl.1 b2 Q) M (fun b z=>Y21 z (by simp))
  have l:FlyG B (X.env::X.outer) e (exG C dx) s'.heap:=af▸fl
  have ax:X.A.frames=some (X.env::X.outer):=af▸I.ok.frames
  refine Qdd Qpu ax l.2.2.1 aA l.2.2.2 l.1 l.2.1 fun h4 k1 k2 k3 ag=>?_
  refine Qev k1 k2 k3 fun h5 j1 j2 j3 ae=>?_
  have E:FlyG B (X.env::X.outer) e (exG C dx) h5:=⟨j1,l.2.1,j2,j3⟩
  have I5:=J h5 E.1 (ag.trans ae)
  refine wpAny_handleBy_cons (codeAny_handlers_test (Vz (I5.suite e) aj ao ?_ ak)) (by intro z;cases z)
  obtain⟨ob,_,hob,⟨ad,_⟩,_⟩:=E.there
  refine ar _ _ _ { s' with heap:=h5 } e ob _ I5.kIn hob ad (codeAny_handlers_suite_as ?_)
  refine Qev E.1 E.2.2.1 E.2.2.2 fun h6 i1 i2 i3 aD=>?_
  have O:FlyG B (X.env::X.outer) e (exG C dx) h6:=⟨i1,l.2.1,i2,i3⟩
  have ah:B.get? e=none:=fl.2.1
  have Z:s1.heap.get? e=none:=by
   cases Y:s1.heap.get? e with
   |none=>rfl
   |some o=>
    exfalso
    by_cases hf:e∈frs X.stack
    .obtain⟨o1,e1,nf⟩:=Yj fl.2.2.1 e hf
     obtain⟨oe,ws,aa,_,am⟩:=fl.there
     rw[e1]at aa
     cases aa
     exact nf _ am
    .obtain⟨o2,S⟩:=R e hf (.inl ⟨o,Y⟩)
     rw[ah]at S
     cases S
  have y:L e=none:=by
   cases Y:L e with
   |none=>rfl
   |some o=>
    exfalso
    obtain⟨o2,S⟩:=R e (fun z=>by rw[Q e z]at Y;cases Y) (.inr (by rw[Y];simp))
    rw[ah]at S
    cases S
  have I6:Inv X d σ (upd L e (excD e C dx)) { s' with heap:=h6 }:=I1.call' (ch:=[]) os (Un.track (Qrx un R fl.1 O.1 ((ag.trans ae).trans aD) (Yj fl.2.2.1)) Z y)
   (HOk.track (Qjq ab R fl.1 O.1 Q) y (by
    obtain⟨aB,aG,g1,⟨g2,g3⟩,g4⟩:=O.there
    obtain⟨p1,p2,p3,p4⟩:=aB
    dsimp only at g2 g3 g4
    subst g2 g3 g4
    exact Qyk g1)) M (fun b z=>Y21 z (by simp))
  have G:j<σ.length:=by rw[I.len];exact(kX.mp hj).1
  refine Vf I6 hN hj (.inl m) (v:=.ref e) rfl (fun s7 aq=>?_) (.inr m)
  have I7:=aq.suite e
  have P:=Qi (Qo (X:=X.suite e) (i:=i) (pos:=apos) (pos':=pc) hN hi (.inl ac) (Quk (pos:=pn) hj (.inl m) ap av) rfl (.inr ac))
  refine Y29 (P d s7 _ _ { nx:=fun ai H2=>ai=(σ.set j (some (.ref e))).set i (some (.ref e))/\H2=upd L e (excD e C dx),rt:=fun _ _=>False } I7 ⟨.ref e,by rw[jKe G],rfl,rfl⟩) (fun al s8 h8=>?_) (fun _ _ z=>z.elim)
  cases al with
  |ret u=>obtain⟨_,_,_,_,_,z⟩:=h8;exact z.elim
  |brk=>obtain⟨_,_,_,z⟩:=h8;exact z.elim
  |cont=>obtain⟨_,_,_,z⟩:=h8;exact z.elim
  |next=>
   obtain⟨aH,H8,I8,rfl,rfl⟩:=h8
   have aw:=I8.unsuite I.ok
   show wpAny _ _ (bindName X.env n Value.none >>= fun _=>unbindBehindTheSuite X.env n hpos) _ _ _
   refine jQ ?_
   unfold bindName
   refine jQ (Y30 (wpAny_point ?_))
   refine jQ (Vf aw hN hj (.inl m) (v:=.non) rfl (fun s9 I9=>wpAny_point ?_) (.inr m))
   unfold unbindBehindTheSuite
   have aC:j<(((σ.set j (some (.ref e))).set i (some (.ref e))).set j (some V.non)).length:=by simp;exact G
   refine wpAny_onRaise (Qnx I9 hN hj m (v:=.non) (by rw[jKe (by simp;exact G)]) fun aF T=>?_)
   rw[List.set_set]at T
   exact⟨_,_,T,q e dx rfl y⟩
end
theorem Qpw:Zy X (.builtin "isinstance") (fun xs H Q=>∃(e C dx:Addr),H e=some (excD e C dx)/\ExcIn X.K C/\((∃D b,xs=[.ref e,.ref D]/\kitOne X.K (.ref C) (.ref D)=some b/\Q (.bl b) H)\/(∃T b,xs=[.ref e,.ty T]/\kitOne X.K (.ref C) (.type T)=some b/\Q (.bl b) H) \/
  ∃(p:Addr) (Ds:List Addr) (b:Bool),xs=[.ref e,.ref p]/\H p=some (.tup (Ds.map V.ref))/\kitAny X.K (.ref C) (Ds.map Value.ref)=some b/\Q (.bl b) H)):=by
 intro l s L H xs M Q I i h
 obtain⟨e,C,dx,m,Z,h⟩:=h
 have j:∃o,s.heap.get? e=some o/\o.cls=.ref C:=(let ⟨fs,J,z⟩:=(I.hok e _ m).1;⟨_,z,rfl⟩)
 rcases h with⟨D,b,rfl,d,q⟩ | ⟨T,b,rfl,d,q⟩ | ⟨p,Ds,b,rfl,G,d,q⟩
 .obtain⟨u,v,rfl,a,c⟩:=i.two
  cases a
  cases c
  exact kia_one (Qea Z) I.kIn j d (fun z=>nomatch z) fun f=>⟨.bl b,H,I.tok f,rfl,q⟩
 .obtain⟨u,v,rfl,a,c⟩:=i.two
  cases a
  cases c
  exact kia_one (Qea Z) I.kIn j d (fun z=>nomatch z) fun f=>⟨.bl b,H,I.tok f,rfl,q⟩
 .obtain⟨u,v,rfl,a,c⟩:=i.two
  cases a
  cases c
  obtain⟨_,A,r,E,x,k,g⟩:=(show ObjOk X.prog X.w H s.heap p (.tup (Ds.map V.ref))from I.hok p _ G)
  have B:=Qny r
  subst B
  obtain⟨n,g⟩:=g
  obtain⟨y,F,t,J⟩:=E
  simp only at k g
  subst k g
  exact kia_tup (Qea Z) I.kIn j x d (fun z=>nomatch z) fun f=>⟨.bl b,H,I.tok f,rfl,q⟩
def tFldD(K:Fg)(ta:TE)(n:Str):TE:=fun σ H Q=>ta σ H fun z H1=>∃(e C dx:Addr) (fs:List (Str×V)) (v:V),z=.ref e/\H1 e=some (excD e C dx)/\H1 dx=some (.xd fs)/\ExcFld K C n/\fs.lookup n=some v/\Q v H1
theorem Qyq{o:Expr}{n:Str}{ta:TE}(m:PE X o ta)(B:attributeBase o n X.env (eval o X.env)=eval o X.env):PE X (.Attribute o n pos) (tFldD X.K ta n):=by
 intro a s p H Q I h
 refine Qmt B (thn (m a s p H _ I h) fun u F c=>?_)
 obtain⟨z,g,b,A,e,C,f,fs,v,i,E,t,Z,l,q⟩:=c
 subst i
 obtain rfl:u=Value.ref e:=A
 obtain⟨y,J,j⟩:=(b.hok e _ E).1
 obtain⟨k,D,r⟩:=(show ObjOk X.prog X.w g F.heap f (.xd fs)from b.hok f _ t)
 obtain⟨G,x,d⟩:=RelO.some_of (v:=v) (o:=k n) (by rw[<-l];exact r n)
 exact Qyh b.kIn Z j D.ns x (handedOut_of (Qfg d)) ⟨v,g,b.tok _,d,q⟩
section
variable{w:World}{cd:Value}{s₀:Shared}{H₀:Hp}{E:XK}
theorem Fun.okG{ps:List Str}{k:Nat}(F:Fun K x qual st f fd)(S:FnScope N ps (Qh st))(d:∀vs H Q E,sp vs H Q E->vs.length=ps.length)
  (a:∀(cdv:Value) (A:Around) (outer:List Env) (s:Shared) (H:Hp) (vs:List V) (Q:VK) (E:XK),Room k (A.deeper (envOfC qual (Qh st) s.heap.objs.size f cdv))->sp vs H Q E ->
   ∃t,PSs (cxG P w C K mg base N qual (Qh st) f cdv A outer s H E) (Qw st) t/\t { nx:=fun _ H'=>Q .non H',rt:=Q } (start N vs) H):FnOk P w K mg base (CXg P w C) (k+1) f fd ps sp:=by
 obtain⟨n,j,kV,i,o,m,cdv,l,h,rfl,g,b⟩:=F.ex
 exact fn_of g b S d fun A outer s H vs Q E e c=>a cdv A outer s H vs Q E e c
structure CalG(P:Program)(w:World)(K:Fg)(mg:Z9)(base:Heap)(C:Addr)(k:Nat)(x:Str)(ps:List Str)(sp:Sp):Prop where
 ex:∃f fd,FnOk P w K mg base (CXg P w C) k f fd ps sp/\mg x=some (.ref f)/\PySem.W.keepIn K (.ref f)=true/\Binds K fd ps []
theorem CalG.calm{k:Nat}{ps:List Str}(c:CalG P w K mg base C k x ps sp):Cal P w K mg base k x ps (fun vs H Q _=>sp vs H Q fun _ _ _=>False):=by
 obtain⟨f,l,F,m,p,b⟩:=c.ex
 refine⟨f,l,⟨fun vs H Q E h=>F.len vs H Q _ h,fun A a s H d q vs Q E n i j o h=>Y49 (F.run A a s H d q vs Q _ n i j o h) fun r t g=>?_⟩,m,p,b⟩
 cases r with
 |ok fl=>
  cases fl with
  |ret u=>exact g
  |next=>exact False.elim g
  |brk=>exact False.elim g
  |cont=>exact False.elim g
 |error e=>obtain⟨_,_,_,_,_,z,_⟩:=g;exact z.elim
theorem Qpx{k:Nat}{ps:List Str}(F:Fn K mg x st)(S:FnScope N ps (Qh st))
  (c:∀(kV doc pm:Value) (an:Option Addr) (cdv ct:Value) (us:List Value),us.length=ps.length->bindArgs (PySem.W.fnOf x x (Qy st) (Qw st) (Qh st) .none kV doc pm an cdv ct) ⟨us,[]⟩=pure (ps.zip us)) (b:∀vs H Q E,sp vs H Q E->vs.length=ps.length)
  (a:∀(f:Addr) (cdv:Value) (A:Around) (outer:List Env) (s:Shared) (H:Hp) (vs:List V) (Q:VK) (E:XK),Room k (A.deeper (envOfC x (Qh st) s.heap.objs.size f cdv))->sp vs H Q E ->
   ∃t,PSs (cxG P w C K mg base N x (Qh st) f cdv A outer s H E) (Qw st) t/\t { nx:=fun _ H'=>Q .non H',rt:=Q } (start N vs) H):CalG P w K mg base C (k+1) x ps sp:=by
 obtain⟨f,d,F,m⟩:=F
 exact⟨f,d,Fun.okG F S b fun cdv=>a f cdv,m,F.kp,F.binds c⟩
theorem pe_fnG{k:Nat}{ps:List Str}{t:TA}{p:Pos}(c:CalG P w K mg base C k x ps sp)(g:Room k (A.deeper (envOfC qual scope s₀.heap.objs.size f cd)))(h:PA (cxG P w C K mg base N qual scope f cd A outer s₀ H₀ E) (e::es) t)
  (j:autoParam (Gl (cxG P w C K mg base N qual scope f cd A outer s₀ H₀ E) x) J1._auto_1) (d:autoParam ((x == ("__debug__":Str))=false) J2._auto_1) (he:autoParam (starEach (e::es) (cxG P w C K mg base N qual scope f cd A outer s₀ H₀ E).env=(false,eval e (cxG P w C K mg base N qual scope f cd A outer s₀ H₀ E).env)::starEach es (cxG P w C K mg base N qual scope f cd A outer s₀ H₀ E).env) J1._auto_1)
  (a:autoParam ((backTo pos (starEach es (cxG P w C K mg base N qual scope f cd A outer s₀ H₀ E).env)).any (·.1)=false) J1._auto_1):PE (cxG P w C K mg base N qual scope f cd A outer s₀ H₀ E) (.Call (.Name x p) (e::es) [] pos) (Qvu sp [] E t):=by
 obtain⟨l,n,F,m,i,b⟩:=c.ex
 exact Qmv F g j m i b .nil Qyi h d he a
end
end L2
namespace Nb
open PySem L2
abbrev sIBR:Stmt:=top 25
abbrev sNPI:Stmt:=inClass (top 3) 0
def RE(C:Addr)(H:Hp)(z:Int)(E:XK):Prop:=∀dx H',Same H H'->H' dx=some (.xd [("row",.int z)])->E (.ref C) (some dx) H'
theorem RE.same{E:XK}(h:RE C H z E)(s:Same H H'):RE C H' z E:=fun a c b e=>h a c (s.trans b) e
theorem RE.raise{E:XK}(h:RE C H z E)(s:Same H H1):∀dx,H1 dx=none->E (.ref C) (some dx) (upd H1 dx (.xd [("row",.int z)])):=fun dx a=>h dx _ (s.trans (Qd a _)) Qc
structure NPk(P:Program)(w:World)(K:Fg)(mg:Z9)(base:Heap)(C D f:Addr)(fd:FuncData)(fo:Obj):Prop where
 ei:ErrI K mg "NoPicture" C D f "row"
 gi:FnOk P w K mg base CX0 1 f fd ["self","row"] (spXI C "row")
 bi:Binds K fd ["self","row"] []
 lk:K.lookup f=some fo
 fc:fo.cls=.type "function"
 kc:PySem.W.keepIn K (.ref C)=true
def IsBR(n:Int)(bn row:Str):Prop:=∃fg:List Nat,sg row=padL bn++fg/\fg.length=2*n.toNat/\∀c∈fg,48<=c/\c<=57
theorem Qtw{bn row:Str}(f:bn.length<=12):IsBR n bn row↔(sg row).take 13=padL bn/\((sg row).drop 13).length=2*n.toNat/\∀c∈(sg row).drop 13,48<=c/\c<=57:=by
 have a:=Zp f
 constructor
 .rintro⟨h,e,d,b⟩
  rw[e,yQb a,List.drop_left' a]
  exact⟨rfl,d,b⟩
 .rintro⟨g,d,b⟩
  exact⟨(sg row).drop 13,by rw[<-g,yQd],d,b⟩
def Pln(x:Str):Prop:=x.cps.all (· < 128)=true/\x.length<=100000
def Qvj(K:Fg)(C:Addr):Sp:=fun vs H Q _=>∃(p:Addr) (n:Int) (B:List BR) (bn row:Str),vs=[.ref p,.str bn,.str row]/\FcAt K C H p n B/\BookOk n B/\bn.length<=12/\Pln row/\∀(c:Bool) (H':Hp),Same H H'->(c=true↔IsBR n bn row)->Q (.bl c) H'
theorem pln_iff:(x.cps.all (· < 128)=true)↔∀c∈sg x,c<128:=by
 rw[<-Array.all_toList,jXa]
 exact⟨fun h c a=>kK (h c a),fun h c a=>yJ (h c a)⟩
theorem nd_t{P:Prop}[Decidable P](h:(!decide P)=true):¬P:=by simpa using h
theorem nd_f{P:Prop}[Decidable P](h:¬(!decide P)=true):P:=by simpa using h
theorem Qlz{fg:List Nat}:((fg.map fun c=>decide (48<=c)&&decide (c<=57)).all id=true)↔∀c∈fg,48<=c/\c<=57:=by
 rw[List.all_map,jXa]
 refine forall_congr' fun c=>forall_congr' fun _=>?_
 show((decide (48<=c)&&decide (c<=57))=true)↔_
 rw[wV,decide_eq_true_iff,decide_eq_true_iff]
section
variable{w:World}
theorem scNPI:FnScope ["self","row"] ["self","row"] (Qh sNPI):=Sc
theorem okNPI{D:Addr}(F:Fun K "__init__" "NoPicture.__init__" sNPI f fd)(d:ErrI K mg "NoPicture" C D f "row"):FnOk P w K mg base CX0 1 f fd ["self","row"] (spXI C "row"):=by
 refine F.ok scNPI (fun c H Q E h=>?_) (fun g A a s H c Q E i h=>?_)
 .obtain⟨e,y,rfl,_⟩:=h
  rfl
 obtain⟨e,y,rfl,b,q⟩:=h
 refine⟨_,(Qi (Qyn d (pv 0) (pv 1) rfl)),?_⟩
 exact⟨_,rfl,_,rfl,e,rfl,b,q⟩
theorem scIBR:FnScope ["facts","bench","row","figures"] ["facts","bench","row"] (Qh sIBR):=Sc
theorem okIBR(m:mg "WIDTH"=some (.int 13 tW))(T:FcTxt K mg C)(F:Fn K mg "is_bench_row" sIBR)(M:Mg mg):Cal P w K mg base 2 "is_bench_row" ["facts","bench","row"] (Qvj K C):=by
 refine Xt F scIBR (fun _ _ _ _ _ _=>Ww (fun _ _ _=>rfl)) (fun X H Q E h=>?_) (fun f Y A u s H X Q E hr h=>?_)
 .obtain⟨p,n,B,d,a,rfl,_⟩:=h
  rfl
 obtain⟨p,n,B,d,a,rfl,z,bk,b,⟨l,ab⟩,q⟩:=h
 refine⟨_,(Qg (Z4 3 scIBR.nd (Xi Qer (pv 2) (Xn (Kt (v:=.int 13) rfl m ⟨_,rfl⟩)) Yi))
  (Qg (Xy (PW.pt (Wa (Qm Qdl (Xi Qer (pv 2) Yi (Xn (Kt (v:=.int 13) rfl m ⟨_,rfl⟩))) (Zh Y4 PySem.F.slot_str_ljust PySem.F.type_str_ljust Qeq (pv 1) (Qa (Kt (v:=.int 13) rfl m ⟨_,rfl⟩) Qf)) (Qs _)) (Vh (Qm Qdl (Qt Qfn rfl M.len Ys (Qa (pv 3) Qf)) (Ql Jg Qe (Yn (pv 0) rfl)) (Qs _))))) (Qi (Xb Qhi)) Xa)
  (Qi (Xb (Qt (Qnh rfl) rfl M.all bt_all (Qa (Yu ["sign"] [none] rfl (pi_str (pv 3)) (fun _ _ _=>(Z3 0 Z2)) (fun _ _ _=>Yr) (fun _ _ _=>(Qdo Qgl Qgl Qq (pv 0) Qq))) Qf)))))),?_⟩
 refine Qeb ?_
 intro N S
 obtain⟨U,lw,lb,Z,ls,la,ds,fs,aa,yh,ac,ya,G⟩:=id z
 have hz:=X0 2000000
 have n1:=bk.n1
 have W:=bk.n12
 have q:∀(c:Bool) (j:Hp),Same H j->(c=true↔(sg a).take 13=padL d/\((sg a).drop 13).length=2*n.toNat/\∀c∈(sg a).drop 13,48<=c/\c<=57)->Q (.bl c) j:=fun c j s' h=>q c j s' (h.trans (Qtw b).symm)
 have g:sg (StrLaws.sliceText a (some 13) none)=(sg a).drop 13:=Qyf a 13
 have t:sg (StrLaws.sliceText a none (some 13))=(sg a).take 13:=sg_to a 13
 have lf:(StrLaws.sliceText a (some 13) none).length<=a.length:=by rw[<-Ya,g,jJd,Ya];lia
 have Z:(StrLaws.sliceText a none (some 13)).length<=a.length:=by rw[<-Ya,t,xJ,Ya];lia
 have I:(StrLaws.sliceText a (some 13) none).length=((sg a).drop 13).length:=by rw[<-Ya,g]
 have lp:(Txt.ljust d 13).length=13:=by rw[<-Ya,Qbt b,Zp b]
 refine⟨_,rfl,_,rfl,a,rfl,Om,?_⟩
 generalize StrLaws.sliceText a (some 13) none=fg at g lf I⊢
 refine⟨_,rfl,_,rfl,a,rfl,Om,_,rfl,rfl,d,13,rfl,rfl,Dk,rfl,_,rfl,ite2 (fun c=>?_) (fun c=>?_)⟩
 .refine iteT (q false H (Same.refl _) ⟨fun h=>(nomatch h),fun h=>?_⟩)
  have e:StrLaws.sliceText a none (some 13)=Txt.ljust d 13:=Kl (by rw[t,Qbt b];exact h.1)
  rw[e]at c
  exact Y21 rfl (nd_t c)
 have r:(sg a).take 13=padL d:=by
  rw[<-t,<-Qbt b,V.str.inj (nd_f c)]
 refine⟨_,rfl,fg,rfl,Om,_,rfl,p,C,U,fs,_,rfl,G.hp,T.cl,T.nD,G.fD,_,_,rfl,rfl,mulC _ _ Dc Dc,rfl,_,rfl,ite2 (fun x=>?_) (fun x=>?_)⟩
 .refine q false H (Same.refl _) ⟨fun h=>(nomatch h),fun h=>?_⟩
  refine Y21 ?_ (nd_t x)
  show V.int ((fg.length:Nat):Int)=V.int (2*n)
  rw[I,h.2.1]
  congr 1
  lia
 .have R:((sg a).drop 13).length=2*n.toNat:=by
   have e3:V.int ((fg.length:Nat):Int)=V.int (2*n):=nd_f x
   have e4:=V.int.inj e3
   lia
  have y:fg.cps.all (· < 128)=true:=pln_iff.mpr fun c L=>pln_iff.mp l c (List.mem_of_mem_drop (by rw[<-g];exact L))
  refine⟨_,rfl,fg,rfl,y,fun D hD=>?_⟩
  refine Jw V.bl (fun c=>decide (48<=c)&&decide (c<=57)) rfl Qts (by rw[jQf];show fg.length<_;lia) hD (fun c L k J P h=>?_) fun k J O=>?_
  .refine⟨_,rfl,_,_,rfl,rfl,_,rfl,?_⟩
   rw[show(!decide ((⟨#[c]⟩:Str).cps.toList<("0":Str).cps.toList))=decide (48<=c)from le1 48 c]
   refine ite2 (fun o=>⟨_,_,rfl,rfl,?_⟩) (fun o=>?_)
   .dsimp only
    rw[show(!decide (("9":Str).cps.toList<(⟨#[c]⟩:Str).cps.toList))=decide (c<=57)from le1 c 57]
    have i:=h k (Same.refl _)
    rw[o,Bool.true_and]at i
    exact i
   .have i:=h k (Same.refl _)
    rw[Bool.eq_false_iff.mpr o,Bool.false_and]at i
    exact i
  .refine⟨D,_,rfl,Qb O,q _ k J ?_⟩
   rw[Qlz]
   have e5:fg.cps.toList=(sg a).drop 13:=g
   rw[e5]
   exact⟨fun h=>⟨r,R,h⟩,fun h=>h.2.2⟩
end
end Nb
namespace L2
open PySem PySem.Spec PySem.Calls PyProof.Rows PySem.W
end L2
namespace Nb
open PySem L2
abbrev sChS:Stmt:=top 26
theorem Qkj{l:List Nat}(h:∀c∈l,c≠32)(r:List Nat):(l++32::r).takeWhile (fun c=>decide (c≠32))=l:=by
 induction l with
 |nil=>rfl
 |cons c l ih=>
  rw[List.cons_append,List.takeWhile_cons,Y22 (yJ (h c jY)),ih fun x a=>h x (kQ _ a)]
theorem Qvk(h:NmOk x):∃r,padL x=sg x++32::r:=by
 refine⟨List.replicate (12-x.length) 32,?_⟩
 unfold padL
 rw[show 13-x.length=(12-x.length)+1 by have:=h.2.1;lia,yXe]
theorem Qyr{y:Str}(a:NmOk x)(d:NmOk y)(h:padL x=padL y):x=y:=by
 obtain⟨r,g⟩:=Qvk a
 obtain⟨j,f⟩:=Qvk d
 have b:∀{z:Str},NmOk z->∀c∈sg z,c≠32:=fun e c i=>by have:=e.2.2 c i;lia
 rw[g,f]at h
 have:=congrArg (List.takeWhile (fun c=>decide (c≠32))) h
 rw[Qkj (b a),Qkj (b d)]at this
 exact Kl this
theorem Qys{w':Str}{b e:Int}(d:NmOk w)(a:NmOk w')(h:wrL n w v b e=wrL n w' v' b' e'):w=w':=by
 refine Qyr d a ?_
 have c:=congrArg (List.take 13) h
 unfold wrL at c
 rw[zJ,zJ,yQb (Zp d.2.1),yQb (Zp a.2.1)]at c
 exact c
theorem Qpy{b e:Int}(r:0<=b)(o:b<e)(k:e<=n)(m:0<=b')(j:b'<e')(i:e'<=n)(h:sgnL n b e=sgnL n b' e'):b=b':=by
 have f:∀d:Nat,d<n.toNat->((b<=(d:Int)/\(d:Int)<e)↔(b'<=(d:Int)/\(d:Int)<e')):=fun d p=>by
  have a:=congrArg (fun l:List Nat=>l[d]?) h
  unfold sgnL at a
  simp only[yW,List.getElem?_range p,kYa]at a
  by_cases g:b<=(d:Int)/\(d:Int)<e
  .by_cases c:b'<=(d:Int)/\(d:Int)<e'
   .exact⟨fun _=>c,fun _=>g⟩
   .rw[Y22 g,Y20 c]at a;exact Y21 (Y5 a) Dc
  .by_cases c:b'<=(d:Int)/\(d:Int)<e'
   .rw[Y20 g,Y22 c]at a;exact Y21 (Y5 a) Dc
   .exact⟨fun z=>Y21 z g,fun z=>Y21 z c⟩
 have a:=(f b.toNat Om).mp ⟨Om,Om⟩
 have q:=(f b'.toNat Om).mpr ⟨Om,Om⟩
 lia
theorem Qyt{b e:Int}(d:w.length<=12)(h:wrL n w v b e=wrL n w v' b' e'):sgnL n b e=sgnL n b' e'/\v=v':=by
 unfold wrL at h
 rw[zJ,zJ]at h
 have c:=List.append_cancel_left h
 have a:=List.append_inj c (by rw[Vw,Vw])
 refine⟨a.1,Kl ?_⟩
 injection a.2
def ChOk(n:Int)(B:List BR)(c:Ch):Prop:=∃l k,BR.way c.1 c.2.1 l k∈B/\0<=c.2.2/\c.2.2+l<=n
theorem Qpz(bk:BookOk n B){c:Ch}:c∈chs n B↔ChOk n B c:=by
 refine⟨fun h=>Qxp h,fun a=>?_⟩
 obtain⟨l,k,b,d,e⟩:=a
 refine jJe.mpr ⟨c.1,wks_mem.mpr (bk.wb.ref _ b c.1 jY),jJe.mpr ⟨(c.2.1,l,k),xQ.mpr ⟨_,b,wayR_some.mpr rfl⟩,zV.mpr ⟨c.2.2.toNat,jKc.mpr (by show _<(n-l+1).toNat;lia),?_⟩⟩⟩
 show(c.1,c.2.1,((c.2.2.toNat:Nat):Int))=c
 rw[show((c.2.2.toNat:Nat):Int)=c.2.2 by lia]
theorem Qqa(bk:BookOk n B){c c':Ch}(h:ChOk n B c)(h':ChOk n B c')(e:wrC n B c=wrC n B c'):c=c':=by
 obtain⟨l,k,o,q,r⟩:=h
 obtain⟨w,F,b,f,d⟩:=h'
 obtain⟨y,E⟩:=Kq bk o
 obtain⟨p,z⟩:=Kq bk b
 have m:=congrArg sg e
 unfold wrC at m
 rw[Qbs,Qbs]at m
 obtain⟨j,g,i⟩:=c
 obtain⟨u,v,a⟩:=c'
 have C:j=u:=Qys y p m
 subst C
 obtain⟨x,t⟩:=Qyt y.2.1 m
 have t:g=v:=t
 subst t
 have G:1<=l:=(bk.wb.ok _ o).1
 have A:1<=w:=(bk.wb.ok _ b).1
 have q:0<=i:=q
 have r:i+l<=n:=r
 have f:0<=a:=f
 have d:a+w<=n:=d
 have D:endC B (j,g,i)=i+l:=by show i+lenB B j g=_;rw[Zl bk.wb o]
 have s:endC B (j,g,a)=a+w:=by show a+lenB B j g=_;rw[Zl bk.wb b]
 rw[D,s]at x
 have:=Qpy q Om r f Om d x
 rw[this]
def Wz(n:Int)(B:List BR)(Ls:List Str)(ws:List Str)(A:List Ch):Prop:=A.map (·.1)=ws/\(∀c∈A,ChOk n B c)/\A.map (wrC n B)=Ls.take A.length
def Qqb(n:Int)(B:List BR)(Ls:List Str)(i:Nat)(w:Str):Prop:=∀c,ChOk n B c->c.1=w->Ls[i]?≠some (wrC n B c)
theorem Qgt{ps:List (Key×V)}:∀(m:Nat) (k:Key) (v:V),m<=ps.length->valV (Xe (ps.take m)) k=some v->(k,v)∈ps
 |0,k,v,_,h=>by rw[yXb]at h;cases h
 |m+1,k,v,hm,h=>by
  have e:ps[m]?=some ps[m]:=gE hm
  rw[Ji e,Kp]at h
  split at h
  .rename_i a
   have b:=Y5 h
   rw[<-b,a]
   exact kW e
  .exact Qgt m k v Om h
theorem Qkk{ps:List (Key×V)}:∀(m:Nat) (k:Key) (v:V),m<=ps.length->(k,v)∈ps.take m->(valV (Xe (ps.take m)) k).isSome=true
 |0,k,v,_,h=>by rw[yXb]at h;cases h
 |m+1,k,v,hm,h=>by
  have e:ps[m]?=some ps[m]:=gE hm
  rw[Ji e,Kp]
  split
  .rfl
  .rename_i a
   rw[Vu e]at h
   rcases kJ.mp h with h | h
   .exact Qkk m k v Om h
   .exact Y21 (by rw[<-jW.mp h]) a
def Qkl(K:Fg)(C CX:Addr):Sp:=fun vs H Q E=>∃(p r:Addr) (n:Int) (B:List BR) (Ls:List Str),vs=[.ref p,.ref r]/\FcAt K C H p n B/\BookOk n B/\H r=some (.lst (Ls.map V.str))/\Ls.length<=1000000 /\
 (∀A,Wz n B Ls (wks B) A->∀(g:Addr) (H':Hp),Same H H'->H g=none->ChsAt K H' g A->Q (.ref g) H') /\
 (∀i w A,(wks B)[i]?=some w->Wz n B Ls ((wks B).take i) A->Qqb n B Ls i w->RE CX H (i:Int) E)
section
variable{w:World}
theorem scChS:FnScope ["facts","rows","pictures","taken","number","work","choice"] ["facts","rows"] (Qh sChS):=Sc
theorem okChS(NP:NPk P w K mg base CX DX fX fdX fo)(T:FcTxt K mg C){fA:Addr}{fdA:FuncData}(GA:FnOk P w K mg base CX0 2 fA fdA ["self"] (Qvd K C))(bA:Binds K fdA ["self"] [])(mA:Meth K C "all_choices" fA)(F:Fn K mg "choices_seen" sChS)(M:Mg mg)(o:Cal P w K mg base 3 "work_row" ["facts","choice"] (Qpl K C)):CalG P w K mg base CX 4 "choices_seen" ["facts","rows"] (Qkl K C CX):=by
 refine Qpx F scChS (fun _ _ _ _ _ _=>Jt (fun _ _=>rfl)) (fun vs H Q E h=>?_) (fun f aI A aw s H vs Q E hr h=>?_)
 .obtain⟨p,r,n,B,J,rfl,_⟩:=h
  rfl
 obtain⟨p,r,n,B,J,rfl,ab,bk,ar,aC,ax,ak⟩:=h
 have hu:=Z6 1 hr.un
 refine⟨_,(Qg (Z4 2 scChS.nd (Xv (Zg rfl) rfl M.dict_ Kv (Qa (Yu ["choice","facts"] [none,some 0] rfl (Qx (Qrb (pv 0) T.cl mA GA (hr.mono Dc) bA .nil Jq)) (fun _ _ _=>(Z3 0 (show(["choice","facts"]:List Str).Nodup by decide +kernel))) (fun _ _ _=>Yr) (fun _ _ _=>(Yy (Qa (Xj o (hr.mono Dc) (Qa (pv 1) (Qa (pv 0) Qf))) (Qa (pv 0) Qf))))) Qf)))
  (Qg (Z4 3 scChS.nd (Xd Qf))
  (Qg (Ye PassesOwn.leaving rfl (Qns true rfl M.enumerate_ (Qa (Yn (pv 0) rfl) Qf)) (Qas (K:=K) (i:=4) (j:=5) rfl rfl scChS.nd rfl rfl rfl rfl) (Qg (Z4 6 scChS.nd (Qdj (Qm Qfe (pv 4) (Qt Qu rfl M.len Ys (Qa (pv 1) Qf)) (Qs _)) (Qjm hu (pv 2) (Qr Qn (pv 1) (pv 4)) ⟨rfl,rfl,rfl,rfl⟩) Wl))
  (Qg (Xy (PW.pt (Wa (Qm op_isN (pv 6) Wl (Qs _)) (Vh (Qm Qdl (Qr Xr (pv 6) Qe) (pv 5) (Qs _))))) (Qi (Km NP.ei NP.gi NP.bi NP.lk NP.fc NP.kc (hr.mono Dc) (Qa (pv 4) Qf))) Xa)
  (Qi (Yg (Zh Y1 Y2 Y3 Xh (pv 3) (Qa (pv 6) Qf)))))))
  (Qi (Xb (pv 3)))))),?_⟩
 refine Ju ?_
 intro aF aD aE
 obtain⟨dx,lw,lb,lh,ls,la,ds,fs,aB,yh,aJ,ya,hF⟩:=id ab
 have hz:=X0 2000000
 have n1:=bk.n1
 have aH:=bk.n12
 refine⟨_,rfl,p,dx,fs,rfl,hF.hp,hF.nC,?_⟩
 dsimp only[tNil]
 refine⟨p,n,B,rfl,ab,bk,fun a H1 s1 hn aG hA=>?_⟩
 obtain⟨vs,aq,au⟩:=hA.ex
 obtain⟨d,e1,e2,aj⟩:=Qeu au
 subst e1
 have X:=hA.few
 have lz:d.length<=2000000:=by rw[e2,jX]at X;exact X
 have ae:∀z∈d,ChOk n B z.2:=fun z q=>(Qpz bk).mp (by rw[e2];exact kJa q)
 have am:∀c,ChOk n B c->∃z∈d,z.2=c:=fun c W=>by
  have:=(Qpz bk).mpr W
  rw[e2]at this
  obtain⟨z,b,ad⟩:=zV.mp this
  exact⟨z,b,ad⟩
 refine⟨a,rfl,⟨_,aq⟩,fun D hD=>?_⟩
 refine Qim (fun H v (x:Key×V)=>∃t,v=.ref t/\t≠D/\H t=some (.tup [kV x.1,x.2])) (fun z:Addr×Ch=>((inr (wrC n B z.2):Key),V.ref z.1)) rfl (Zu (val:=fun z:Addr×Ch=>V.ref z.1) aq) Om hD (fun s _ h=>by obtain⟨t,h1,h2,h3⟩:=h;exact⟨t,h1,h2,(by assumption:Same _ _) _ _ h3⟩) (fun h=>by obtain⟨t,h1,h2,h3⟩:=h;exact⟨t,h1,h2,by rw[Qj h2];exact h3⟩) (fun z q H2 s2 aA P h=>?_) fun H2 R s2 h2 hp=>?_
 .obtain⟨l,k,hk,_⟩:=ae z q
  refine⟨_,rfl,_,rfl,p,z.1,n,B,_,_,_,l,k,rfl,ab.same (s1.trans s2),bk,s2.tup (aj z q),hk,fun S U=>?_⟩
  refine⟨_,rfl,Z1 2,fun t ht=>h (.ref t) _ (U.trans (Qd ht _)) ⟨t,rfl,fun e=>?_,?_⟩⟩
  .cases e6:H2 t with
   |none=>rw[e]at e6;exact aA e6
   |some u=>rw[U _ _ e6]at ht;cases ht
  .rw[Qc]
   show _=some (HO.tup [V.str (wrC n B z.2),V.ref z.1])
   unfold wrC endC
   rw[Zl bk.wb hk]
 have al:PairsK K H2 R (d.map fun z:Addr×Ch=>((inr (wrC n B z.2):Key),V.ref z.1)):=Paired.mapP hp fun v x ⟨t,h1,_,h3⟩=>⟨t,h1,Qz h3⟩
 refine⟨D,R,_,rfl,Qb h2,al,by rw[jX];lia,fun dd ah=>?_⟩
 have ln:(d.map fun z:Addr×Ch=>((inr (wrC n B z.2):Key),V.ref z.1)).length<=(d.map fun z:Addr×Ch=>((inr (wrC n B z.2):Key),V.ref z.1)).length:=jK _
 have I:∀(x:Str) (v:V),valV (Xe (d.map fun z:Addr×Ch=>((inr (wrC n B z.2):Key),V.ref z.1))) (inr x)=some v->∃z∈d,x=wrC n B z.2/\v=.ref z.1:=fun x v h=>by
  rw[<-yV (l:=d.map fun z:Addr×Ch=>((inr (wrC n B z.2):Key),V.ref z.1))]at h
  obtain⟨z,b,ad⟩:=zV.mp (Qgt _ _ _ ln h)
  injection ad with a1 a2
  exact⟨z,b,(Y37 a1).symm,a2.symm⟩
 have L:∀z∈d,(valV (Xe (d.map fun z:Addr×Ch=>((inr (wrC n B z.2):Key),V.ref z.1))) (inr (wrC n B z.2))).isSome=true:=fun z q=>by
  rw[<-yV (l:=d.map fun z:Addr×Ch=>((inr (wrC n B z.2):Key),V.ref z.1))]
  refine Qkk _ _ (.ref z.1) ln ?_
  rw[yV]
  exact kJa q
 have s3:=s2.trans (Qd ah (.dK (Xe (d.map fun z:Addr×Ch=>((inr (wrC n B z.2):Key),V.ref z.1)))))
 have af:upd H2 dd (.dK (Xe (d.map fun z:Addr×Ch=>((inr (wrC n B z.2):Key),V.ref z.1)))) dd=some (.dK (Xe (d.map fun z:Addr×Ch=>((inr (wrC n B z.2):Key),V.ref z.1)))):=Qc
 generalize upd H2 dd (.dK (Xe (d.map fun z:Addr×Ch=>((inr (wrC n B z.2):Key),V.ref z.1))))=H3 at s3 af⊢
 generalize Xe (d.map fun z:Addr×Ch=>((inr (wrC n B z.2):Key),V.ref z.1))=kv at I L af
 clear al hp h2 s2 ah ln hD
 have sz:∀z∈d,SqT K H3 z.1 [.str z.2.1,.str z.2.2.1,.int z.2.2.2]:=fun z q=>s3.tup (aj z q)
 have G:=s1.trans s3
 refine⟨Z1 0,fun g hg=>?_⟩
 have s4:=Qd hg (.lst [])
 have h4:upd H3 g (.lst []) g=some (.lst []):=Qc
 generalize upd H3 g (.lst [])=H4 at s4 h4⊢
 let ao:Nat->St->Hp->Prop:=fun i σ S=>∃(u4 u5 u6:Option V) (A:List Ch) (R:List V),σ=[some (.ref p),some (.ref r),some (.ref dd),some (.ref g),u4,u5,u6]/\S g=some (.lst R)/\ChsAre K S R A/\Wz n B J ((wks B).take i) A/\Same H3 S
 refine⟨_,rfl,p,C,dx,fs,_,rfl,(G.trans s4) _ _ hF.hp,T.cl,T.nW,hF.fW,lw,rfl,⟨_,Qb ((G.trans s4) _ _ hF.hW)⟩,Qjn (K:=K) (m:=true) (a:=lw) (xs:=(wks B).map V.str) ao ⟨none,none,none,[],[],rfl,h4,.nil,⟨rfl,fun _ h=>(nomatch h),rfl⟩,s4⟩ (fun i σ S _ h=>?_) ?_ ?_⟩
 .obtain⟨u4,u5,u6,Z,R,rfl,h5,h6,N,U⟩:=h
  exact Qb ((G.trans U) _ _ hF.hW)
 .rintro i x σ S T' ex ⟨u4,u5,u6,Z,R,rfl,h5,h6,N,U⟩ av
  obtain⟨wk,ew,rfl⟩:=Qil ex
  have hi:=(kX.mp ew).1
  have lA:Z.length=i:=by
   have:=congrArg List.length N.1
   rw[jX,xJ]at this
   lia
  have wl:(wks B).length<=B.length:=zY _ _
  have bl:=bk.wb.len
  have ly:=Paired.length h6
  refine⟨T',_,rfl,Qz Qc,rfl,_,_,rfl,_,_,rfl,rfl,?_⟩
  have Y:=Qd av (.tup [.int ((i:Nat):Int),.str wk])
  generalize upd S T' (.tup [.int ((i:Nat):Int),.str wk])=H6 at Y⊢
  have O:=U.trans Y
  have an:=G.trans O
  have ap:=an _ _ ar
  have ag:=O _ _ af
  have aa:Qqb n B J i wk->RE CX H6 (i:Int) E:=fun ay=>(ak i wk Z ew N ay).same an
  refine⟨_,rfl,_,rfl,r,_,rfl,.inl (Qb ap),_,_,rfl,rfl,_,rfl,ite2 (fun c1=>?_) (fun c1=>?_)⟩
  .have y:i<J.length:=by
    have:=kK c1
    rw[jX]at this
    lia
   have aL:atI (J.map V.str) ((i:Nat):Int)=some (.str J[i]):=Kx (by rw[yW,gE y];rfl)
   refine⟨_,rfl,dd,rfl,.inl ⟨kv,.inl ag⟩,_,rfl,_,rfl,r,_,_,_,rfl,rfl,Qb ap,aL,_,DGet.k (k:=inr J[i]) ag,?_⟩
   cases ev:valV kv (inr J[i])with
   |none=>
    refine⟨_,rfl,rfl,_,rfl,iteT (iteT ?_)⟩
    refine⟨_,rfl,_,rfl,(aa fun c W ac e=>?_).raise (Same.refl _)⟩
    obtain⟨z,b,rfl⟩:=am c W
    have h8:=L z b
    rw[gE y]at e
    rw[<-Y5 e,ev]at h8
    cases h8
   |some v=>
    obtain⟨z,b,e8,rfl⟩:=I _ _ ev
    have ai:=O.tup (sz z b)
    refine⟨_,rfl,rfl,_,rfl,iteF ?_⟩
    refine⟨_,rfl,z.1,_,_,_,rfl,rfl,ai,rfl,_,rfl,rfl,_,rfl,ite2 (fun c2=>?_) (fun c2=>?_)⟩
    .refine⟨_,rfl,_,rfl,(aa fun c W ac e=>?_).raise (Same.refl _)⟩
     rw[gE y]at e
     have e9:=Qqa bk W (ae z b) ((Y5 e).symm.trans e8)
     refine nd_t c2 ?_
     rw[<-ac,e9]
    .have az:z.2.1=wk:=V.str.inj (nd_f c2)
     refine⟨_,rfl,.inl ⟨rfl,_,Qb (Y _ _ h5)⟩,_,rfl,g,_,_,rfl,rfl,Y _ _ h5,Om,?_⟩
     refine⟨_,_,_,Z++[z.2],_,rfl,Qc,?_,?_,Zt O hg⟩
     .exact Paired.snoc ((h6.same Y).updL (Y _ _ h5)) ⟨z.1,rfl,Zi (Y _ _ h5) ai⟩
     .refine⟨?_,fun c W=>?_,?_⟩
      .rw[zQ,N.1,Vu ew,<-az];rfl
      .rcases kJ.mp W with h | h
       .exact N.2.1 c h
       .rw[jW.mp h];exact ae z b
      .rw[zQ,N.2.2,jJ,lA]
       show _++[wrC n B z.2]=J.take (i+1)
       rw[Vu (gE y),e8]
  .have y:J.length<=i:=by
    rcases Nat.lt_or_ge i J.length with h | h
    .exact Y21 (yJ (by rw[jX];lia)) c1
    .exact h
   refine⟨_,rfl,rfl,_,rfl,iteT (iteT ?_)⟩
   refine⟨_,rfl,_,rfl,(aa fun c W ac e=>?_).raise (Same.refl _)⟩
   rw[yQc y]at e
   cases e
 .rintro σ S ⟨u4,u5,u6,Z,R,rfl,h5,h6,N,U⟩
  rw[jX,yV]at N
  have lA:Z.length<=2000000:=by
   have:=congrArg List.length N.1
   rw[jX]at this
   have wl:(wks B).length<=B.length:=zY _ _
   have bl:=bk.wb.len
   lia
  exact⟨_,rfl,ax Z N g S (G.trans U) (G.free hg) ⟨⟨R,Qb h5,h6⟩,lA⟩⟩
end
end Nb
namespace L2
open PySem PySem.Spec PyProof.Rows
theorem Qis:typeLookup (.type "enumerate") "__len__"=pure none:=by rw[typeLookup_type,Y60];kernel_rfl
theorem Qgu:typeLookup (.type "enumerate") "__length_hint__"=pure none:=by rw[typeLookup_type,Y60];kernel_rfl
theorem Qci(a b:Value):checkTypeCall "enumerate" ⟨[a],[("start",b)]⟩=pure ():=by kernel_rfl
theorem Qex(a b:Value):checkBuiltinCall "enumerate.__new__" ⟨[.type "enumerate",a],[("start",b)]⟩=pure ():=by kernel_rfl
abbrev Jf(h:Heap)(e it:Addr)(c:Int)(f0:Value)(f1:Bool)(old:Value):Prop :=
 h.get? e=some { cls:=.type "enumerate",dict:=none,data:=.fields #[f0,.bool f1,.ref it,rawInt c,.none,old],slots:=#[] }
section
variable{w:World}
theorem Qit{T initId:String}{Bn Bi:Builtin}{args:List Value}{S:PySem.Spec}{Q:VP}(b:TypeCalled T newId initId)
  (x:checkTypeCall T ⟨args,kw⟩=pure ()) (m:checkBuiltinCall newId ⟨.type T::args,kw⟩=pure ())
  (f:entryFor table newId=some Bn) (d:entryFor table initId=some Bi) (g:Meets (Bn ⟨.type T::args,kw⟩) S)
  (h:S A.in1 (wants Q₁ E) s)
  (i:∀obj s₁,Q₁ obj s₁->s₁.TypeIs obj T/\argsOk initId ⟨obj::args,kw⟩/\∃Si,Meets (Bi ⟨obj::args,kw⟩) Si/\Si A.in1 (wants (fun r s₂=>r=.none/\Q obj s₂) E) s₁) :
  wpAny (model prog w) A (call (.type T) args kw) Q E s:=by
 obtain⟨c,B,q⟩:=b.mro
 have o:=b.made
 have p:=b.sub
 refine wpAny_call (codeAny_of_tree ?_)
 show wpAny _ _ (callAny (.type T) _) _ _ _
 refine jV ⟨Code.quiet_builtin _ Dk,Y28 F.entry_type_call ?_⟩
 rw[Around.under_plain (weight_type_call_type T args kw) (units_type_call_type T args kw)]
 have z:=b.notType
 have C:=b.canCreate
 repeat (any_goals (first | assumption | wp_step))
 refine Y49 (Y43 b.plain f (Y32 m (g prog w A.in1 _ s h))) fun r s₁ l=>?_
 cases r with
 |error e=>exact l
 |ok fl=>
  cases fl with
  |ret obj=>
   obtain⟨u,n,Si,t,k⟩:=i _ _ l
   have y:=b.init.lookup
   have v:=b.init.bind obj
   repeat (any_goals (first | assumption | wp_step))
   refine Y49 (Y43 b.init.plain d (b.init.check _ _ _ _ _ _ _ _ u n (t prog w A.in1 _ s₁ k))) fun j s₂ a=>?_
   cases j with
   |error e=>exact a
   |ok fl₂=>
    cases fl₂ with
    |ret r=>
     obtain⟨rfl,D⟩:=a
     repeat (any_goals (first | assumption | wp_step))
    |_=>exact a.elim
  |_=>exact l.elim
theorem Qcj{T:String}{self a:Value}(g:typeLookup (.type T) "__init__"=pure (some (.builtin "object.__init__")))
  (h:Bind.madeBy (.type T)=pure (some newId)) (d:(some newId != some "object.__new__")=true) :
  Meets (Builtin.«object.__init__» ⟨[self,a],kw⟩) (fun _ R s=>s.TypeIs self T/\R (.ok (.ret .none)) s):=by
 refine Meets.of_wp fun b w A R s c=>?_
 obtain⟨f,e⟩:=c
 repeat (any_goals (first | assumption | wp_step))
 exact⟨_,rfl,e⟩
end
theorem Qiu{n:String}{t:Tok}{p:Heap->Prop}(I:Itr0 n l p)(m:Builtin.SmallTypes.fitsIndex c=true) :
  Meets (Builtin.«enumerate.__new__» ⟨[.type "enumerate",.ref l],[("start",.int c t)]⟩) (fun _ R s=>p s.heap/\R (.ok (.ret (.ref (s.heap.push (Jl n l)).objs.size))) { s with heap:=(s.heap.push (Jl n l)).push { cls:=.type "enumerate",data:=.fields #[.none,.bool false,.ref s.heap.objs.size,rawInt c,.none,.none] } }) :=
 .of_wp fun a w A R s h=>by
  obtain⟨i,g,d,k,f⟩:=s
  obtain⟨q,h⟩:=h
  have e:=sub_enumerate
  have b:=fun(A:Around) (E:VP) (Q:VP)=>I.go a w A E ⟨i,g,d,k,f⟩ Q q
  wp_walk
  refine wpAny_stack_any fun j=>jV ?_
  split
  .rename_i c _ _ _ _ _
   cases(c == Value.type "enumerate")
   .wp_walk using b _ _ _
    exact⟨_,rfl,h⟩
   .wp_walk using b _ _ _
    exact⟨_,rfl,h⟩
  .wp_walk using b _ _ _
   exact⟨_,rfl,h⟩
section
variable{w:World}{e:Addr}{st:Nat->Heap->Prop}{src:List Value->Heap->Prop}{xs:List Value}{old:Value}
theorem Qck{x:Value}(V:Drw P w it l st src)(O:IsEnum s.heap e it c old)(hI:st i s.heap)(hl:src xs s.heap)(hx:xs[i]?=some x)(u:e≠it)
  (hQ:∀h',IsEnumOut h' e it (c+1) x s.heap.objs.size->st (i+1) h'->h'.get? s.heap.objs.size=some { cls:=.type "tuple",data:=.seq #[.int c s.toks,x] } ->
   (∀b o,b≠e->b≠it->s.heap.get? b=some o->h'.get? b=some o)->Q (some (.ref s.heap.objs.size)) { s with heap:=h',toks:=s.toks+1 }):wpAny (model P w) A (pyNext (.ref e)) Q E s:=by
 have M:s.TypeIs (.ref e) "enumerate":=⟨_,O,rfl⟩
 unfold pyNext
 refine jQ (Y55 (wpAny_callSpecial?_slot (name:=Str.ofString "__next__") M Y36 (Y25 Y36 M Y47 ?_ (Y45 _))))
 obtain⟨t,g,d,a,m⟩:=s
 show wpAny _ _ (field (.ref e) 2 >>= _) _ _ _
 refine jQ (Y23 O rfl (x:=.ref it) rfl ?_)
 refine jQ (V.item _ _ ⟨t,g,d,a,m⟩ i xs x _ hI hl hx fun F L J=>?_)
 replace J:Heap.SameBut it t F:=J
 have k:IsEnum F e it c old:=(J.2 e u).trans O
 show wpAny _ _ (field (.ref e) 3 >>= _) _ _ ⟨F,g,d,a,m⟩
 refine jQ (Y23 k rfl (x:=rawInt c) rfl ?_)
 show wpAny _ _ (field (.ref e) 4 >>= _) _ _ ⟨F,g,d,a,m⟩
 refine jQ (Y23 k rfl (x:=.none) rfl ?_)
 show wpAny _ _ (mkInt c >>= _) _ _ ⟨F,g,d,a,m⟩
 refine jQ (wpAny_mkInt ?_)
 show wpAny _ _ (setField (.ref e) 3 (rawInt (c+1)) >>= _) _ _ ⟨F,g,d,a+1,m⟩
 refine jQ (Y24 k (by simp) fun N p I=>?_)
 replace I:Heap.SameBut e F N:=I
 replace p:IsEnum N e it (c+1) old:=p
 show wpAny _ _ (setField (.ref e) 4 .none >>= _) _ _ ⟨N,g,d,a+1,m⟩
 refine jQ (Y24 p (by simp) fun H j K=>?_)
 replace K:Heap.SameBut e N H:=K
 replace j:IsEnum H e it (c+1) old:=j
 show wpAny _ _ (newTuple [.int c a,x] >>= _) _ _ ⟨H,g,d,a+1,m⟩
 refine jQ (wpAny_newTuple ?_)
 have n:IsEnum (H.push { cls:=.type "tuple",data:=.seq #[.int c a,x] }) e it (c+1) old:=jZ _ j
 generalize r:H.push { cls:=.type "tuple",data:=.seq #[.int c a,x] }=g4 at n
 have C:H.objs.size=t.objs.size:=by rw[K.1,I.1,J.1]
 have T:e<t.objs.size:=yK O
 have U:g4.get? t.objs.size=some { cls:=.type "tuple",data:=.seq #[.int c a,x] }:=by rw[<-r,<-C];exact yY _ rfl
 have X:∀b o,b≠e->b≠it->t.get? b=some o->g4.get? b=some o:=fun b o f D B=>by
  rw[<-r];exact jZ _ (K.extBut b o f (I.extBut b o f (J.extBut b o D B)))
 have W:st (i+1) g4:=V.keep _ _ _ L fun q z=>by rw[<-r];exact jZ _ (K.extBut _ _ u.symm (I.extBut _ _ u.symm z))
 show wpAny _ _ (Builtin.SmallTypes.ownedTupleIsFree (.ref e) >>= _) _ _ ⟨g4,g,d,a+1,m⟩
 rw[C]
 clear r j K p I k J L C
 refine jQ ?_
 unfold Builtin.SmallTypes.ownedTupleIsFree
 refine jQ (Y23 n rfl (x:=.none) rfl (jV ?_))
 simp only[if_true]
 refine jQ (Y58 (jQ (Y23 n rfl (x:=old) rfl (jQ (Y24 n (by simp) fun R v e5=>?_)))))
 replace e5:Heap.SameBut e g4 R:=e5
 replace v:IsEnum R e it (c+1) x:=v
 show wpAny _ _ (Builtin.SmallTypes.ownedTupleHandOut (.ref e) (.ref t.objs.size) >>= _) _ _ ⟨R,g,d,a+1,m⟩
 refine jQ ?_
 unfold Builtin.SmallTypes.ownedTupleHandOut
 refine jQ (Y24 v (by simp) fun Z y Y=>?_)
 replace Y:Heap.SameBut e R Z:=Y
 replace y:IsEnumOut Z e it (c+1) x t.objs.size:=y
 refine Y24 y (by simp) fun S G e7=>?_
 replace e7:Heap.SameBut e Z S:=e7
 replace G:IsEnumOut S e it (c+1) x t.objs.size:=G
 have up:∀b o,b≠e->g4.get? b=some o->S.get? b=some o:=fun b o B z=>e7.extBut b o B (Y.extBut b o B (e5.extBut b o B z))
 refine jQ (wpAny_letGo (jV ⟨_,rfl,jV (hQ S G ?_ ?_ ?_)⟩))
 .exact V.keep _ _ _ W fun q z=>up _ _ u.symm z
 .exact up _ _ (kQf T) U
 .exact fun b o f D B=>up b o f (X b o f D B)
theorem Qey{f0:Value}(g:A.handled=none)(m:Drw P w it l st src)(f:Jf s.heap e it c f0 f1 old)(q:st i s.heap)(r:src xs s.heap)(j:xs[i]?=none)
  (p:∀h',Heap.ExtBut it s.heap h'->Q none { s with heap:=h' }):wpAny (model P w) A (pyNext (.ref e)) Q E s:=by
 have a:s.TypeIs (.ref e) "enumerate":=⟨_,f,rfl⟩
 unfold pyNext
 refine jQ (Y55 (wpAny_callSpecial?_slot (name:=Str.ofString "__next__") a Y36 (Y25 Y36 a Y47 ?_ (Y45 _))))
 show wpAny _ _ (field (.ref e) 2 >>= _) _ _ _
 refine jQ (Y23 f rfl (x:=.ref it) rfl ?_)
 refine jQ (m.done _ _ s i xs _ g q r j fun h' x k d=>?_)
 obtain⟨o,n,t⟩:=d
 refine jQ (wpAny_isInstance (T:="StopIteration") (b:=true) ⟨o,n,t⟩ isSubtype_stop (jV (p _ k)))
theorem Qtx{T:Addr}{q:Obj}{Q:Bool->Shared->Prop}(a:Jf s.heap e it c (rawInt (T:Nat)) f1 old)(g:s.heap.get? T=some q)
  (f:∀h',Jf h' e it c (rawInt (T:Nat)) true old->Heap.SameBut e s.heap h'->Q false { s with heap:=h' }):wpAny (model P w) A (Builtin.SmallTypes.ownedTupleIsFree (.ref e)) Q E s:=by
 unfold Builtin.SmallTypes.ownedTupleIsFree
 refine jQ (Y23 a rfl (x:=rawInt (T:Nat)) rfl ?_)
 show wpAny _ _ (loadIfAlive (((T:Nat):Int).toNat) >>= _) _ _ _
 rw[jYa]
 refine jQ (alive_ ?_)
 rw[g]
 show wpAny _ _ (field (.ref e) 1 >>= _) _ _ _
 refine jQ (Y23 a rfl (x:=.bool f1) rfl ?_)
 cases f1 with
 |true=>exact jV (f s.heap a ⟨rfl,fun _ _=>rfl⟩)
 |false=>
  show wpAny _ _ (setField (.ref e) 1 (.bool true) >>= _) _ _ _
  exact jQ (Y24 a (by simp) fun h' d b=>jV (f h' d b))
theorem Qbx{x:Value}{T:Addr}{qT:Obj}(U:Drw P w it l st src)(L:Jf s.heap e it c (rawInt (T:Nat)) f1 old)(hT:s.heap.get? T=some qT)(S:T≠e)(V:T≠it)(hI:st i s.heap)(Z:src xs s.heap)(hx:xs[i]?=some x)(k:e≠it)
  (hQ:∀h',Jf h' e it (c+1) (rawInt (T:Nat)) true old->st (i+1) h'->h'.get? s.heap.objs.size=some { cls:=.type "tuple",data:=.seq #[.int c s.toks,x] } ->
   (∀b o,b≠e->b≠it->s.heap.get? b=some o->h'.get? b=some o)->Q (some (.ref s.heap.objs.size)) { s with heap:=h',toks:=s.toks+1 }):wpAny (model P w) A (pyNext (.ref e)) Q E s:=by
 have D:s.TypeIs (.ref e) "enumerate":=⟨_,L,rfl⟩
 unfold pyNext
 refine jQ (Y55 (wpAny_callSpecial?_slot (name:=Str.ofString "__next__") D Y36 (Y25 Y36 D Y47 ?_ (Y45 _))))
 obtain⟨y,g,d,a,j⟩:=s
 show wpAny _ _ (field (.ref e) 2 >>= _) _ _ _
 refine jQ (Y23 L rfl (x:=.ref it) rfl ?_)
 refine jQ (U.item _ _ ⟨y,g,d,a,j⟩ i xs x _ hI Z hx fun u N C=>?_)
 replace C:Heap.SameBut it y u:=C
 have n:Jf u e it c (rawInt (T:Nat)) f1 old:=(C.2 e k).trans L
 show wpAny _ _ (field (.ref e) 3 >>= _) _ _ ⟨u,g,d,a,j⟩
 refine jQ (Y23 n rfl (x:=rawInt c) rfl ?_)
 show wpAny _ _ (field (.ref e) 4 >>= _) _ _ ⟨u,g,d,a,j⟩
 refine jQ (Y23 n rfl (x:=.none) rfl ?_)
 show wpAny _ _ (mkInt c >>= _) _ _ ⟨u,g,d,a,j⟩
 refine jQ (wpAny_mkInt ?_)
 show wpAny _ _ (setField (.ref e) 3 (rawInt (c+1)) >>= _) _ _ ⟨u,g,d,a+1,j⟩
 refine jQ (Y24 n (by simp) fun K r B=>?_)
 replace B:Heap.SameBut e u K:=B
 replace r:Jf K e it (c+1) (rawInt (T:Nat)) f1 old:=r
 show wpAny _ _ (setField (.ref e) 4 .none >>= _) _ _ ⟨K,g,d,a+1,j⟩
 refine jQ (Y24 r (by simp) fun v m G=>?_)
 replace G:Heap.SameBut e K v:=G
 replace m:Jf v e it (c+1) (rawInt (T:Nat)) f1 old:=m
 show wpAny _ _ (newTuple [.int c a,x] >>= _) _ _ ⟨v,g,d,a+1,j⟩
 refine jQ (wpAny_newTuple ?_)
 have H:Jf (v.push { cls:=.type "tuple",data:=.seq #[.int c a,x] }) e it (c+1) (rawInt (T:Nat)) f1 old:=jZ _ m
 generalize t:v.push { cls:=.type "tuple",data:=.seq #[.int c a,x] }=g4 at H
 have F:v.objs.size=y.objs.size:=by rw[G.1,B.1,C.1]
 have O:e<y.objs.size:=yK L
 have R:g4.get? y.objs.size=some { cls:=.type "tuple",data:=.seq #[.int c a,x] }:=by rw[<-t,<-F];exact yY _ rfl
 have I:∀b o,b≠e->b≠it->y.get? b=some o->g4.get? b=some o:=fun b o f p X=>by
  rw[<-t];exact jZ _ (G.extBut b o f (B.extBut b o f (C.extBut b o p X)))
 have W:st (i+1) g4:=U.keep _ _ _ N fun q z=>by rw[<-t];exact jZ _ (G.extBut _ _ k.symm (B.extBut _ _ k.symm z))
 show wpAny _ _ (Builtin.SmallTypes.ownedTupleIsFree (.ref e) >>= _) _ _ ⟨g4,g,d,a+1,j⟩
 rw[F]
 refine jQ (Qtx (s:=⟨g4,g,d,a+1,j⟩) H (I T _ S V hT) fun Y M J=>?_)
 replace J:Heap.SameBut e g4 Y:=J
 simp only[jJa,if_false]
 refine jV ⟨_,rfl,jV (hQ Y M ?_ ?_ ?_)⟩
 .exact U.keep _ _ _ W fun q z=>J.extBut _ _ k.symm z
 .exact J.extBut _ _ (kQf O) R
 .exact fun b o f p X=>J.extBut b o f (I b o f p X)
end
theorem Qgv{env:Env}{T:String}{rest:List Expr}{kws:List Keyword}{Q:VP}
  (h:wpAny M A (spliced (backTo pos (starEach (e::rest) env))) (fun vs s₁=>wpAny M A (evalAll ((backToKw pos (keywordEach kws env)).map (·.2)))
   (fun kvs s₂=>wpAny M A (call (.type T) vs (((backToKw pos (keywordEach kws env)).filterMap (·.1)).zip kvs)) Q E s₂) E s₁) E s)
  (he:autoParam (backTo pos (starEach (e::rest) env)=(false,eval e env)::backTo pos (starEach rest env)) J1._auto_1)
  (hplain:autoParam ((backTo pos (starEach (e::rest) env)).any (·.1)=false) J1._auto_1)
  (b:autoParam ((backToKw pos (keywordEach kws env)).all (·.1.isSome)=true) J1._auto_1)
  (d:autoParam ((backToKw pos (keywordEach kws env)).any (·.1.isNone)=false) J1._auto_1) :
  wpAny M A (callWith pos (.type T) [] (backTo pos (starEach (e::rest) env)) (backToKw pos (keywordEach kws env))) Q E s:=by
 unfold callWith
 refine jQ (Y30 (Y29 (Q:=fun a s₁=>wpAny M A (call (.type T) ([]++a.pos) a.kw) Q E s₁) ?_ (fun a s₁ c=>jQ (Y62 ?_)) fun _ _ x=>x))
 .rw[he]at h⊢
  exact evalArgs_kwB b h
 .simp only[hplain,d,Bool.or_false]
  refine jQ (jV ?_)
  exact jQ (Y29 c (fun r s₂ f=>jQ (Y30 (wpAny_point (jV f)))) fun _ _ x=>x)
structure ESt(m:Bool)(e it a:Addr)(i:Nat)(c:Int)(H:Hp)(h:Heap):Prop where
 now:(∃old,IsEnum h e it c old)\/(∃(T:Addr) (f1:Bool) (old:Value) (xs:List V),Jf h e it c (rawInt (T:Nat)) f1 old/\H T=some (.tup xs))
 one:itSt m it a i h
section
variable{e:Addr}
theorem ESt.lt(X:Cx)(st:ESt m e it a i c H s.heap):∀b∈[e,it],b<s.heap.objs.size:=by
 intro b d
 simp only[kZ,jQa,or_false]at d
 rcases d with rfl | rfl
 .rcases st.now with⟨_,e⟩ | ⟨T,h,f,g,e,_⟩
  .exact yK e
  .exact yK e
 .obtain⟨q,e,_⟩:=(Jm (P:=X.prog) (w:=X.w) m b a).obj _ _ st.one;exact yK e
theorem ESt.keep(X:Cx){h':Heap}{H':Hp}(st:ESt m e it a i c H s.heap)(k:∀b∈[e,it],∀q,s.heap.get? b=some q->h'.get? b=some q)(t:∀b xs,H b=some (.tup xs)->H' b=some (.tup xs)):ESt m e it a i c H' h':=by
 refine⟨?_,(Jm (P:=X.prog) (w:=X.w) m it a).keep _ _ _ st.one (k it (by simp))⟩
 rcases st.now with⟨d,f⟩ | ⟨T,j,d,xs,f,g⟩
 .exact .inl ⟨d,k e (by simp) _ f⟩
 .exact .inr ⟨T,j,d,xs,k e (by simp) _ f,t _ _ g⟩
theorem Qty{x:V}(l:e≠it)(I:Inv X pins σ H s)(z:∀b∈[e,it],FpOk X pins H b)(st:ESt m e it a i c H s.heap)(F:Sq X.K m H a xs)(N:xs[i]?=some x)
  (D:∀h',Inv X pins σ (upd H s.heap.objs.size (.tup [.int c,x])) { s with heap:=h',toks:=s.toks+1 }->ESt m e it a (i+1) (c+1) (upd H s.heap.objs.size (.tup [.int c,x])) h'->Q (some (.ref s.heap.objs.size)) { s with heap:=h',toks:=s.toks+1 }) :
  wpAny (model X.prog X.w) A (pyNext (.ref e)) Q E s:=by
 obtain⟨L,J,B,O⟩:=I.sq F
 obtain⟨C,t,p⟩:=J.get N
 have y:∀h':Heap,(∃q,h'.get? e=some q)->itSt m it a (i+1) h'->h'.get? s.heap.objs.size=some { cls:=.type "tuple",data:=.seq #[.int c s.toks,C] }->(∀b q,b≠e->b≠it->s.heap.get? b=some q->h'.get? b=some q)->Inv X pins σ (upd H s.heap.objs.size (.tup [.int c,x])) { s with heap:=h',toks:=s.toks+1 }:=fun h' f g k j=>by
  have M:Inv X pins σ (upd H s.heap.objs.size (.tup [.int c,x])) { s with heap:=h' }:=I.tupNew (ch:=[e,it]) (its:=[.int c s.toks,C]) (jK _) (.cons ⟨_,rfl⟩ (.cons p .nil)) (Z1 2) k z
   (fun b q d e=>by simp only[kZ,jQa,or_false,not_or]at d;exact j b q d.1 d.2 e)
   (fun b d=>by
    simp only[kZ,jQa,or_false]at d
    rcases d with rfl | rfl
    .exact f
    .obtain⟨q,e,_⟩:=(Jm (P:=X.prog) (w:=X.w) m b a).obj _ _ g;exact⟨q,e⟩)
  exact M.tok _
 rcases st.now with⟨r,o⟩ | ⟨T,R,r,G,o,n⟩
 .refine Qck (Jm m it a) o st.one B t l fun h' f g k j=>?_
  exact D h' (y h' ⟨_,f⟩ g k j) ⟨.inr ⟨s.heap.objs.size,false,_,_,f,Qc⟩,g⟩
 .obtain⟨_,its,_,S,u,_⟩:=I.hok T _ n
  have v:∀b∈[e,it],T≠b:=fun b d w=>by rw[w,(z b d).1]at n;cases n
  refine Qbx (Jm m it a) o u (v e (by simp)) (v it (by simp)) st.one B t l fun h' f g k j=>?_
  exact D h' (y h' ⟨_,f⟩ g k j) ⟨.inr ⟨T,true,_,G,f,by rw[Qj (zW (yK u))];exact n⟩,g⟩
theorem Qyu(u:A.handled=none)(I:Inv X pins σ H s)(y:∀b∈[e,it],FpOk X pins H b)(st:ESt m e it a i c H s.heap)(q:Sq X.K m H a xs)(k:xs.length<=i)
  (G:∀h',Inv X pins σ H { s with heap:=h' }->Q none { s with heap:=h' }):wpAny (model X.prog X.w) A (pyNext (.ref e)) Q E s:=by
 obtain⟨B,x,C,J⟩:=I.sq q
 have O:=x.length
 obtain⟨D,p,L,n,l,r⟩:=y it (by simp)
 have g:∀{g0:Value} {j:Bool} {d:Value},Jf s.heap e it c g0 j d->wpAny (model X.prog X.w) A (pyNext (.ref e)) Q E s:=fun f=>
  Qey u (Jm m it a) f st.one C (kXd.mpr Om) fun h' F=>G h' (I.turned (t':=s.toks) (fun b o v z=>F b o v z) D p n l r)
 rcases st.now with⟨d,f⟩ | ⟨T,j,d,M,f,N⟩
 .exact g f
 .exact g f
def Qtz(H:Hp)(n:Int)(ts:List Addr)(xs:List V):Prop:=∀(j:Nat) T x,ts[j]?=some T->xs[j]?=some x->H T=some (.tup [.int (n+(j:Nat)),x])
theorem Qua{S:Addr}(M:e≠it)(hh:A.handled=none)(Q:Sq X.K m H1 a xs)(G:H1 S=none)(hz:xs.length<=sizeLine) :
  ∀(k i:Nat) (s:Shared) (H:Hp) (ts:List Addr),xs.length-i=k->i<=xs.length->Inv X pins σ H s->(∀b∈[e,it],FpOk X pins H b)->ESt m e it a i (n+(i:Nat)) H s.heap->Same H1 H->H S=some (.lst (ts.map V.ref))->ts.length=i->Qtz H n ts xs ->
  (∀s' H' ts',Inv X pins σ H' s'->Same H1 H'->H' S=some (.lst (ts'.map V.ref))->ts'.length=xs.length->Qtz H' n ts' xs->R (.ok (.ret .none)) s') ->
  codeAny (model X.prog X.w) A (.builtin "list.extend.loop" ⟨[.ref S,.ref e,.none],[]⟩) R s:=by
 intro k
 induction k with
 |zero=>
  intro i s H ts hk Z I v B p l E J hR
  refine Y28 F.entry_extend_loop ?_
  rw[Y35 Y68 _]
  show wpAny _ A.in1 (pyNext (.ref e) >>= _) _ _ s
  refine jQ (Qyu (A:=A.in1) hh I v B (p.sq Q) Om fun U C=>?_)
  exact jV (hR _ H ts C p l Om J)
 |succ k ih=>
  intro i s H ts hk Z I v B p l E J hR
  have N:i<xs.length:=Om
  have Y:xs[i]?=some (xs[i]'Om):=gE Om
  refine Y28 F.entry_extend_loop ?_
  rw[Y35 Y68 _]
  show wpAny _ A.in1 (pyNext (.ref e) >>= _) _ _ s
  refine jQ (Qty (A:=A.in1) M I v B (p.sq Q) Y fun U C D=>?_)
  have g:H s.heap.objs.size=none:=I.hok.fresh (jK _)
  have P:S≠s.heap.objs.size:=Qk l g
  have f:upd H s.heap.objs.size (.tup [.int (n+(i:Nat)),xs[i]'Om]) S=some (.lst (ts.map V.ref)):=by rw[Qj P];exact l
  obtain⟨zz,u,nn,r,L,W⟩:=C.lstM f
  rw[jX]at L
  show wpAny _ A.in1 (updateSeq S (·.push (Value.ref s.heap.objs.size)) >>= _) _ _ _
  refine jQ ?_
  have nf:∀b∈[e,it],b≠S:=fun b d w=>by rw[<-w,(v b d).1]at l;cases l
  have O:∀b∈[e,it],b≠s.heap.objs.size:=fun b d=>zW (B.lt X b d)
  refine wpAny_updateSeq W rfl (jV ⟨jJc Y68 _,?_⟩) (by rw[kY];lia) (by show(u.toArray.push _).size<=sizeLine+1;rw[Array.size_push,kY];lia)
  refine ih (i+1) _ (upd (upd H s.heap.objs.size (.tup [.int (n+(i:Nat)),xs[i]'Om])) S (.lst ((ts++[s.heap.objs.size]).map V.ref))) (ts++[s.heap.objs.size]) Om N ?_ ?_ ?_ ?_ Qc (by rw[jJ];simp[E]) ?_ hR
  .exact C.lset (t':=s.toks+1) (its':=u++[.ref s.heap.objs.size]) f W (by simp) (by rw[zQ];exact r.append (.cons rfl .nil)) (by rw[jX,jJ];simp;lia)
  .exact fun b d=>((v b d).upd (O b d)).upd (nf b d)
  .rw[show n+((i+1:Nat):Int)=n+(i:Nat)+1 by lia]
   exact ESt.keep X (s:={ s with heap:=U,toks:=s.toks+1 }) D (fun b d q c=>(jXd _ _ (Ne.symm (nf b d))).trans c) fun b us c=>by rw[Qj (fun w=>by rw[w,f]at c;cases c)];exact c
  .exact fun b q c=>by rw[Qj (Qk c G),Qj (Qk (p _ _ c) g)];exact p _ _ c
  .intro j T x o y
   by_cases hj:j<ts.length
   .rw[jXc hj]at o
    have z:=J j T x o y
    rw[Qj (fun w=>by rw[w,l]at z;cases z),Qj (Qk z g)]
    exact z
   .have ej:j=ts.length:=by
     have:=(kX.mp o).1
     rw[jJ]at this
     simp at this
     lia
    subst ej
    rw[jJf (jK _)]at o
    simp at o
    subst o
    rw[E]at y⊢
    rw[Y]at y
    cases y
    rw[Qj (Ne.symm P),Qc]
end
theorem Qez{a b:Expr}{tb:TE}{p p2 pos2 kp:Pos}(m:Bool)(w:X.calm=true)(hm:X.mg "list"=none)(P:X.mg "enumerate"=none)(ha:PA X [a] ta)(g:PE X b tb)(hg:autoParam (Gl X "list") J1._auto_1)(W:autoParam (Gl X "enumerate") J1._auto_1)
  (hs:autoParam (starEach [.Call (.Name "enumerate" p2) [a] [⟨some "start",b,kp⟩] pos2] X.env=[(false,eval (.Call (.Name "enumerate" p2) [a] [⟨some "start",b,kp⟩] pos2) X.env)]) J1._auto_1) (J:autoParam (starEach [a] X.env=[(false,eval a X.env)]) J1._auto_1) :
  PE X (.Call (.Name "list" p) [.Call (.Name "enumerate" p2) [a] [⟨some "start",b,kp⟩] pos2] [] pos) (fun σ H Q=>ta σ H fun vs H0=>tb σ H0 fun y H1=>∃l1 xs n,vs=[.ref l1]/\y=.int n/\Builtin.SmallTypes.fitsIndex n=true/\Sq X.K m H1 l1 xs /\
   ∀l ts H2,H1 l=none->Same H1 H2->H2 l=some (.lst (ts.map V.ref))->ts.length=xs.length->Qtz H2 n ts xs->Q (.ref l) H2):=by
 intro pins s σ H Q I h
 refine Call_ (Vg I hg hm Qhn (Y38 ?_ hs rfl))
 rw[hs]
 show wpAny _ _ (spliced ((false,eval (.Call (.Name "enumerate" p2) [a] [⟨some "start",b,kp⟩] pos2) X.env)::backTo pos (starEach [] X.env))) _ _ s
 refine Y57 (Y41 (Vg I W P (u:=.type "enumerate") (by rfl) (Qgv (thn (ha pos2 pins s σ H _ I h) fun us s0 Z=>?_) (he:=by rw[J];rfl) (hplain:=by rw[J];rfl))))
 obtain⟨vs,H0,I0,r0,q0⟩:=Z
 refine kws_cons (thn (g pins s0 σ H0 _ I0 q0) fun u d ⟨y,H1,I1,r2,M⟩=>kws_nil ?_)
 obtain⟨l1,xs,n,rfl,rfl,L,M,q⟩:=M
 obtain⟨u1,rfl,e1⟩:=r0.one
 cases e1
 obtain⟨t2,rfl⟩:=r2
 obtain⟨Y,r1,p1,z1⟩:=I1.sq M
 have ad:=r1.length
 refine Qit (Q₁:=fun i f=>f.TypeIs i "enumerate"/\_) F.called_enumerate (Qci _ _) (Qex _ _) F.entry_enumerate_new F.entry_object_init (Qiu (Qne m l1 Y) L) ⟨p1,?_⟩ fun i f R=>⟨R.1,PySem.F.args_object_init_2 i _,_,Qcj F.called_enumerate.init.lookup F.called_enumerate.made Dc,R.1,rfl,R.2⟩
 have z2:(d.heap.push (Jl (itN m) l1)).objs.size=d.heap.objs.size+1:=jZb ..
 have k:((d.heap.push (Jl (itN m) l1)).push { cls:=.type "enumerate",data:=.fields #[.none,.bool false,.ref d.heap.objs.size,rawInt n,.none,.none] }).get? (d.heap.push (Jl (itN m) l1)).objs.size=some { cls:=.type "enumerate",data:=.fields #[.none,.bool false,.ref d.heap.objs.size,rawInt n,.none,.none] }:=yY _ rfl
 have B:((d.heap.push (Jl (itN m) l1)).push { cls:=.type "enumerate",data:=.fields #[.none,.bool false,.ref d.heap.objs.size,rawInt n,.none,.none] }).get? d.heap.objs.size=some (Jl (itN m) l1):=jZ _ (yY _ rfl)
 rw[z2]at k
 show _/\_
 rw[z2]
 have E:∀b o,d.heap.get? b=some o->((d.heap.push (Jl (itN m) l1)).push { cls:=.type "enumerate",data:=.fields #[.none,.bool false,.ref d.heap.objs.size,rawInt n,.none,.none] }).get? b=some o:=fun b o z=>jZ _ (jZ _ z)
 generalize (d.heap.push (Jl (itN m) l1)).push { cls:=.type "enumerate",data:=.fields #[.none,.bool false,.ref d.heap.objs.size,rawInt n,.none,.none] }=h' at B k E
 refine⟨⟨_,k,rfl⟩,?_⟩
 refine Calls.spliced_nil ?_
 have I2:Inv X pins σ H1 { d with heap:=h' }:=I1.kept (t':=d.toks) E
 have D:∀b∈[d.heap.objs.size+1,d.heap.objs.size],d.heap.objs.size<=b:=fun b g=>by
  simp only[kZ,jQa,or_false]at g
  rcases g with rfl | rfl
  .exact Nat.le_add_right _ _
  .exact jK _
 have hf:∀b∈[d.heap.objs.size+1,d.heap.objs.size],FpOk X pins H1 b:=fun b g=>I1.fpOk (D b g) (I1.hok.fresh (D b g))
 have C:ESt m (d.heap.objs.size+1) d.heap.objs.size l1 0 (n+((0:Nat):Int)) H1 h':=⟨.inl ⟨_,by rw[show n+((0:Nat):Int)=n by lia];exact k⟩,Qjf m B⟩
 have ab:d.heap.objs.size+1≠d.heap.objs.size:=Nat.succ_ne_self _
 generalize d.heap.objs.size+1=z at *
 generalize d.heap.objs.size=i1 at *
 have r:=ESt.lt X (s:={ d with heap:=h' }) C
 have G:=k
 refine callType_codes (Q₁:=fun i f=>i=.ref h'.objs.size/\f={ d with heap:=h'.push { cls:=.type "list",data:=.seq #[] } }) PySem.F.called_list (PySem.F.typeCall_list_1 _) PySem.F.entry_list_init (code_list_new _ ⟨rfl,rfl⟩) ?_
 rintro i f ⟨rfl,rfl⟩
 have O:(h'.push { cls:=.type "list",data:=.seq #[] }).get? h'.objs.size=some { cls:=.type "list",data:=.seq #[] }:=yY _ rfl
 refine⟨⟨_,O,rfl⟩,PySem.F.args_list_init_2 _ _,?_⟩
 show wpAny _ _ (do let aa ← Builtin.List.listItems (.ref h'.objs.size);Builtin.List.listUpdate (.ref h'.objs.size) (fun _=>#[]);letGo aa.toList.reverse;Builtin.List.listExtendWith (.ref h'.objs.size) (.ref z) .none) _ _ _
 refine jQ ?_
 unfold Builtin.List.listItems
 refine jQ (wpAny_seqItems O rfl (jV ?_))
 show wpAny _ _ (updateSeq h'.objs.size (fun _=>#[]) >>= fun _=>letGo (#[]:Array Value).toList.reverse >>= fun _=>Builtin.List.listExtendWith (.ref h'.objs.size) (.ref z) .none) _ _ _
 refine jQ (wpAny_updateSeq O rfl ?_)
 have B:=jYc (Obj.mapSeq (fun _=>(#[]:Array Value))) O rfl
 have kp:∀b o,b≠h'.objs.size->h'.get? b=some o->((h'.push { cls:=.type "list",data:=.seq #[] }).update h'.objs.size (Obj.mapSeq (fun _=>(#[]:Array Value)))).get? b=some o:=fun b o g e=>(jXd _ _ (Ne.symm g)).trans (jZ _ e)
 refine jQ (wpAny_letGo ?_)
 generalize ac:(h'.push { cls:=.type "list",data:=.seq #[] }).update h'.objs.size (Obj.mapSeq (fun _=>(#[]:Array Value)))=h2 at B kp
 have U:h'.objs.size≠z:=kQf (r z (by simp))
 have v:Shared.TypeIs { d with heap:=h2 } (.ref z) "enumerate":=⟨_,kp z _ (Ne.symm U) G,rfl⟩
 unfold Builtin.List.listExtendWith
 refine jQ (Y40 v ?_)
 have n1:Builtin.List.listSameRef (.ref h'.objs.size) (.ref z)=false:=by simp[Builtin.List.listSameRef,U]
 have n2:(Value.type "enumerate" == Value.type "list")=false:=Dc
 have n3:(Value.type "enumerate" == Value.type "tuple")=false:=Dc
 simp only[n1,n2,n3,Bool.or_false,jJa,if_false]
 refine jQ (wpAny_pyIter_enum (kp z _ (Ne.symm U) G) ?_)
 refine jQ (Y30 ?_)
 unfold Builtin.List.listLengthHint
 refine jQ (Y64 v Qis ?_)
 show wpAny _ _ (specialOf (Value.ref z) (Str.ofString "__length_hint__") >>= _) _ _ _
 refine jQ (Y64 v Qgu ?_)
 refine jV ?_
 show wpAny _ _ (rule "list.extend.makes-room" >>= fun _=>Builtin.List.listTouch (.ref h'.objs.size) >>= fun _=>
  again (.builtin "list.extend.loop" ⟨[.ref h'.objs.size,.ref z,.none],[]⟩)) _ _ _
 refine jQ (Y58 ?_)
 refine jQ ?_
 show wpAny _ _ (updateSeq h'.objs.size (·.push .none) >>= fun _=>updateSeq h'.objs.size (·.pop)) _ _ _
 refine jQ (wpAny_updateSeq B rfl ?_)
 have k:=jYc (Obj.mapSeq (·.push Value.none)) B rfl
 refine wpAny_updateSeq (hz:=by seq_fits) k rfl ?_
 have g3:=jYc (Obj.mapSeq (·.pop)) k rfl
 have kq:∀b o,b≠h'.objs.size->h'.get? b=some o->((h2.update h'.objs.size (Obj.mapSeq (·.push Value.none))).update h'.objs.size (Obj.mapSeq (·.pop))).get? b=some o :=
  fun b o g e=>(jXd _ _ (Ne.symm g)).trans ((jXd _ _ (Ne.symm g)).trans (kp b o g e))
 have N:H1 h'.objs.size=none:=I2.hok.fresh (jK _)
 refine jV ⟨jJc Y68 _,Qua (n:=n) (X:=X) (pins:=pins) (σ:=σ) (A:=X.A.in1) (S:=h'.objs.size) (H1:=H1) ab (I.ok.hd w) M N Om xs.length 0 _ (upd H1 h'.objs.size (.lst [])) [] rfl (xW _) ?_ ?_ ?_ (Qd N _) Qc rfl (fun j T x e=>by simp at e) fun s' H' ts I' sm hS hl hp=>?_⟩
 .exact I2.laid (fun b o e=>kq b o (zW (yK e)) e) (jK _) ⟨xW _,[],_,.nil,g3⟩
 .exact fun c w=>(hf c w).upd (zW (r c w))
 .exact ESt.keep X (s:={ d with heap:=h' }) C (fun c w q e=>kq c q (zW (r c w)) e) fun c us e=>by rw[Qj (Qk e N)];exact e
 .exact⟨rfl,.ref _,H',I',rfl,q _ ts H' N sm hS hl hp⟩
end L2
namespace Nb
open PySem L2
abbrev sPSe:Stmt:=top 27
def nl10:Str:=⟨#[10]⟩
theorem nl_eq:("\n":Str)=nl10:=Dk
theorem Qby(x:Str)(w:Nat):∀(cuts:List Nat) (a:Nat),(StrLaws.partsFrom x w a cuts).length=cuts.length+1
 |[],_=>rfl
 |c::r,a=>by
  show(StrLaws.partsFrom x w (c+w) r).length+1=_
  rw[Qby x w r]
  rfl
theorem Qma{a b:Str}(h:a.length<=200000):a.length<=sizeLine/\(Builtin.Str.partsBetween a (Builtin.Str.occurrences a b 0 a.length (a.length+1)) b.length).length<=sizeLine:=by
 have c:=X0 2000000
 refine⟨Om,?_⟩
 rw[StrLaws.partsBetween_eq,Qby]
 have:=StrLaws.occ_length_le_len a b 0 a.length (a.length+1)
 lia
theorem mem_join{c:Nat}:∀{xs:List Str} {x:Str},x∈xs->(∀d∈sg x,d∈sg (Str.join ⟨#[c]⟩ xs))/\x.length<=(Str.join ⟨#[c]⟩ xs).length
 |[y],x,h=>by rw[jW.mp h];exact⟨fun _ z=>z,jK _⟩
 |y::z::r,x,h=>by
  rw[<-Ya (Str.join _ _),Qlu,jJ,yZ,Ya,Ya]
  rcases kZ.mp h with e | e
  .rw[e];exact⟨fun d a=>zZ _ a,Nat.le_add_right _ _⟩
  .obtain⟨b,f⟩:=mem_join (c:=c) e
   exact⟨fun d a=>yX _ (kQ _ (b d a)),Om⟩
theorem Qiv{c:Nat}(h:Pln x):∀w∈Txt.split x ⟨#[c]⟩,Pln w:=fun w g=>by
 have e:Str.join ⟨#[c]⟩ (Txt.split x ⟨#[c]⟩)=x:=StrLaws.join_split _ _
 obtain⟨b,a⟩:=mem_join (c:=c) g
 rw[e]at b a
 refine⟨pln_iff.mpr fun d f=>pln_iff.mp h.1 d (b d f),jQc a h.2⟩
theorem Qqc{c:Nat}:(Txt.split x ⟨#[c]⟩).length<=x.length+2:=by
 unfold Txt.split
 split
 .show 1<=_;lia
 .split
  .show 1<=_;lia
  .rw[StrLaws.partsBetween_eq,Qby]
   have:=StrLaws.occ_length_le_len x ⟨#[c]⟩ 0 x.length (x.length+1)
   lia
theorem Qyv(a:X.K=K):SlR X (rSlT K):=by subst a;exact Qjd
def Qmb(n:Int)(B:List BR)(Ls:List Str)(k:Nat):Prop:=∀j b,j<k->(bns B)[j]?=some b->∃row,Ls[(wks B).length+j]?=some row/\IsBR n b row
def Qub(n:Int)(B:List BR)(Ls:List Str)(A:List Ch)(k:Nat):Prop:=∀j b,j<k->(bns B)[j]?=some b->Ls[(wks B).length+j]?=some (brC n B A b)
structure SeenK(n:Int)(B:List BR)(Ls:List Str)(rest:Str)(bad:Int->Prop)(good:List Ch->Prop):Prop where
 b1:∀i w A,(wks B)[i]?=some w->Wz n B Ls ((wks B).take i) A->Qqb n B Ls i w->bad (i:Int)
 b2:∀A j b,Wz n B Ls (wks B) A->(bns B)[j]?=some b->Qmb n B Ls j->(¬∃row,Ls[(wks B).length+j]?=some row/\IsBR n b row)->bad (((wks B).length+j:Nat):Int)
 b3:∀A,Wz n B Ls (wks B) A->Qmb n B Ls (bns B).length->((wks B).length+(bns B).length<Ls.length\/rest≠"")->bad (((wks B).length+(bns B).length:Nat):Int)
 b4:∀A j b,Wz n B Ls (wks B) A->Qmb n B Ls (bns B).length->Ls.length=(wks B).length+(bns B).length->rest=""->(bns B)[j]?=some b->Qub n B Ls A j->Ls[(wks B).length+j]?≠some (brC n B A b)->bad (((wks B).length+j:Nat):Int)
 b5:∀A,Wz n B Ls (wks B) A->Qmb n B Ls (bns B).length->Ls.length=(wks B).length+(bns B).length->rest=""->Qub n B Ls A (bns B).length->dueF n B A≠none->bad (((wks B).length+(bns B).length:Nat):Int)
 ok:∀A,Wz n B Ls (wks B) A->Qmb n B Ls (bns B).length->Ls.length=(wks B).length+(bns B).length->rest=""->Qub n B Ls A (bns B).length->dueF n B A=none->good A
theorem Qqd{Ls:List Str}{A:List Ch}(h:Wz n B Ls (wks B) A):PlanFor n B A:=by
 refine⟨?_,fun c b=>h.2.1 c b⟩
 have a:∀w∈wks B,hasW B w=true:=fun w a=>by
  rw[<-h.1]at a
  obtain⟨c,b,rfl⟩:=zV.mp a
  obtain⟨l,k,d,_⟩:=h.2.1 c b
  exact hasW_iff.mpr ⟨_,_,_,d⟩
 rw[h.1,List.filter_eq_self.mpr a]
theorem Qqe{ps:List (Key×V)}(nd:(ps.map (·.1)).Nodup):∀m,m<=ps.length->Xe (ps.take m)=ps.take m
 |0,_=>rfl
 |m+1,hm=>by
  have e:ps[m]?=some ps[m]:=gE hm
  rw[Ji e,Qqe nd m Om,Vu e]
  unfold putK
  rw[Y20]
  intro h
  obtain⟨x,c,ex⟩:=jXb.mp h
  have ex:=kK ex
  obtain⟨j,b,a⟩:=yXc c
  rw[xJ]at b
  rw[List.getElem_take]at a
  have d:(ps.map (·.1))[j]'(by rw[jX];lia)=(ps.map (·.1))[m]'(by rw[jX];lia):=by
   rw[List.getElem_map,List.getElem_map,a,ex]
  have:=(List.getElem_inj nd).mp d
  lia
theorem Qiw(bk:BookOk n B):(wks B).length<=400/\(bns B).length<=400:=by
 have b:(wks B).length<=B.length:=zY _ _
 have a:(bns B).length<=B.length:=zY _ _
 have:=bk.wb.len
 lia
theorem Qkm{m:Int}{ts:List Addr}{bs:List Str}(h:Qtz H m ts (bs.map V.str)){b:Str}{t:Addr}(c:ts[j]?=some t)(a:bs[j]?=some b):H t=some (.tup [.int (m+(j:Nat)),.str b]):=h j t (.str b) c (by rw[yW,a];rfl)
theorem Qqf{m:Nat}(h:m<=1000):Builtin.SmallTypes.fitsIndex ((m:Nat):Int)=true:=by
 unfold Builtin.SmallTypes.fitsIndex
 rw[wV,decide_eq_true_iff,decide_eq_true_iff]
 lia
theorem Qqg(h:ws.Nodup):(ws.map (inr:Str->Key)).Nodup:=by
 unfold List.Nodup at h⊢
 rw[List.pairwise_map]
 exact h.imp fun h e=>h (Y37 e)
theorem Qmc{A:List Ch}(h:Paired (fun v (c:Ch)=>∃t u,v=.ref t/\SqT K H t [.str c.1,.ref u]/\SqT K H u [.str c.2.1,.int c.2.2]) ys A):∃ps:List (Key×V),PairsK K H ys ps/\Paired (fun(p:Key×V) (q:Ch)=>p.1=inr q.1/\∃t,p.2=.ref t/\SqT K H t [.str q.2.1,.int q.2.2]) ps A:=by
 induction h with
 |nil=>exact⟨[],.nil,.nil⟩
 |@cons v c ys A hv _ ih=>
  obtain⟨ps,a,b⟩:=ih
  obtain⟨t,u,e,f,d⟩:=hv
  exact⟨(inr c.1,.ref u)::ps,.cons ⟨t,e,f⟩ a,.cons ⟨rfl,u,rfl,d⟩ b⟩
theorem Qmd{ps:List (Key×V)}{A:List Ch}(h:Paired (fun(p:Key×V) (q:Ch)=>p.1=inr q.1/\∃t,p.2=.ref t/\SqT K H t [.str q.2.1,.int q.2.2]) ps A):ps.map (·.1)=A.map (inr∘(·.1)):=by
 induction h with
 |nil=>rfl
 |cons hv _ ih=>rw[zX,zX,ih,hv.1];rfl
def Qqh(K:Fg)(CX:Addr):Sp:=fun vs H Q E=>∃(d:Addr) (text:Str) (n:Int) (us:List V) (B:List BR) (Ls:List Str) (rest:Str),vs=[.ref d,.str text]/\H d=some (.lst us)/\RowsB H us B/\BookOk n B/\Pln text/\Txt.split text nl10=Ls++[rest] /\
 SeenK n B Ls rest (fun z=>RE CX H z E) fun A=>∀(g:Addr) (H':Hp),Same H H'->H g=none->PlanAt K H' g A->Q (.ref g) H'
section
variable{w:World}
theorem scPSe:FnScope ["book","text","facts","rows","rest","taken","benches","count","number","bench","plan"] ["book","text"] (Qh sPSe):=Sc
theorem okPSe(G:NPk P w K mg base CX DX fX fdX fo)(T:FcTxt K mg C){fI:Addr}(ba:Mk K C fI)(GI:FnOk P w K mg base CX0 2 fI fdI ["self","book"] (Qek K C))(bI:Binds K fdI ["self","book"] [])(F:Fn K mg "plan_seen" sPSe)(M:Mg mg)(r:Cal P w K mg base 2 "is_bench_row" ["facts","bench","row"] (Qvj K C))(J:Cal P w K mg base 4 "bench_row" ["facts","bench","taken"] (Qpm K C))(aa:Cal P w K mg base 5 "broken" ["book","plan"] (Qsx K))(y:CalG P w K mg base CX 4 "choices_seen" ["facts","rows"] (Qkl K C CX)):CalG P w K mg base CX 6 "plan_seen" ["book","text"] (Qqh K CX):=by
 refine Qpx F scPSe (fun _ _ _ _ _ _=>Jt (fun _ _=>rfl)) (fun vs H Q E h=>?_) (fun f br A a2 s H vs Q E hr h=>?_)
 .obtain⟨d,I,n,us,B,q,m,rfl,_⟩:=h
  rfl
 obtain⟨d,I,n,us,B,q,m,rfl,hd,hB,bk,pt,eL,SK⟩:=h
 have hu:=Z6 1 hr.un
 refine⟨_,(Qg (Z4 2 scPSe.nd (Qhk ba GI (hr.mono Dc) rfl T.mgC bI .nil Jq (Qa (pv 0) Qf)))
  (Qg (Z4 3 scPSe.nd (Zh Y4 PySem.F.slot_str_split PySem.F.type_str_split Qtn (pv 1) (Qa Qq Qf)))
  (Qg (Z4 4 scPSe.nd (Qmx Y1 PySem.F.slot_list_pop PySem.F.type_list_pop mt_pop (pv 3)))
  (Qg (Z4 5 scPSe.nd (pe_fnG y (hr.mono Dc) (Qa (pv 2) (Qa (pv 3) Qf))))
  (Qg (Z4 6 scPSe.nd (Qez true rfl M.list_ M.enumerate_ (Qa (Yn (pv 2) rfl) Qf) (Qt Qu rfl M.len Ys (Qa (pv 5) Qf))))
  (Qg (Z4 7 scPSe.nd (Ql Xc (Qt Qu rfl M.len Ys (Qa (pv 5) Qf)) (Qt Qu rfl M.len Ys (Qa (pv 6) Qf))))
  (Qg (Ye PassesOwn.leaving rfl (Qx (pv 6)) (Qas (K:=K) (i:=8) (j:=9) rfl rfl scPSe.nd rfl rfl rfl rfl) (Qi (Xy (PW.pt (Wa (Qm op_ge (pv 8) (Qt Qu rfl M.len Ys (Qa (pv 3) Qf)) (Qs _)) (Vh (Jx (Jk (Xj r (hr.mono Dc) (Qa (pv 2) (Qa (pv 9) (Qa (Qr Qn (pv 3) (pv 8)) Qf))))))))) (Qi (Km G.ei G.gi G.bi G.lk G.fc G.kc (hr.mono Dc) (Qa (pv 8) Qf))) Xa)))
  (Qg (Xy (PW.pt (Wa (Qm Qdm (Qt Qu rfl M.len Ys (Qa (pv 3) Qf)) (pv 7) (Qs _)) (Vh (Qm Qdl (pv 4) Qq (Qs _))))) (Qi (Km G.ei G.gi G.bi G.lk G.fc G.kc (hr.mono Dc) (Qa (pv 7) Qf))) Xa)
  (Qg (Ye PassesOwn.leaving rfl (Qx (pv 6)) (Qas (K:=K) (i:=8) (j:=9) rfl rfl scPSe.nd rfl rfl rfl rfl) (Qi (Xy (Qm Qdl (Qr Qn (pv 3) (pv 8)) (Xj J (hr.mono Dc) (Qa (pv 2) (Qa (pv 9) (Qa (pv 5) Qf)))) (Qs _)) (Qi (Km G.ei G.gi G.bi G.lk G.fc G.kc (hr.mono Dc) (Qa (pv 8) Qf))) Xa)))
  (Qg (Z4 10 scPSe.nd (Xv (Zg rfl) rfl M.dict_ Kv (Qa (Yu ["choice"] [none] rfl (Qx (pv 5)) (fun _ _ _=>(Z3 0 Z2)) (fun _ _ _=>Yr) (fun _ _ _=>(Yy (Qa (Qr (Wb (K:=K) rfl) (pv 0) Qe) (Qa (Xi (Qyv (K:=K) rfl) (pv 0) (Xn Qe) Yi) Qf))))) Qf)))
  (Qg (Xy (Qm Qdn (Xj aa (hr.mono Dc) (Qa (pv 0) (Qa (pv 10) Qf))) Wl (Qs _)) (Qi (Km G.ei G.gi G.bi G.lk G.fc G.kc (hr.mono Dc) (Qa (pv 7) Qf))) Xa)
  (Qi (Xb (pv 10)))))))))))))),?_⟩
 refine Qod ?_
 intro be bd bc bs bt bv bq bh bn bl bm
 have hz:=X0 2000000
 obtain⟨wf,bf⟩:=Qiw bk
 have n1:=bk.n1
 have bp:=bk.n12
 refine⟨_,rfl,fun p dx fp aR aS=>?_⟩
 dsimp only[tNil]
 have s1:Same H (upd (upd H dx (.own p)) p (.ins C dx [])):=(Qd aR _).trans (Qd (by rw[Qj aS.symm];exact fp) _)
 have ak:upd (upd H dx (.own p)) p (.ins C dx []) p=some (.ins C dx []):=Qc
 generalize upd (upd H dx (.own p)) p (.ins C dx [])=H1 at s1 ak⊢
 refine⟨p,d,dx,n,us,B,rfl,ak,s1 _ _ hd,hB.same s1,bk,fun H2 aw fr=>⟨rfl,?_⟩⟩
 have s2:Same H H2:=fun b o e=>fr b o (s1 _ _ e) (Qk e fp)
 clear s1 ak fr
 obtain⟨aU,lw,lb,lh,ls,la,ds,fs,bj,yh,bu,ya,hF⟩:=id aw
 have p2:=pt.2
 obtain⟨f1,f2⟩:=Qma (a:=I) (b:="\n") Om
 refine⟨_,rfl,rfl,_,_,rfl,rfl,Dk,f1,f2,fun W aQ=>?_⟩
 rw[nl_eq,eL]
 have s3:=Qd aQ (.lst ((q++[m]).map V.str))
 have h3:upd H2 W (.lst ((q++[m]).map V.str)) W=some (.lst ((q++[m]).map V.str)):=Qc
 generalize upd H2 W (.lst ((q++[m]).map V.str))=H3 at s3 h3⊢
 refine⟨_,rfl,.inl ⟨rfl,_,Qb h3⟩,W,_,.str m,rfl,rfl,h3,?_,?_⟩
 .rw[zQ,jJ]
  show(q.map V.str++[V.str m])[(q.map V.str).length+1-1]?=_
  rw[Nat.add_sub_cancel,jJf (jK _),Nat.sub_self]
  rfl
 have ed:((q++[m]).map V.str).dropLast=q.map V.str:=by rw[zQ];exact List.dropLast_concat
 rw[ed]
 have s4:Same H2 (upd H3 W (.lst (q.map V.str))):=Zt s3 aQ
 have h4:upd H3 W (.lst (q.map V.str)) W=some (.lst (q.map V.str)):=Qc
 generalize upd H3 W (.lst (q.map V.str))=H4 at s4 h4⊢
 have ls:q.length<=200001:=by
  have:=Qqc (c:=10) (x:=I)
  rw[show Txt.split I ⟨#[10]⟩=q++[m]from eL,jJ]at this
  lia
 have pL:∀x∈q,Pln x:=fun x hx=>Qiv (c:=10) pt x (by rw[show Txt.split I ⟨#[10]⟩=q++[m]from eL];exact zZ _ hx)
 have aF:=s2.trans s4
 have aN:=aw.same s4
 refine⟨_,rfl,_,rfl,p,W,n,B,q,rfl,aN,bk,h4,Om,fun N Z g H5 s5 hg hA=>?_,fun i w N ew Z av=>(SK.b1 i w N ew Z av).same aF⟩
 have lA:N.length=(wks B).length:=by have:=congrArg List.length Z.1;rw[jX]at this;exact this
 obtain⟨a7,bb,a4⟩:=hA.ex
 have bg:=Paired.length a4
 have a8:=aF.trans s5
 have au:=s4.trans s5
 have aY:=s5 _ _ h4
 refine⟨_,rfl,p,C,aU,fs,_,rfl,au _ _ hF.hp,T.cl,T.nB,hF.fB,_,rfl,g,_,rfl,.inl bb,lb,(bns B).map V.str,_,rfl,rfl,Qqf Om,Qb (au _ _ hF.hB),fun l ts H6 hl s6 ad X hE=>?_⟩
 have ey:a7.length=(wks B).length:=Om
 rw[jX]at X
 rw[ey]at hE
 have ap:=hA.same s6
 obtain⟨aT,aV,a5⟩:=ap.ex
 have aX:aT.length=(wks B).length:=by have:=Paired.length a5;lia
 refine⟨_,rfl,g,_,rfl,.inl aV,_,rfl,l,_,rfl,.inl (Qb ad),_,_,rfl,rfl,?_⟩
 dsimp only
 rw[aX,jX,X,<-Int.natCast_add]
 have ai:=aw.same (au.trans s6)
 have aK:=a8.trans s6
 have am:=s6 _ _ aY
 have ah:∀{i:Nat} {x:V},(ts.map V.ref)[i]?=some x->∃t b,x=.ref t/\ts[i]?=some t/\(bns B)[i]?=some b/\b∈bns B:=fun{i x} ex=>by
  rw[yW]at ex
  obtain⟨t,et,e⟩:=jKf.mp ex
  have hi:=(kX.mp et).1
  exact⟨t,(bns B)[i]'Om,e.symm,et,gE Om,kZb _⟩
 let aE:Nat->St->Hp->Prop:=fun i σ H7=>∃u8 u9:Option V,σ=[some (.ref d),some (.str I),some (.ref p),some (.ref W),some (.str m),some (.ref g),some (.ref l),some (.int (((wks B).length+(bns B).length:Nat):Int)),u8,u9,none]/\Qmb n B q i/\Same H6 H7
 refine⟨_,rfl,l,rfl,⟨_,Qb ad⟩,Zc (K:=K) (a:=l) (xs:=ts.map V.ref) aE ⟨none,none,rfl,fun j b hj=>Y21 hj (kZf _),Same.refl _⟩ (fun i σ H7 _ h=>?_) ?_ ?_⟩
 .obtain⟨u8,u9,rfl,hb,R⟩:=h
  exact Qb (R _ _ ad)
 .rintro i x σ H7 ex ⟨u8,u9,rfl,hb,R⟩
  obtain⟨t,b,rfl,et,eb,ao⟩:=ah ex
  have hi:=(kX.mp eb).1
  have ht:=R _ _ (Qkm hE et eb)
  rw[<-Int.natCast_add]at ht
  have Y:=aK.trans R
  refine⟨t,_,rfl,Qz ht,rfl,_,_,rfl,_,_,rfl,rfl,?_⟩
  have ay:(¬∃ac,q[(wks B).length+i]?=some ac/\IsBR n b ac)->∀H8,Same H7 H8->RE CX H8 (((wks B).length+i:Nat):Int) E:=fun av H8 O=>(SK.b2 N i b Z eb hb av).same (Y.trans O)
  refine⟨_,rfl,_,rfl,W,_,rfl,.inl (Qb (R _ _ am)),_,_,rfl,rfl,_,rfl,ite2 (fun L=>?_) (fun L=>?_)⟩
  .refine iteT ⟨_,rfl,_,rfl,(ay (fun ax=>?_) H7 (Same.refl _)).raise (Same.refl _)⟩
   obtain⟨ac,er,_⟩:=ax
   have h9:=(kX.mp er).1
   have ab:((((q.map V.str).length:Nat)):Int)<=(((wks B).length+i:Nat):Int):=kK L
   rw[jX]at ab
   lia
  have S:(wks B).length+i<q.length:=by
   rcases Nat.lt_or_ge ((wks B).length+i) q.length with h | h
   .exact h
   .exact Y21 (yJ (show((((q.map V.str).length:Nat)):Int)<=(((wks B).length+i:Nat):Int)by rw[jX];lia)) L
  have aL:atI (q.map V.str) (((wks B).length+i:Nat):Int)=some (.str (q[(wks B).length+i])):=Kx (by rw[yW,gE S];rfl)
  refine⟨_,rfl,_,rfl,_,rfl,_,rfl,W,_,_,_,rfl,rfl,Qb (R _ _ am),aL,p,n,B,b,_,rfl,ai.same R,bk,(Vx bk ao).2.1,pL _ (kZb _),fun c H8 O hc=>?_⟩
  refine⟨c,rfl,?_⟩
  cases c with
  |false=>
   refine iteT ⟨_,rfl,_,rfl,(ay (fun ax=>?_) H8 O).raise (Same.refl _)⟩
   obtain⟨ac,er,h9⟩:=ax
   rw[gE S]at er
   rw[<-Y5 er]at h9
   exact yQ (hc.mpr h9)
  |true=>
   refine iteF ⟨_,_,rfl,fun j b' hj U=>?_,R.trans O⟩
   by_cases aq:j<i
   .exact hb j b' aq U
   .have:j=i:=Om
    subst this
    rw[eb]at U
    cases U
    exact⟨_,gE S,hc.mp rfl⟩
 rintro σ H7 ⟨u8,u9,rfl,hb,R⟩
 rw[jX,X]at hb
 have Y:=aK.trans R
 have aC:=R _ _ am
 refine⟨_,rfl,W,_,rfl,.inl (Qb aC),_,rfl,_,_,rfl,rfl,_,rfl,ite2 (fun L=>?_) (fun L=>?_)⟩
 .refine iteT ⟨_,rfl,_,rfl,((SK.b3 N Z hb (.inl ?_)).same Y).raise (Same.refl _)⟩
  have ab:(((wks B).length+(bns B).length:Nat):Int)<((((q.map V.str).length:Nat)):Int):=kK L
  rw[jX]at ab
  lia
 have aA:q.length<=(wks B).length+(bns B).length:=by
  rcases Nat.lt_or_ge ((wks B).length+(bns B).length) q.length with h | h
  .exact Y21 (yJ (show(((wks B).length+(bns B).length:Nat):Int)<((((q.map V.str).length:Nat)):Int)by rw[jX];lia)) L
  .exact h
 refine⟨_,rfl,rfl,_,rfl,ite2 (fun c2=>?_) (fun c2=>?_)⟩
 .refine⟨_,rfl,_,rfl,((SK.b3 N Z hb (.inr fun e=>?_)).same Y).raise (Same.refl _)⟩
  exact nd_t c2 (by rw[e])
 have er:m="":=V.str.inj (nd_f c2)
 have ar:q.length=(wks B).length+(bns B).length:=by
  refine Nat.le_antisymm aA ?_
  by_cases h0:(bns B).length=0
  .have h1:=congrArg List.length Z.2.2
   rw[jX,xJ]at h1
   lia
  .obtain⟨ac,e1,_⟩:=hb ((bns B).length-1) _ Om (gE Om)
   have:=(kX.mp e1).1
   lia
 clear L c2 aA
 have aO:=R _ _ ad
 have aG:∀c∈N,∃l k,BR.way c.1 c.2.1 l k∈B:=fun c hc=>let ⟨l,k,h1,_⟩:=Z.2.1 c hc;⟨l,k,h1⟩
 let aD:Nat->St->Hp->Prop:=fun i σ H8=>∃u8 u9:Option V,σ=[some (.ref d),some (.str I),some (.ref p),some (.ref W),some (.str m),some (.ref g),some (.ref l),some (.int (((wks B).length+(bns B).length:Nat):Int)),u8,u9,none]/\Qub n B q N i/\Same H7 H8
 refine⟨_,rfl,l,rfl,⟨_,Qb aO⟩,Zc (K:=K) (a:=l) (xs:=ts.map V.ref) aD ⟨_,_,rfl,fun j b hj=>Y21 hj (kZf _),Same.refl _⟩ (fun i σ H8 _ h=>?_) ?_ ?_⟩
 .obtain⟨u8,u9,rfl,hq,O⟩:=h
  exact Qb (O _ _ aO)
 .rintro i x σ H8 ex ⟨u8,u9,rfl,hq,O⟩
  obtain⟨t,b,rfl,et,eb,ao⟩:=ah ex
  have hi:=(kX.mp eb).1
  have ht:=(R.trans O) _ _ (Qkm hE et eb)
  rw[<-Int.natCast_add]at ht
  have af:=Y.trans O
  refine⟨t,_,rfl,Qz ht,rfl,_,_,rfl,_,_,rfl,rfl,?_⟩
  have S:(wks B).length+i<q.length:=Om
  have aL:atI (q.map V.str) (((wks B).length+i:Nat):Int)=some (.str (q[(wks B).length+i])):=Kx (by rw[yW,gE S];rfl)
  refine⟨_,rfl,_,rfl,W,_,_,_,rfl,rfl,Qb (O _ _ aC),aL,_,rfl,_,rfl,_,rfl,p,g,n,B,b,N,rfl,ai.same (R.trans O),bk,ap.same (R.trans O),aG,Om,(Vx bk ao).2.1,fun H9 s9=>?_⟩
  refine⟨rfl,_,rfl,ite2 (fun L=>?_) (fun L=>?_)⟩
  .refine⟨_,rfl,_,rfl,((SK.b4 N i b Z hb ar er eb hq ?_).same (af.trans s9)).raise (Same.refl _)⟩
   rw[gE S]
   intro e
   exact nd_t L (by rw[Y5 e];rfl)
  .have e9:q[(wks B).length+i]=brC n B N b:=V.str.inj (nd_f L)
   refine⟨_,_,rfl,fun j b' hj U=>?_,O.trans s9⟩
   by_cases aq:j<i
   .exact hq j b' aq U
   .have:j=i:=Om
    subst this
    rw[eb]at U
    cases U
    rw[gE S,e9]
 rintro σ H8 ⟨u8,u9,rfl,hq,O⟩
 rw[jX,X]at hq
 have af:=Y.trans O
 have a0:=ap.same (R.trans O)
 obtain⟨vs,aP,aW⟩:=a0.ex
 obtain⟨zs,e1,e2,a1⟩:=Qeu aW
 subst e1
 have lz:zs.length<=400:=by have:=congrArg List.length e2;rw[jX]at this;lia
 refine⟨_,rfl,g,rfl,⟨_,aP⟩,fun D hD=>?_⟩
 refine Qim (fun H v (c:Ch)=>∃t u,v=.ref t/\t≠D/\u≠D/\H t=some (.tup [.str c.1,.ref u])/\H u=some (.tup [.str c.2.1,.int c.2.2])) (fun z:Addr×Ch=>z.2) rfl (Zu (val:=fun z:Addr×Ch=>V.ref z.1) aP) Om hD (fun _ sx h=>by obtain⟨t,u,h1,h2,h3,h4,h5⟩:=h;exact⟨t,u,h1,h2,h3,sx _ _ h4,sx _ _ h5⟩) (fun h=>by obtain⟨t,u,h1,h2,h3,h4,h5⟩:=h;exact⟨t,u,h1,h2,h3,by rw[Qj h2];exact h4,by rw[Qj h3];exact h5⟩) (fun z a9 H9 s9 aB P h=>?_) fun H9 ys s9 h9 hp=>?_
 .have aJ:=s9.tup (a1 z a9)
  refine⟨_,rfl,z.1,_,_,_,rfl,rfl,aJ,rfl,_,rfl,_,rfl,z.1,_,rfl,aJ,fun hn=>Y21 hn.1 (by show ¬(HT.sIx 3 0 (some 1)=0);decide),fun u hu=>?_⟩
  have ec:cutV [V.str z.2.1,V.str z.2.2.1,V.int z.2.2.2] (some 1) none=[V.str z.2.2.1,V.int z.2.2.2]:=cut1 (α:=V) _ _
  rw[ec]
  have az:=Qd hu (.tup [V.str z.2.2.1,V.int z.2.2.2])
  have ab:upd H9 u (.tup [V.str z.2.2.1,V.int z.2.2.2]) u=some (.tup [V.str z.2.2.1,V.int z.2.2.2]):=Qc
  have uD:u≠D:=fun e=>aB (by rw[<-e];exact hu)
  have ag:upd H9 u (.tup [V.str z.2.2.1,V.int z.2.2.2]) D≠none:=by rw[Qj (Ne.symm uD)];exact aB
  generalize upd H9 u (.tup [V.str z.2.2.1,V.int z.2.2.2])=H10 at az ab ag⊢
  refine⟨Z1 2,fun t ht=>h (.ref t) _ (az.trans (Qd ht _)) ⟨t,u,rfl,fun e=>ag (by rw[<-e];exact ht),uD,Qc,Qd ht _ _ _ ab⟩⟩
 rw[<-e2]at hp
 obtain⟨ps,a3,aI⟩:=Qmc (K:=K) (Paired.mapP hp fun v c ⟨t,u,h1,_,_,h4,h5⟩=>⟨t,u,h1,Qz h4,Qz h5⟩)
 have hk:ps.map (·.1)=(wks B).map inr:=by rw[<-Z.1,jZd];exact Qmd aI
 have nd:(ps.map (·.1)).Nodup:=by rw[hk];exact Qqg (Qop bk.wb)
 have bo:ps.length=(wks B).length:=by have:=congrArg List.length hk;rw[jX,jX]at this;exact this
 refine⟨D,ys,ps,rfl,Qb h9,a3,Om,fun Pd aM=>?_⟩
 have aZ:Xe ps=ps:=by have:=Qqe nd ps.length (jK _);rw[yV]at this;exact this
 rw[aZ]
 have al:=Qd aM (.dK ps)
 have aH:upd H9 Pd (.dK ps) Pd=some (.dK ps):=Qc
 generalize upd H9 Pd (.dK ps)=H11 at al aH⊢
 have aj:PlanAt K H11 Pd N:=⟨ps,aH,Paired.mapP aI fun x c ⟨h1,u,h2,h3⟩=>⟨h1,u,h2,al.tup h3⟩⟩
 have ae:=(af.trans s9).trans al
 refine⟨_,rfl,_,rfl,d,Pd,n,us,B,N,rfl,ae _ _ hd,hB.same ae,bk,aj,Qqd Z,fun v a6 an hD=>?_⟩
 refine⟨rfl,_,rfl,ite2 (fun L=>?_) (fun L=>?_)⟩
 .refine⟨_,rfl,_,rfl,((SK.b5 N Z hb ar er hq fun e=>?_).same (ae.trans an)).raise (Same.refl _)⟩
  rw[e]at hD
  have hD:v=.non:=hD
  exact nd_t L hD
 .have hv:v=.non:=nd_f L
  refine⟨_,rfl,SK.ok N Z hb ar er hq ?_ Pd a6 (ae.trans an) ((af.trans s9).free aM) (PlanAt.same aj an)⟩
  cases e:dueF n B N with
  |none=>rfl
  |some ks=>
   rw[e]at hD
   obtain⟨tt,e5,_⟩:=hD
   rw[hv]at e5
   cases e5
abbrev Qqi:Stmt:=top 43
def Qqj(B:List BR):BR->Option Str
 |.work w=>if (B.filter (Zs w)).isEmpty=true then some w else none
 |_=>none
def lack(B:List BR):List Str:=B.filterMap (Qqj B)
def keepR(lk:List Str)(r:BR):Bool:=r.own.all fun w=>!decide (w∈lk)
def Qme(B:List BR):List BR:=B.filter (keepR (lack B))
theorem Qqk(h:r.word≠"work"):Qqj B r=none:=by
 cases r with
 |work w=>exact Y21 rfl h
 |_=>rfl
theorem lack_mem{w:Str}:w∈lack B↔BR.work w∈B/\B.filter (Zs w)=[]:=by
 unfold lack
 rw[xQ]
 constructor
 .rintro⟨r,d,e⟩
  cases r with
  |work w'=>
   have a:(if (B.filter (Zs w')).isEmpty=true then some w' else none)=some w:=e
   by_cases c:(B.filter (Zs w')).isEmpty=true
   .rw[Y22 c]at a
    cases a
    exact⟨d,kXc.mp c⟩
   .rw[Y20 c]at a;cases a
  |_=>cases e
 .rintro⟨f,b⟩
  refine⟨_,f,?_⟩
  show(if (B.filter (Zs w)).isEmpty=true then some w else none)=some w
  rw[Y22 (by rw[b];rfl)]
theorem keep_iff{lk:List Str}:keepR lk r=true↔∀w∈r.own,w∉lk:=by
 unfold keepR
 rw[jXa]
 exact⟨fun h w a=>by have:=h w a;simpa using this,fun h w a=>by have:=h w a;simpa using this⟩
theorem Qyw(h:BookOk n B):BookOk n (Qme B):=by
 refine⟨h.n1,h.n12,⟨fun r a=>h.wb.ok r (xY.mp a).1,h.wb.nd.sublist List.filter_sublist,fun r a w c=>?_,jQc (jXf _ _) h.wb.len,h.wb.few.elim fun f q=>⟨f,q.1,fun r a=>q.2 r (xY.mp a).1⟩⟩,?_,fun r a=>h.gn r (xY.mp a).1⟩
 .obtain⟨g,d⟩:=xY.mp a
  refine xY.mpr ⟨h.wb.ref r g w c,keep_iff.mpr fun x i=>?_⟩
  rw[jW.mp i]
  exact keep_iff.mp d w c
 .have b:=h.hd
  cases B with
  |nil=>cases b
  |cons r B=>
   have e:r=.days n:=Y5 b
   unfold Qme
   rw[jQd (by rw[e];rfl),e]
   rfl
theorem Quc{w:Str}(h:BR.work w∈Qme B):∃v l c,BR.way w v l c∈Qme B:=by
 obtain⟨i,d⟩:=xY.mp h
 have a:=keep_iff.mp d w jY
 have k:B.filter (Zs w)≠[]:=fun e=>a (lack_mem.mpr ⟨i,e⟩)
 obtain⟨r,g⟩:=List.exists_mem_of_ne_nil _ k
 obtain⟨f,b⟩:=xY.mp g
 cases r with
 |way w' v l c=>
  have e:w'=w:=kK b
  subst e
  exact⟨v,l,c,xY.mpr ⟨f,keep_iff.mpr fun x j=>by rw[jW.mp j];exact a⟩⟩
 |_=>cases b
theorem own6(r:BR):(inV (.str r.word) [.str "work",.str "way",.str "uses",.str "takes",.str "gives",.str "late"]=true/\cutV (r.cells.map kV) (some 1) (some 2)=r.own.map V.str/\r.word≠"after")\/(inV (.str r.word) [.str "work",.str "way",.str "uses",.str "takes",.str "gives",.str "late"]=false/\r.word="after"/\cutV (r.cells.map kV) (some 1) (some 3)=r.own.map V.str)\/(inV (.str r.word) [.str "work",.str "way",.str "uses",.str "takes",.str "gives",.str "late"]=false/\r.word≠"after"/\r.own=[]):=by
 have e:∀(a b:V) (r:List V),cutV (a::b::r) (some 1) (some 2)=[b]:=fun a b r=>by
  unfold cutV
  rw[show(1:Int)=((1:Nat):Int)from rfl,show(2:Int)=((2:Nat):Int)from rfl,HT.sIx_nat,HT.sIx_nat,yZ,yZ,wK Om,wK Om]
  rfl
 have h:∀(a b c:V) (r:List V),cutV (a::b::c::r) (some 1) (some 3)=[b,c]:=fun a b c r=>by
  unfold cutV
  rw[show(1:Int)=((1:Nat):Int)from rfl,show(3:Int)=((3:Nat):Int)from rfl,HT.sIx_nat,HT.sIx_nat,yZ,yZ,yZ,wK Om,wK Om]
  rfl
 cases r with
 |days n=>exact .inr (.inr ⟨(by show inV (.str "days") _=false;decide +kernel),(Sn "days" "after"),rfl⟩)
 |bench b r=>exact .inr (.inr ⟨(by show inV (.str "bench") _=false;decide +kernel),(Sn "bench" "after"),rfl⟩)
 |shut b f t=>exact .inr (.inr ⟨(by show inV (.str "shut") _=false;decide +kernel),(Sn "shut" "after"),rfl⟩)
 |store b m f=>exact .inr (.inr ⟨(by show inV (.str "store") _=false;decide +kernel),(Sn "store" "after"),rfl⟩)
 |work w=>exact .inl ⟨(by show inV (.str "work") _=true;decide +kernel),e _ _ _,(Sn "work" "after")⟩
 |way w v l c=>exact .inl ⟨(by show inV (.str "way") _=true;decide +kernel),e _ _ _,(Sn "way" "after")⟩
 |use k w v t m=>match k with
  |0=>exact .inl ⟨(by show inV (.str "uses") _=true;decide +kernel),e _ _ _,(Sn "uses" "after")⟩
  |1=>exact .inl ⟨(by show inV (.str "takes") _=true;decide +kernel),e _ _ _,(Sn "takes" "after")⟩
  |2=>exact .inl ⟨(by show inV (.str "gives") _=true;decide +kernel),e _ _ _,(Sn "gives" "after")⟩
 |after w x g=>exact .inr (.inl ⟨(by show inV (.str "after") _=false;decide +kernel),rfl,h _ _ _ _⟩)
 |late w d c=>exact .inl ⟨(by show inV (.str "late") _=true;decide +kernel),e _ _ _,(Sn "late" "after")⟩
theorem Qfa(x:Str)(l:List Str):inV (.str x) (l.map V.str)=decide (x∈l):=by
 rw[jZf,decide_eq_true_iff]
 unfold inV
 rw[jXb]
 constructor
 .rintro⟨v,a,e⟩
  obtain⟨y,b,rfl⟩:=zV.mp a
  have c:(y == x)=true:=e
  rw[<-eq_of_beq c];exact b
 .intro h
  exact⟨.str x,zV.mpr ⟨x,h,rfl⟩,(by show(x == x)=true;exact beq_self_eq_true x)⟩
theorem Qql(l:List Str):(l.map V.str).all Wv=true:=by
 rw[jXa]
 intro v a
 obtain⟨y,_,rfl⟩:=zV.mp a
 rfl
def Qvl(_:Fg):Sp:=fun vs H Q _=>∃(d:Addr) (us:List V) (B:List BR),vs=[.ref d]/\H d=some (.lst us)/\RowsB H us B/\B.length<=400 /\
 ∀(g:Addr) (ys:List V) (H':Hp),Same H H'->H' g=some (.lst ys)->RowsB H' ys (Qme B)->Q (.ref g) H'
theorem scDone:FnScope ["_law_book_here","_law_lacking","_law_found","_law_row","_law_names"] ["_law_book_here"] (Qh Qqi):=Sc
theorem okDone(F:Fn K mg "_law_all_done" Qqi)(M:Mg mg)(C:Cal P w K mg base 1 "_law_ways" ["_law_book_here","_law_work"] (Qok K)):Cal P w K mg base 2 "_law_all_done" ["_law_book_here"] (Qvl K):=by
 refine Xt F scDone (fun _ _ _ _ _ _=>bind1 (fun _=>rfl)) (fun vs H Q E h=>?_) (fun f aw A ao s H vs Q E L h=>?_)
 .obtain⟨d,us,B,rfl,_⟩:=h
  rfl
 obtain⟨d,us,B,rfl,hd,hB,bl,q⟩:=h
 have ag:=Z6 6 L.un
 refine⟨_,(Qg (Z4 1 scDone.nd (Yu ["_law_row","_law_book_here"] [none,some 0] rfl (Qx (pv 0)) (fun _ _ _=>(Z3 0 (show(["_law_row","_law_book_here"]:List Str).Nodup by decide +kernel))) (fun _ _ _=>(Zw (PW.pt (Zq (Qm Yq (Qr (Yf (K:=K) rfl) (pv 0) Qe) Qq (Qs _)) (Zb (Qm (Qjp (K:=K) (n:=6) rfl ag) (Xj C (L.mono Dc) (Qa (pv 1) (Qa (Qr (Yf (K:=K) rfl) (pv 0) Qe) Qf))) (Xd Qf) (Qs _))))))) (fun _ _ _=>(Qr (Yf (K:=K) rfl) (pv 0) Qe))))
  (Qg (Z4 2 scDone.nd (Xd Qf))
  (Qg (Ye Y33 rfl (Qx (pv 0)) (Z3 3 scDone.nd) (Qg (Z4 4 scDone.nd (Xd Qf))
  (Qg (Xy (Qm Vk (Qr Qn (pv 3) Qe) (Xd (Qa Qq (Qa Qq (Qa Qq (Qa Qq (Qa Qq (Qa Qq Qf))))))) rfl) (Qi (Z4 4 scDone.nd (Xi Jj (pv 3) (Xn Qe) (Xn Qe)))) Xa)
  (Qg (Xy (Qm Yq (Qr Qn (pv 3) Qe) Qq (Qs _)) (Qi (Z4 4 scDone.nd (Xi Jj (pv 3) (Xn Qe) (Xn Qe)))) Xa)
  (Qi (Xy (Qm (Qjp (K:=K) (n:=6) rfl ag) (Yu ["_law_name_here","_law_lacking"] [none,some 1] rfl (Qx (pv 4)) (fun _ _ _=>(Z3 0 (show(["_law_name_here","_law_lacking"]:List Str).Nodup by decide +kernel))) (fun _ _ _=>(Zw (Qm (Qle (K:=K) rfl) (pv 0) (pv 1) rfl))) (fun _ _ _=>(pv 0))) (Xd Qf) (Qs _)) (Qi (Yg (Zh Y1 Y2 Y3 Xh (pv 2) (Qa (pv 3) Qf)))) Xa))))))
  (Qi (Xb (pv 2)))))),?_⟩
 refine Ju ?_
 intro av ar au
 have hz:=X0 20000
 have lu:=hB.length
 refine⟨_,rfl,d,rfl,⟨_,Qb hd⟩,fun D hD=>Qcd (f:=Qqj B) (fun _ v x=>v=.str x) (fun _ e=>e) (fun _ e=>e) rfl hd hB Om hD (fun r R H1 hm s1 L P1 P2 k1 k2=>?_) (fun S H1 s1 hE hi=>?_)⟩
 .refine⟨_,rfl,R,_,_,_,rfl,rfl,Qb L,Yp r,rfl,_,rfl,ite2 (fun y=>?_) (fun y=>iteF (k2 (Qqk fun e=>y (by rw[e];exact yesS _)) _ (Same.refl _)))⟩
  obtain⟨w,rfl⟩:=Vq (eqS y)
  have a1:atI ((BR.work w).cells.map kV) 1=some (.str w):=rfl
  refine⟨_,rfl,_,rfl,R,_,_,_,rfl,rfl,Qb L,a1,d,w,us,B,rfl,s1 _ _ hd,hB.same s1,Om,fun D3 ak k U f3 h3 g=>?_⟩
  refine⟨Z1 0,fun p4 aq=>?_⟩
  have s4:=Qd aq (.lst [])
  have aa:=U.trans s4
  have l3:=g.length
  refine⟨D3,p4,ak,rfl,rfl,Qb (s4 _ _ h3),Qb Qc,_,rfl,ite2 (fun y2=>?_) (fun y2=>k2 (Y20 fun e=>y2 (kXc.mpr (jYb (by rw[l3,kXc.mp e];rfl)))) _ aa)⟩
  exact⟨_,rfl,R,_,_,_,rfl,rfl,Qb (aa _ _ L),a1,k1 _ _ w (Y22 (kXc.mpr (jYb (by rw[<-l3,kXc.mp y2];rfl)))) aa rfl⟩
 .have ey:=Je hi
  have hL:H1 D=some (.lst ((lack B).map V.str)):=by rw[hE,ey];rfl
  refine⟨Z1 0,fun l G=>?_⟩
  have FH:H l=none:=by
   cases e5:H l with
   |none=>rfl
   |some o=>rw[s1 _ _ e5]at G;cases G
  have FD:l≠D:=fun e=>by rw[e,hE]at G;cases G
  have s2:=Qd G (.lst [])
  have hF:upd H1 l (.lst []) l=some (.lst []):=Qc
  generalize upd H1 l (.lst [])=H2 at s2 hF⊢
  let aj:Nat->St->Hp->Prop:=fun i σ k=>∃(v3 v4:Option V) (S:List V),σ=[some (.ref d),some (.ref D),some (.ref l),v3,v4]/\k l=some (.lst S)/\RowsB k S ((B.take i).filter (keepR (lack B)))/\S.length<=i/\k D=some (.lst ((lack B).map V.str))/\Same H k
  refine⟨_,rfl,d,rfl,⟨_,Qb (s2 _ _ (s1 _ _ hd))⟩,Zc (K:=K) (a:=d) (xs:=us) aj ⟨none,none,[],rfl,hF,.nil,jK _,s2 _ _ hL,s1.trans s2⟩ (fun i σ k _ h=>?_) ?_ ?_⟩
  .obtain⟨v3,v4,S,rfl,J,g,ad,t,U⟩:=h
   exact U.seq (Qb hd)
  .rintro i x σ k e1 ⟨v3,v4,S,rfl,J,g,ad,t,U⟩
   obtain⟨r,R,er,rfl,L⟩:=(hB.same U).get e1
   refine⟨Z1 0,fun P4 an=>?_⟩
   have s4:=Qd an (.lst [])
   have hP:upd k P4 (.lst []) P4=some (.lst []):=Qc
   generalize upd k P4 (.lst [])=H4 at s4 hP⊢
   refine Qjz (fun p H'=>∃P5:Addr,p=[some (.ref d),some (.ref D),some (.ref l),some (.ref R),some (.ref P5)]/\Same k H'/\H' P5=some (.lst (if r.word="after" then[]else r.own.map V.str))) ?_ fun REST=>?_
   .rintro p H5 ⟨P5,rfl,Y,W⟩
    have ae:=Y _ _ L
    dsimp only
    refine Qic (fun p H'=>∃P5:Addr,p=[some (.ref d),some (.ref D),some (.ref l),some (.ref R),some (.ref P5)]/\Same k H'/\H' P5=some (.lst (r.own.map V.str))) ?_ fun u=>?_
    .rintro p H6 ⟨P6,rfl,s6,T⟩
     refine⟨_,rfl,P6,rfl,⟨_,Qb T⟩,fun D7 ah=>?_⟩
     let ai:Nat->St->List V->Hp->Prop:=fun m τ O Z=>∃v:Option V,τ=[v,some (.ref D)]/\O=((r.own.take m).filter fun w=>decide (w∈lack B)).map V.str/\O.length<=m/\Z D7=some (.lst O)/\Same H6 Z
     refine Ze (n:=r.own.length) ai ?_ (fun m τ O Z hm h=>?_) (fun m τ O Z hm h=>?_) (fun τ O Z h=>?_) ?_ ?_
     .exact⟨none,rfl,rfl,jK _,Qc,Qd ah _⟩
     .obtain⟨v,rfl,X,N,j,I⟩:=h
      have:r.own.length<=2:=by cases r<;>simp[BR.own]
      exact⟨j,Om⟩
     .obtain⟨v,rfl,X,N,j,I⟩:=h
      exact⟨_,.str r.own[m],Qb (I _ _ T),by rw[yW,gE hm];rfl⟩
     .obtain⟨v,rfl,X,N,j,I⟩:=h
      exact⟨_,Qb (I _ _ T),by rw[jX];exact jK _⟩
     .rintro m τ O Z x7 H8 hm ⟨v,rfl,X,N,j,I⟩ ⟨rfl,e7⟩
      have ex:=e7 _ (Qb (I _ _ T))
      rw[yW,gE hm]at ex
      cases ex
      have eo:r.own[m]?=some r.own[m]:=gE hm
      refine⟨_,rfl,_,rfl,D,_,rfl,.inl (Qb (I _ _ (s6 _ _ t))),rfl,Qql _,_,rfl,ite2 (fun y=>?_) (fun y=>?_)⟩
      .have y':decide (r.own[m]∈lack B)=true:=by rw[<-Qfa];exact y
       refine⟨_,rfl,j,_,rfl,?_,by rw[jJ];exact jQb N,Qc,fun b o e=>?_⟩
       .rw[filter_next _ eo,Y22 y',zQ,X];rfl
       .rw[Qj (Qk e ah)];exact I _ _ e
      .have y':¬decide (r.own[m]∈lack B)=true:=fun z=>y (by show inV (.str r.own[m]) ((lack B).map V.str)=true;rw[Qfa];exact z)
       refine⟨_,rfl,?_,Om,j,I⟩
       rw[filter_next _ eo,Y20 y',xX]
       exact X
     .rintro τ O Z ⟨v,rfl,X,N,j,I⟩
      rw[yV]at X
      refine⟨Z1 0,fun p8 am=>?_⟩
      have s8:=Qd am (.lst [])
      have c:=s6.trans (I.trans s8)
      have al:=c _ _ L
      have kp:keepR (lack B) r=O.isEmpty:=by
       rw[jZf,keep_iff,kXc,X,List.map_eq_nil_iff,List.filter_eq_nil_iff]
       exact⟨fun h w hw=>by simpa using h w hw,fun h w hw=>by simpa using h w hw⟩
      refine⟨D7,p8,O,rfl,rfl,Qb (s8 _ _ j),Qb Qc,_,rfl,ite2 (fun y=>?_) (fun y=>?_)⟩
      .have ac:=c _ _ J
       refine⟨_,rfl,.inl ⟨rfl,_,Qb ac⟩,_,rfl,l,_,_,rfl,rfl,ac,by have:=hB.length;have h9:=(kX.mp er).1;lia,_,_,_,rfl,Qc,?_,by rw[jJ];exact jQb ad,?_,fun b o e=>?_⟩
       .rw[filter_next _ er,Y22 (by rw[kp];exact y)]
        exact((g.same c).snoc al).updL ac g.noRow
       .rw[Qj FD.symm];exact c _ _ t
       .rw[Qj (Qk e FH)];exact(U.trans c) _ _ e
      .refine⟨_,_,S,rfl,c _ _ J,?_,Om,c _ _ t,U.trans c⟩
       rw[filter_next _ er,Y20 (by rw[kp];exact y),xX]
       exact g.same c
    .refine⟨_,rfl,R,_,_,_,rfl,rfl,Qb ae,Yp r,rfl,_,rfl,ite2 (fun y=>?_) (fun y=>?_)⟩
     .have ew:=eqS y
      rcases own6 r with⟨_,_,h⟩ | ⟨_,_,h⟩ | ⟨_,h,_⟩
      .exact Y21 ew h
      .refine⟨_,rfl,_,rfl,_,rfl,R,_,rfl,Qb ae,fun p6 ab=>?_⟩
       rw[h]
       exact u _ _ ⟨p6,rfl,Y.trans (Qd ab _),Qc⟩
      .exact Y21 ew h
     .refine u _ _ ⟨P5,rfl,Y,?_⟩
      rw[W,Y20 (fun e=>y (by rw[e];exact yesS _))]
   .have ap:=s4 _ _ L
    refine⟨_,rfl,R,_,_,_,rfl,rfl,Qb ap,Yp r,Z1 6,fun p5 af=>?_⟩
    have Y:=s4.trans (Qd af (.lst [.str "work",.str "way",.str "uses",.str "takes",.str "gives",.str "late"]))
    refine⟨p5,_,rfl,.inl (Qb Qc),rfl,rfl,_,rfl,ite2 (fun y=>?_) (fun y=>?_)⟩
    .rcases own6 r with⟨_,h,h'⟩ | ⟨h,_,_⟩ | ⟨h,_,_⟩
     .refine⟨_,rfl,_,rfl,_,rfl,R,_,rfl,Qb (Y _ _ L),fun p6 ab=>?_⟩
      rw[h]
      exact REST _ _ ⟨p6,rfl,Y.trans (Qd ab _),by rw[Y20 h'];exact Qc⟩
     .exact Y21 (h.symm.trans y) Dc
     .exact Y21 (h.symm.trans y) Dc
    .refine REST _ _ ⟨P4,rfl,Y,?_⟩
     have W:=(Qd af (.lst [.str "work",.str "way",.str "uses",.str "takes",.str "gives",.str "late"])) _ _ hP
     rcases own6 r with⟨h,_,_⟩ | ⟨_,h,_⟩ | ⟨_,h,h'⟩
     .exact Y21 h y
     .rw[Y22 h];exact W
     .rw[Y20 h,h'];exact W
  .rintro σ k ⟨v3,v4,S,rfl,J,g,ad,t,U⟩
   rw[lu,yV]at g
   exact⟨_,rfl,q l S k U J g⟩
end
end Nb
namespace L2
open PySem PySem.Spec PyProof.Rows
theorem filter_next{α β:Type}{xs:List α}{x:α}(h:xs[i]?=some x)(a:α->Bool):(xs.take (i+1)).filter a=(xs.take i).filter a++(if a x=true then[x]else[]):=by
 rw[Vu h,jKa]
 congr 1
 by_cases c:a x=true
 .rw[Y22 c,jQd c];rfl
 .rw[Y20 c,wX c];rfl
theorem Qyx{α β:Type}{xs:List α}{val:α->V}{D:Addr}{Q:Addr->Hp->Prop}(g:β->V)(f:α->β)(d:α->Bool)(q:τ0=none::cs)(p:Walk J H xs val)(F:xs.length<sizeLine)(s:H D=none)
  (w:∀x∈xs,∀H1,Same H H1->∀P:Bool->Hp->Prop,(∀H2,Same H1 H2->P (d x) H2)->tt (some (val x)::cs) H1 P)
  (A:∀x∈xs,d x=true->∀H1,Same H H1->∀P:V->Hp->Prop,(∀H2,Same H1 H2->P (g (f x)) H2)->te (some (val x)::cs) H1 P)
  (z:∀H1,Same H H1->H1 D=some (.lst (((xs.filter d).map f).map g))->Q D H1) :
  LcW J D τ0 H (Vi 0) tt te Q:=by
 subst q
 let m:Nat->St->List V->Hp->Prop:=fun i j e H1=>∃v:Option V,j=v::cs/\H1 D=some (.lst e)/\Same H H1/\i<=xs.length/\e=(((xs.take i).filter d).map f).map g
 refine Ze (n:=xs.length) m ?_ (fun i j e H1 k h=>?_) (fun i j e H1 k h=>?_) (fun j e H1 h=>?_) ?_ ?_
 .exact⟨none,rfl,Qc,Qd s _,xW _,rfl⟩
 .obtain⟨v,rfl,a,b,_,rfl⟩:=h
  refine⟨a,?_⟩
  rw[jX,jX]
  have t:=jXf d (xs.take i)
  rw[xJ]at t
  lia
 .obtain⟨v,rfl,a,b,_,B⟩:=h
  exact p.go i H1 b k
 .obtain⟨v,rfl,a,b,_,B⟩:=h
  exact p.stop H1 b
 .rintro i j e H1 x H2 k ⟨v,rfl,a,b,_,rfl⟩ u
  obtain⟨rfl,y,o,rfl⟩:=p.yl i H1 x H2 b u k
  refine w y (kW o) _ b _ fun C l=>?_
  by_cases c:d y=true
  .rw[c]
   refine iteT ?_
   refine A y (kW o) c _ (b.trans l) _ fun E r=>⟨(l.trans r) _ _ a,_,rfl,Qc,Zt ((b.trans l).trans r) s,k,?_⟩
   rw[filter_next (β:=β) o d,Y22 c,zQ,zQ]
   rfl
  .rw[Bool.eq_false_iff.mpr c]
   refine iteF ⟨_,rfl,l _ _ a,b.trans l,k,?_⟩
   rw[filter_next (β:=β) o d,Y20 c,xX]
 .rintro j e H1 ⟨v,rfl,a,b,_,rfl⟩
  rw[yV]at a
  exact z H1 b a
end L2
namespace Nb
open PySem L2
abbrev sEas:Stmt:=top 44
theorem Qqm:∀{us:List V} {B:List BR},RowsB H us B->∃zs:List (Addr×BR),us=zs.map (fun z=>V.ref z.1)/\zs.map (·.2)=B/\∀z∈zs,H z.1=some (.lst (z.2.cells.map kV)):=by
 intro us B h
 unfold RowsB at h
 induction B generalizing us with
 |nil=>cases h;exact⟨[],rfl,rfl,fun _ h=>nomatch h⟩
 |cons r B ih=>
  cases h with
  |cons z t=>
   obtain⟨l,rfl,f⟩:=z
   obtain⟨zs,d,c,b⟩:=ih t
   refine⟨(l,r)::zs,by rw[d];rfl,by rw[zX,c],fun z a=>?_⟩
   rcases kZ.mp a with e | e
   .rw[e];exact f
   .exact b z e
theorem Qqn{H:Hp}:∀{zs:List (Addr×BR)},(∀z∈zs,H z.1=some (.lst (z.2.cells.map kV)))->RowsB H (zs.map fun z=>V.ref z.1) (zs.map (·.2))
 |[],_=>.nil
 |z::zs,h=>.cons ⟨z.1,rfl,h z jY⟩ (Qqn fun y a=>h y (kQ _ a))
def Ez(r r':BR):Prop:=r'=r\/∃b m,r=.bench b m/\r'=.bench b 99
def Drp:BR->Prop
 |.shut _ _ _=>True
 |.use _ _ _ _ _=>True
 |.after _ _ _=>True
 |_=>False
inductive Eased:List BR->List BR->Prop
 |nil:Eased [] []
 |keep {r r' B B':_}:Ez r r'->Eased B B'->Eased (r::B) (r'::B')
 |drop {r B B':_}:Drp r->Eased B B'->Eased (r::B) B'
theorem Eased.app{A A':List BR}(h:Eased A A')(h':Eased B B'):Eased (A++B) (A'++B'):=by
 induction h with
 |nil=>exact h'
 |keep e _ ih=>exact .keep e ih
 |drop e _ ih=>exact .drop e ih
theorem Wt{p:BR->Bool}:∀{B:List BR},(∀r∈B,p r=false->Drp r)->Eased B (B.filter p)
 |[],_=>.nil
 |r::B,h=>by
  have a:=Wt (p:=p) (B:=B) fun q b=>h q (kQ _ b)
  cases e:p r with
  |true=>rw[jQd e];exact .keep (.inl rfl) a
  |false=>rw[wX (by rw[e];exact yQ)];exact .drop (h r jY e) a
theorem Qbz{r':BR}(h:Ez r r'):r'.key=r.key/\r'.word=r.word/\r'.own=r.own/\r'.names=r.names:=by
 rcases h with rfl | ⟨b,m,rfl,rfl⟩
 .exact⟨rfl,rfl,rfl,rfl⟩
 .exact⟨rfl,rfl,rfl,rfl⟩
theorem Kn(h:Eased B B'){r':BR}(hr:r'∈B'):∃r∈B,Ez r r':=by
 induction h with
 |nil=>cases hr
 |@keep r q B B' e _ ih=>
  rcases kZ.mp hr with rfl | hr
  .exact⟨r,jY,e⟩
  .obtain⟨x,a,ex⟩:=ih hr
   exact⟨x,kQ _ a,ex⟩
 |drop e _ ih=>
  obtain⟨x,a,ex⟩:=ih hr
  exact⟨x,kQ _ a,ex⟩
theorem Qde(h:Eased B B')(hr:r∈B)(d:¬Drp r)(c:∀b m,r≠.bench b m):r∈B':=by
 induction h with
 |nil=>cases hr
 |@keep q q' B B' e _ ih=>
  rcases kZ.mp hr with rfl | hr
  .rcases e with rfl | ⟨b,m,a,_⟩
   .exact jY
   .exact Y21 a (c b m)
  .exact kQ _ (ih hr)
 |drop e _ ih=>
  rcases kZ.mp hr with rfl | hr
  .exact Y21 e d
  .exact ih hr
theorem Qgw(h:Eased B B'):wks B'=wks B:=by
 unfold wks
 induction h with
 |nil=>rfl
 |@keep q q' B B' e _ ih=>
  rw[jXe,jXe,ih,show Ki q'=Ki q by rcases e with rfl | ⟨b,m,rfl,rfl⟩<;>rfl]
 |@drop q B B' e _ ih=>
  rw[jXe,ih,show Ki q=none by cases q<;>first | rfl | exact e.elim]
theorem Qqo(h:Eased B B')(w:Str):B'.filter (Zs w)=B.filter (Zs w):=by
 induction h with
 |nil=>rfl
 |@keep q q' B B' e _ ih=>
  rcases e with rfl | ⟨b,m,rfl,rfl⟩
  .rw[kXa,kXa,ih]
  .rw[wX (show ¬Zs w (.bench b 99)=true from yQ),wX (show ¬Zs w (.bench b m)=true from yQ),ih]
 |@drop q B B' e _ ih=>
  rw[wX (show ¬Zs w q=true by cases q<;>first | exact yQ | exact e.elim),ih]
theorem Qud(h:Eased B B')(nd:B.Pairwise Apart):B'.Pairwise Apart:=by
 induction h with
 |nil=>exact .nil
 |@keep q q' B B' e hB ih=>
  obtain⟨g,d⟩:=jYe.mp nd
  refine jYe.mpr ⟨fun a f=>?_,ih d⟩
  obtain⟨i,b,c⟩:=Kn hB f
  have:=g i b
  unfold Apart at this⊢
  rw[(Qbz e).1,(Qbz e).2.1,(Qbz c).1,(Qbz c).2.1]
  exact this
 |drop e _ ih=>exact ih (jYe.mp nd).2
theorem Qgx(h:Eased B B'):B'.length<=B.length:=by
 induction h with
 |nil=>exact jK _
 |keep e _ ih=>rw[yZ,yZ];lia
 |drop e _ ih=>rw[yZ];lia
theorem Qkn(h:Eased B B')(bk:BookOk n B):BookOk n B':=by
 refine⟨bk.n1,bk.n12,⟨fun r a=>?_,Qud h bk.wb.nd,fun r a w c=>?_,jQc (Qgx h) bk.wb.len,bk.wb.few.elim fun i q=>⟨i,q.1,fun r a w c=>?_⟩⟩,?_,fun r a=>?_⟩
 .obtain⟨q,d,e⟩:=Kn h a
  have:=bk.wb.ok q d
  rcases e with rfl | ⟨b,m,rfl,rfl⟩
  .exact this
  .exact⟨Dc,Dc⟩
 .obtain⟨q,d,e⟩:=Kn h a
  rw[(Qbz e).2.2.1]at c
  exact Qde h (bk.wb.ref q d w c) (fun z=>z) fun b m z=>nomatch z
 .obtain⟨x,j,e⟩:=Kn h a
  rw[(Qbz e).2.2.1]at c
  exact q.2 x j w c
 .have f:=bk.hd
  cases h with
  |nil=>cases f
  |keep e _=>
   have g:=Y5 f
   rcases e with rfl | ⟨b,m,rfl,rfl⟩
   .exact f
   .cases g
  |drop e _=>
   have g:=Y5 f
   rw[g]at e
   exact e.elim
 .obtain⟨q,d,e⟩:=Kn h a
  unfold BR.gn
  rw[(Qbz e).2.2.2]
  exact bk.gn q d
def AllW(B:List BR):Prop:=∀w∈wks B,hasW B w=true
theorem Qgy(h:Eased B B'):hasW B'=hasW B:=by
 funext w
 unfold hasW
 rw[Qqo h w]
theorem Qdf(h:Eased B B')(a:PlanFor n B pl):PlanFor n B' pl:=by
 refine⟨by rw[Qgw h,Qgy h];exact a.keys,fun q e=>?_⟩
 obtain⟨l,c,f,d⟩:=a.good q e
 exact⟨l,c,Qde h f (fun z=>z) (fun b m z=>nomatch z),d⟩
theorem Qgz(h:Eased B B')(a:AllW B):AllW B':=by
 unfold AllW
 rw[Qgw h,Qgy h]
 exact a
theorem Que(h:dueF n B pl=some ks):∃(a b:Str) (rest:List Key),ks=inr a::inr b::rest:=by
 unfold dueF at h
 have f:=List.mem_of_mem_head? (Option.mem_def.mpr h)
 rcases kJ.mp f with h | h
 .obtain⟨r,_,c⟩:=jJe.mp h
  cases r with
  |work w=>
   have e:ks∈(if hasK pl w=true then[]else[[(inr ("work":Str):Key),inr w]]):=c
   split at e
   .exact nomatch e
   .rw[jW.mp e];exact⟨_,_,_,rfl⟩
  |_=>exact nomatch c
 .rcases kJ.mp h with h | h
  .obtain⟨r,_,c⟩:=jJe.mp h
   cases r with
   |bench b r=>obtain⟨d,_,rfl⟩:=zV.mp c;exact⟨_,_,_,rfl⟩
   |_=>exact nomatch c
  .rcases kJ.mp h with h | h
   .obtain⟨r,_,c⟩:=jJe.mp h
    cases r with
    |store st mo fi=>obtain⟨d,_,rfl⟩:=zV.mp c;exact⟨_,_,_,rfl⟩
    |_=>exact nomatch c
   .obtain⟨r,_,c⟩:=jJe.mp h
    cases r with
    |after w x g=>
     have e:ks∈(if (look pl x).2-(look pl w).2-lenB B w (look pl w).1<g then[[(inr ("after":Str):Key),inr w,inr x]]else[]):=c
     split at e
     .rw[jW.mp e];exact⟨_,_,_,rfl⟩
     .exact nomatch e
    |_=>exact nomatch c
theorem Quf(h:r.word=wordOf 2):∃x,atI (r.cells.map kV) 1=some (.str x):=by
 have a:=(Xq r (k:=2) Om).mp h
 cases r with
 |shut b f t=>exact⟨b,rfl⟩
 |use k _ _ _ _=>match k,a with
  |0,a=>exact Y21 a (by show ¬((6:Nat)=2);decide)
  |1,a=>exact Y21 a (by show ¬((7:Nat)=2);decide)
  |2,a=>exact Y21 a (by show ¬((8:Nat)=2);decide)
 |bench b _=>exact⟨b,rfl⟩
 |store b _ _=>exact⟨b,rfl⟩
 |work b=>exact⟨b,rfl⟩
 |way b _ _ _=>exact⟨b,rfl⟩
 |after b _ _=>exact⟨b,rfl⟩
 |late b _ _=>exact⟨b,rfl⟩
 |days _=>have c:(0:Nat)=2:=a;lia
theorem Qqp{k:Nat}(c:k=6\/k=7\/k=8)(h:r.word=wordOf k):∃x,atI (r.cells.map kV) 3=some (.str x):=by
 have a:=(Xq r (k:=k) Om).mp h
 cases r with
 |use k _ _ t _=>exact⟨t,rfl⟩
 |days _=>have b:(0:Nat)=k:=a;lia
 |bench _ _=>have b:(1:Nat)=k:=a;lia
 |shut _ _ _=>have b:(2:Nat)=k:=a;lia
 |store _ _ _=>have b:(3:Nat)=k:=a;lia
 |work _=>have b:(4:Nat)=k:=a;lia
 |way _ _ _ _=>have b:(5:Nat)=k:=a;lia
 |after _ _ _=>have b:(9:Nat)=k:=a;lia
 |late _ _ _=>have b:(10:Nat)=k:=a;lia
theorem Qyy(h:¬(!inV (.str r.word) [.str "takes",.str "gives"])=true):∃k,(k=7\/k=8)/\r.word=wordOf k:=by
 have a:inV (.str r.word) ((["takes","gives"]:List Str).map V.str)=true:=by
  cases e:inV (.str r.word) [.str "takes",.str "gives"]with
  |true=>exact e
  |false=>rw[e]at h;exact Y21 rfl h
 rw[Qfa]at a
 have b:r.word∈(["takes","gives"]:List Str):=kK a
 rcases kZ.mp b with e | e
 .exact⟨7,.inl rfl,e⟩
 .exact⟨8,.inr rfl,jW.mp e⟩
theorem Qqq{t:TT}{A B:TS}(Z:Hp->Prop)(a:∀H',Z H'->B D σ H')(h:∀Bx:TS,(∀H',Z H'->Bx D σ H')->tIfS t A Bx D σ H):tIfS t A B D σ H:=h B a
theorem Qyz{t:TT}{A B:TS}(Z:Hp->Prop)(a:∀H',Z H'->A D σ H')(h:∀Ax:TS,(∀H',Z H'->Ax D σ H')->tIfS t Ax B D σ H):tIfS t A B D σ H:=h A a
def Qqr(K:Fg):Sp:=fun vs H Q _=>∃(d P:Addr) (n:Int) (us:List V) (B:List BR) (pl:Z7),vs=[.ref d,.ref P]/\H d=some (.lst us)/\RowsB H us B/\BookOk n B/\PlanAt K H P pl/\PlanFor n B pl/\AllW B /\
 ∀(g:Addr) (ys:List V) (B':List BR) (H':Hp),Same H H'->H' g=some (.lst ys)->RowsB H' ys B'->BookOk n B'->PlanFor n B' pl->AllW B'->Q (.ref g) H'
theorem cutk(ks:List Key)(m:Nat):cutV (ks.map kV) none (some ((m:Nat):Int))=(ks.take m).map kV:=by
 unfold cutV
 rw[HT.sIx_none,jZc,kYe,HT.sIx_nat,jX,<-kQc]
 congr 1
 rcases Nat.le_total m ks.length with c | c
 .rw[wK c]
 .rw[kZa c,wQ (jK _),wQ c]
theorem Qix(h:r.cells.take 2=[inr ("bench":Str),inr x]):∃m,r=.bench x m:=by
 have c:r.word="bench":=by
  have:r.cells.take 2=inr r.word::(r.cells.drop 1).take 1:=by cases r<;>rfl
  rw[this]at h
  injection h with d
  exact Y37 d
 cases r with
 |bench b m=>
  have f:[(inr ("bench":Str):Key),inr b]=[inr ("bench":Str),inr x]:=h
  injection f with _ a
  injection a with e
  exact⟨m,by rw[Y37 e]⟩
 |days _=>have a:(0:Nat)=1:=(Xq _ (k:=1) Dc).mp c;exact Y21 a Dc
 |shut _ _ _=>have a:(2:Nat)=1:=(Xq _ (k:=1) Dc).mp c;exact Y21 a Dc
 |store _ _ _=>have a:(3:Nat)=1:=(Xq _ (k:=1) Dc).mp c;exact Y21 a Dc
 |work _=>have a:(4:Nat)=1:=(Xq _ (k:=1) Dc).mp c;exact Y21 a Dc
 |way _ _ _ _=>have a:(5:Nat)=1:=(Xq _ (k:=1) Dc).mp c;exact Y21 a Dc
 |after _ _ _=>have a:(9:Nat)=1:=(Xq _ (k:=1) Dc).mp c;exact Y21 a Dc
 |late _ _ _=>have a:(10:Nat)=1:=(Xq _ (k:=1) Dc).mp c;exact Y21 a Dc
 |use k _ _ _ _=>have a:(BR.use k _ _ _ _).kind=1:=(Xq _ (k:=1) Dc).mp c;match k,a with
  |0,a=>exact Y21 a (by show ¬((6:Nat)=1);decide)
  |1,a=>exact Y21 a (by show ¬((7:Nat)=1);decide)
  |2,a=>exact Y21 a (by show ¬((8:Nat)=1);decide)
theorem Qad{k:Nat}(c:k=2\/k=6\/k=7\/k=8\/k=9)(h:r.word=wordOf k):Drp r:=by
 have a:=(Xq r (k:=k) Om).mp h
 cases r with
 |shut _ _ _=>exact trivial
 |use _ _ _ _ _=>exact trivial
 |after _ _ _=>exact trivial
 |days _=>have b:(0:Nat)=k:=a;lia
 |bench _ _=>have b:(1:Nat)=k:=a;lia
 |store _ _ _=>have b:(3:Nat)=k:=a;lia
 |work _=>have b:(4:Nat)=k:=a;lia
 |way _ _ _ _=>have b:(5:Nat)=k:=a;lia
 |late _ _ _=>have b:(10:Nat)=k:=a;lia
section
variable{w:World}
theorem Qfb{p:BR->Bool}:∀zs:List (Addr×BR),(zs.filter fun z=>p z.2).map (·.2)=(zs.map (·.2)).filter p
 |[]=>rfl
 |z::zs=>by
  rw[zX]
  cases e:p z.2 with
  |true=>rw[jQd (p:=fun z:Addr×BR=>p z.2) e,jQd e,zX,Qfb zs]
  |false=>rw[wX (p:=fun z:Addr×BR=>p z.2) (by rw[e];exact yQ),wX (by rw[e];exact yQ),Qfb zs]
theorem scEas:FnScope ["_law_book_here","_law_plan_here","_law_k","_law_found","_law_more","_law_row"] ["_law_book_here","_law_plan_here"] (Qh sEas):=Sc
theorem okEas(F:Fn K mg "_law_eased" sEas)(M:Mg mg)(ab:Cal P w K mg base 5 "broken" ["book","plan"] (Qsx K)):Cal P w K mg base 6 "_law_eased" ["_law_book_here","_law_plan_here"] (Qqr K):=by
 refine Xt F scEas (fun _ _ _ _ _ _=>Jt (fun _ _=>rfl)) (fun vs H Q E h=>?_) (fun f aE A aA s H vs Q E hr h=>?_)
 .obtain⟨d,Pp,n,us,B,pl,rfl,_⟩:=h
  rfl
 obtain⟨d,Pp,n,us,B,pl,rfl,hd,hB,bk,hP,aC,az,q⟩:=h
 have av:=Z6 6 hr.un
 refine⟨_,(Qg (Ye Y33 rfl (Xo rfl M.range_ (Qa Qe Qf)) (Z3 2 scEas.nd) (Qg (Z4 3 scEas.nd (Xj ab (hr.mono Dc) (Qa (pv 0) (Qa (pv 1) Qf))))
  (Qi (Xy (PW.pt (Zq (Qm Qdn (pv 3) Wl (Qs _)) (Zb (Qm Yq (Qr Xr (pv 3) Qe) Qq (Qs _))))) (Qi (Qaq (i:=0) ["_law_row","_law_found"] [none,some 3] rfl scEas.nd rfl (inl rfl) (Qx (pv 0)) (fun _ _ _=>(Z3 0 (show(["_law_row","_law_found"]:List Str).Nodup by decide +kernel))) (fun _ _ _=>(Zw (Qm (op_neK (K:=K) (n:=6) rfl av) (Xi (Jv (K:=K) rfl) (pv 0) Yi (Xn Qe)) (Xv (Vn (K:=K) rfl) rfl M.list_ Qhn (Qa (pv 1) Qf)) (Qs _)))) (fun _ _ _=>(pv 0)))) (Qi (Xy (Qm Qdn (pv 3) Wl (Qs _)) (Qg (Z4 4 scEas.nd (Xd Qf))
  (Qg (Ye Y33 rfl (Qx (pv 0)) (Z3 5 scEas.nd) (Qi (Xy (PW.pt (Zq (Qm (Qjo (K:=K) (n:=6) rfl av) (Xi Jj (pv 5) Yi (Xn Qe)) (Xd (Qa Qq (Qa (Qr Xr (pv 3) Qe) Qf))) (Qs _)) (Zb (Qm Yq (Qr Xr (pv 3) Qe) Qq (Qs _))))) (Qi (Yg (Zh Y1 Y2 Y3 Xh (pv 4) (Qa (Xd (Qa Qq (Qa (Qr Xr (pv 3) Qe) (Qa Qe Qf)))) Qf)))) (Qi (Xy (PW.pt (Zq (Qm Yq (Qr Qn (pv 5) Qe) Qq (Qs _)) (Zq (Qm Yq (Qr Xr (pv 3) Qe) Qq (Qs _)) (Zb (Qm Yq (Qr Qn (pv 5) Qe) (Qr Xr (pv 3) Qe) (Qs _)))))) (Qi (Z4 4 scEas.nd (Ql Kc (pv 4) (Xd Qf)))) (Qi (Xy (PW.pt (Zq (Qm Yq (Qr Qn (pv 5) Qe) Qq (Qs _)) (Zq (Qm Yq (Qr Xr (pv 3) Qe) Qq (Qs _)) (Zq (Qm Qdm (pv 2) Qe (Qs _)) (Zb (Qm Yq (Qr Qn (pv 5) Qe) (Qr Xr (pv 3) Qe) (Qs _))))))) (Qi (Z4 4 scEas.nd (Ql Kc (pv 4) (Xd Qf)))) (Qi (Xy (PW.pt (Wa (Qm Wp (Qr Qn (pv 5) Qe) (Xd (Qa Qq (Qa Qq Qf))) rfl) (Wa (Qm Yq (Qr Xr (pv 3) Qe) Qq (Qs _)) (Vh (Qm Qdl (Qr Qn (pv 5) Qe) (Qr Xr (pv 3) Qe) (Qs _)))))) (Qi (Yg (Zh Y1 Y2 Y3 Xh (pv 4) (Qa (pv 5) Qf)))) Xa)))))))))
  (Qi (Z4 0 scEas.nd (pv 4))))) Xa))))))
  (Qi (Xb (pv 0)))),?_⟩
 have hz:=X0 2000000
 let ax:Nat->St->Hp->Prop:=fun i σ H1=>∃(g:Addr) (ys:List V) (Y:List BR) (u2 u3 u4 u5:Option V),σ=[some (.ref g),some (.ref Pp),u2,u3,u4,u5]/\H1 g=some (.lst ys)/\RowsB H1 ys Y/\BookOk n Y/\PlanFor n Y pl/\AllW Y/\Same H H1
 refine⟨12,rfl,Dc,Dc,Yh (lo:=0) (n:=(12:Int).toNat) ax ⟨d,us,B,none,none,none,none,rfl,hd,hB,bk,aC,az,Same.refl _⟩ ?_ ?_⟩
 .rintro i σ H1 hi ⟨g,ys,Y,u2,u3,u4,u5,rfl,hg,ad,W,C,ah,s1⟩
  have lB:=W.wb.len
  have ly:=ad.length
  refine⟨_,rfl,_,rfl,g,Pp,n,ys,Y,pl,rfl,hg,ad,W,PlanAt.same hP s1,C,fun v H2 s2 hD=>?_⟩
  have am:=s1.trans s2
  have ai:=s2 _ _ hg
  have aq:=ad.same s2
  cases e:dueF n Y pl with
  |none=>
   rw[e]at hD
   have hD:v=.non:=hD
   subst hD
   refine⟨_,rfl,rfl,_,rfl,iteF (iteF ?_)⟩
   refine⟨_,rfl,rfl,_,rfl,iteF ?_⟩
   exact⟨g,ys,Y,_,_,_,_,rfl,ai,aq,W,C,ah,am⟩
  |some ks=>
   rw[e]at hD
   obtain⟨L,ev,hT⟩:=hD
   subst ev
   obtain⟨a,b,o,rfl⟩:=Que e
   have ac:atI ((inr a::inr b::o:List Key).map kV) 0=some (.str a):=Kx (k:=0) rfl
   have ag:atI ((inr a::inr b::o:List Key).map kV) 1=some (.str b):=Kx (k:=1) rfl
   refine⟨_,rfl,rfl,_,rfl,iteT ?_⟩
   refine⟨_,rfl,L,_,_,_,rfl,rfl,Qz hT,ac,rfl,_,rfl,ite2 (fun c=>?_) (fun c=>?_)⟩
   .obtain⟨zs,eu,eB,au⟩:=Qqm aq
    have lz:zs.length<=400:=by rw[<-eB,jX]at lB;exact lB
    refine⟨_,rfl,g,rfl,⟨_,Qb ai⟩,fun D hD=>?_⟩
    refine Qyx (fun z:Addr×BR=>V.ref z.1) id (fun z:Addr×BR=>decide (z.2.cells.take 3≠inr a::inr b::o)) rfl (Zu (val:=fun z:Addr×BR=>V.ref z.1) (Qb (by rw[<-eu];exact ai))) Om hD (fun z al H3 s3 P h=>?_) (fun z al _ H3 s3 P h=>?_) fun H3 s3 h3=>?_
    .refine⟨_,rfl,_,rfl,z.1,_,rfl,Qb (s3 _ _ (au z al)),fun p1 an=>?_⟩
     rw[show cutV (z.2.cells.map kV) none (some 3)=(z.2.cells.take 3).map kV from cutk _ 3]
     have s4:=Qd an (.lst ((z.2.cells.take 3).map kV))
     have h4:upd H3 p1 (.lst ((z.2.cells.take 3).map kV)) p1=some (.lst ((z.2.cells.take 3).map kV)):=Qc
     generalize upd H3 p1 (.lst ((z.2.cells.take 3).map kV))=S at s4 h4⊢
     refine⟨_,rfl,L,_,rfl,.inr (Qz ((s3.trans s4) _ _ hT)),fun p2 ak=>?_⟩
     refine⟨p1,p2,_,_,rfl,rfl,Qb (Qd ak _ _ _ h4),Qb Qc,fun c5 aj=>?_⟩
     have h5:=h _ (s4.trans (Qd ak (.lst ((inr a::inr b::o:List Key).map kV))))
     refine⟨_,rfl,?_⟩
     rw[show decide (z.2.cells.take 3≠inr a::inr b::o)=!c5 by
      cases c5 with
      |true=>rw[aj.mp rfl];exact xV (fun z=>z rfl)
      |false=>exact yJ fun z=>yQ (aj.mpr z)]at h5
     exact h5
    .exact⟨_,rfl,h H3 (Same.refl _)⟩
    rw[List.map_id]at h3
    have eE:Eased Y ((zs.filter fun z:Addr×BR=>decide (z.2.cells.take 3≠inr a::inr b::o)).map (·.2)):=by
     rw[<-eB,Qfb (p:=fun r=>decide (r.cells.take 3≠inr a::inr b::o))]
     refine Wt fun r _ hr=>?_
     have hr:=Y69 hr
     have hr:r.cells.take 3=inr a::inr b::o:=Classical.byContradiction hr
     have ea:a="after":=eqS c
     refine Qad (k:=9) Om ?_
     have:r.cells.take 3=inr r.word::(r.cells.drop 1).take 2:=by cases r<;>rfl
     rw[this]at hr
     injection hr with h1
     rw[Y37 h1,ea]
     rfl
    exact⟨D,_,_,_,_,_,_,rfl,h3,Qqn fun z al=>s3 _ _ (au z (xY.mp al).1),Qkn eE W,Qdf eE C,Qgz eE ah,am.trans s3⟩
   .refine⟨_,rfl,rfl,_,rfl,iteT ?_⟩
    refine⟨Z1 0,fun m hm=>?_⟩
    have s3:=Qd hm (.lst [])
    have h3:upd H2 m (.lst []) m=some (.lst []):=Qc
    generalize upd H2 m (.lst [])=H3 at s3 h3⊢
    let ay:Nat->St->Hp->Prop:=fun j σ S=>∃(u5:Option V) (m:Addr) (X:List V) (B2:List BR),σ=[some (.ref g),some (.ref Pp),some (.int (0+(i:Int))),some (.ref L),some (.ref m),u5]/\H2 m=none/\S m=some (.lst X)/\RowsB S X B2/\Eased (Y.take j) B2/\Same H2 S
    refine⟨_,rfl,g,rfl,⟨_,Qb (s3 _ _ ai)⟩,Zc (K:=K) (a:=g) (xs:=ys) ay ⟨_,m,[],[],rfl,hm,h3,.nil,.nil,s3⟩ (fun j σ S _ h=>?_) ?_ ?_⟩
    .obtain⟨u5,m,X,B2,rfl,_,_,_,_,s4⟩:=h
     exact Qb (s4 _ _ ai)
    .rintro j x σ S ex ⟨u5,m,X,B2,rfl,ae,h4,Z,hE,s4⟩
     obtain⟨r,l,er,rfl,ar⟩:=aq.get ex
     have hl:=s4 _ _ ar
     have R:=s4 _ _ hT
     have jl:=(kX.mp er).1
     have wl:X.length<=400:=by
      have h1:=Z.length
      have h2:=Qgx hE
      rw[xJ]at h2
      lia
     have aw:=Yp r
     have DROP:∀t,Same S t->Drp r->∃(u5':Option V) (U:Addr) (ws':List V) (B2':List BR),[some (.ref g),some (.ref Pp),some (.int (0+(i:Int))),some (.ref L),some (.ref m),some (.ref l)]=[some (V.ref g),some (.ref Pp),some (.int (0+(i:Int))),some (.ref L),some (.ref U),u5']/\H2 U=none/\t U=some (.lst ws')/\RowsB t ws' B2'/\Eased (Y.take (j+1)) B2'/\Same H2 t:=fun t y ap=>
      ⟨_,m,X,B2,rfl,ae,y _ _ h4,Z.same y,by rw[Vu er,<-xX B2];exact hE.app (.drop ap .nil),s4.trans y⟩
     have NIL:∀t,Same S t->Drp r->∀U,t U=none->∃(u5':Option V) (m'':Addr) (ws':List V) (B2':List BR),[some (.ref g),some (.ref Pp),some (.int (0+(i:Int))),some (.ref L),some (.ref U),some (.ref l)]=[some (V.ref g),some (.ref Pp),some (.int (0+(i:Int))),some (.ref L),some (.ref m''),u5']/\H2 m''=none/\(upd t U (.lst (X++[]))) m''=some (.lst ws')/\RowsB (upd t U (.lst (X++[]))) ws' B2'/\Eased (Y.take (j+1)) B2'/\Same H2 (upd t U (.lst (X++[]))):=fun t y ap U aa=>
      ⟨_,U,X++[],B2,rfl,(s4.trans y).free aa,Qc,by rw[xX];exact Z.same (y.trans (Qd aa _)),by rw[Vu er,<-xX B2];exact hE.app (.drop ap .nil),(s4.trans y).trans (Qd aa _)⟩
     have PUT:∀t,Same S t->∀(x:Addr) (r':BR),Ez r r'->t x=some (.lst (r'.cells.map kV))->x≠m->∃(u5':Option V) (m'':Addr) (ws':List V) (B2':List BR),[some (.ref g),some (.ref Pp),some (.int (0+(i:Int))),some (.ref L),some (.ref m),some (.ref l)]=[some (V.ref g),some (.ref Pp),some (.int (0+(i:Int))),some (.ref L),some (.ref m''),u5']/\H2 m''=none/\(upd t m (.lst (X++[.ref x]))) m''=some (.lst ws')/\RowsB (upd t m (.lst (X++[.ref x]))) ws' B2'/\Eased (Y.take (j+1)) B2'/\Same H2 (upd t m (.lst (X++[.ref x]))):=fun t y x r' aD hx aB=>
      ⟨_,m,_,B2++[r'],rfl,ae,Qc,((Z.same y).updL (y _ _ h4) Z.noRow).snoc (by rw[Qj aB];exact hx),by rw[Vu er];exact hE.app (.keep aD .nil),Zt (s4.trans y) ae⟩
     have lm:l≠m:=fun e=>by rw[e,ae]at ar;cases ar
     show tIfS _ _ _ _ _ _
     refine Qqq (Same S) (fun t y=>?_) (fun Bx u=>?_)
     rotate_left
     .refine⟨_,rfl,_,rfl,l,_,rfl,Qb hl,fun p1 an=>?_⟩
      rw[show cutV (r.cells.map kV) none (some 2)=(r.cells.take 2).map kV from cutk _ 2]
      have s6:=Qd an (.lst ((r.cells.take 2).map kV))
      have h6:upd S p1 (.lst ((r.cells.take 2).map kV)) p1=some (.lst ((r.cells.take 2).map kV)):=Qc
      generalize upd S p1 (.lst ((r.cells.take 2).map kV))=H6 at s6 h6⊢
      refine⟨_,rfl,L,_,_,_,rfl,rfl,Qz (s6 _ _ R),ag,Z1 2,fun p2 ak=>?_⟩
      have s7:=Qd ak (.lst [.str "bench",.str b])
      have h7:upd H6 p2 (.lst [.str "bench",.str b]) p2=some (.lst ([inr ("bench":Str),inr b].map kV)):=Qc
      generalize upd H6 p2 (.lst [.str "bench",.str b])=H7 at s7 h7⊢
      have O:=s6.trans s7
      refine⟨p1,p2,_,_,rfl,rfl,Qb (s7 _ _ h6),Qb h7,fun c5 aj=>⟨_,rfl,ite2 (fun y1=>?_) (fun y1=>iteF (u H7 O))⟩⟩
      refine⟨_,rfl,L,_,_,_,rfl,rfl,Qz (O _ _ R),ac,rfl,_,rfl,ite2 (fun y2=>?_) (fun y2=>u H7 O)⟩
      obtain⟨m0,rfl⟩:=Qix (aj.mp y1)
      refine⟨_,rfl,.inl ⟨rfl,_,Qb (O _ _ h4)⟩,_,rfl,L,_,_,_,rfl,rfl,Qz (O _ _ R),ag,Z1 3,fun p3 J=>?_⟩
      have I:=Qd J (.lst [.str "bench",.str b,.int 99])
      refine⟨m,_,_,rfl,rfl,I _ _ (O _ _ h4),Om,?_⟩
      exact PUT _ (O.trans I) p3 (.bench b 99) (.inr ⟨b,m0,rfl,rfl⟩) Qc (fun e=>by rw[e,O _ _ h4]at J;cases J)
     have G:=y _ _ hl
     have N:=y _ _ R
     have af:=y _ _ h4
     show tIfS _ _ _ _ _ _
     refine Qqq (Same S) (fun H6 s6=>?_) (fun Bx u=>?_)
     rotate_left
     .refine⟨_,rfl,l,_,_,_,rfl,rfl,Qb G,aw,rfl,_,rfl,ite2 (fun y1=>?_) (fun y1=>iteF (u t y))⟩
      have ew:r.word=wordOf 2:=eqS y1
      refine⟨_,rfl,L,_,_,_,rfl,rfl,Qz N,ac,rfl,_,rfl,ite2 (fun y2=>?_) (fun y2=>iteF (u t y))⟩
      obtain⟨x,hx⟩:=Quf ew
      refine⟨_,rfl,l,_,_,_,rfl,rfl,Qb G,hx,_,rfl,L,_,_,_,rfl,rfl,Qz N,ag,rfl,_,rfl,ite2 (fun y3=>?_) (fun y3=>u t y)⟩
      refine⟨_,rfl,Z1 0,fun p3 J=>?_⟩
      have s7:=Qd J (.lst [])
      refine⟨m,p3,_,_,rfl,rfl,s7 _ _ af,Qc,by show _+0<=_;lia,fun U aa=>?_⟩
      exact NIL _ (y.trans s7) (Qad (k:=2) Om ew) U aa
     clear y G N af
     have G:=s6 _ _ hl
     have N:=s6 _ _ R
     have af:=s6 _ _ h4
     show tIfS _ _ _ _ _ _
     refine Qqq (Same S) (fun H7 s7=>?_) (fun Bx u=>?_)
     rotate_left
     .refine⟨_,rfl,l,_,_,_,rfl,rfl,Qb G,aw,rfl,_,rfl,ite2 (fun y1=>?_) (fun y1=>iteF (u H6 s6))⟩
      have ew:r.word=wordOf 6:=eqS y1
      refine⟨_,rfl,L,_,_,_,rfl,rfl,Qz N,ac,rfl,_,rfl,ite2 (fun y2=>?_) (fun y2=>iteF (u H6 s6))⟩
      refine⟨_,rfl,_,_,rfl,rfl,_,rfl,ite2 (fun y3=>?_) (fun y3=>iteF (u H6 s6))⟩
      obtain⟨x,hx⟩:=Qqp (k:=6) (.inl rfl) ew
      refine⟨_,rfl,l,_,_,_,rfl,rfl,Qb G,hx,_,rfl,L,_,_,_,rfl,rfl,Qz N,ag,rfl,_,rfl,ite2 (fun y4=>?_) (fun y4=>u H6 s6)⟩
      refine⟨_,rfl,Z1 0,fun p3 J=>?_⟩
      have I:=Qd J (.lst [])
      refine⟨m,p3,_,_,rfl,rfl,I _ _ af,Qc,by show _+0<=_;lia,fun U aa=>?_⟩
      exact NIL _ (s6.trans I) (Qad (k:=6) Om ew) U aa
     clear s6 G N af
     have G:=s7 _ _ hl
     have N:=s7 _ _ R
     show tIfS _ _ _ _ _ _
     refine Qyz (Same S) (fun H8 I=>?_) (fun Ax ao=>?_)
     .exact⟨_,rfl,.inl ⟨rfl,_,Qb (I _ _ h4)⟩,_,rfl,m,_,_,rfl,rfl,I _ _ h4,Om,PUT H8 I l r (.inl rfl) (I _ _ hl) lm⟩
     refine⟨_,rfl,l,_,_,_,rfl,rfl,Qb G,aw,Z1 2,fun p3 J=>?_⟩
     have I:=s7.trans (Qd J (.lst [.str "takes",.str "gives"]))
     have h8:upd H7 p3 (.lst [.str "takes",.str "gives"]) p3=some (.lst [.str "takes",.str "gives"]):=Qc
     generalize upd H7 p3 (.lst [.str "takes",.str "gives"])=H8 at I h8⊢
     refine⟨p3,_,rfl,.inl (Qb h8),rfl,rfl,_,rfl,ite2 (fun y1=>iteT (ao H8 I)) (fun y1=>?_)⟩
     obtain⟨k,hk,ew⟩:=Qyy y1
     refine⟨_,rfl,L,_,_,_,rfl,rfl,Qz (I _ _ R),ac,rfl,_,rfl,ite2 (fun y2=>iteT (ao H8 I)) (fun y2=>?_)⟩
     obtain⟨x,hx⟩:=Qqp (.inr hk) ew
     exact⟨_,rfl,l,_,_,_,rfl,rfl,Qb (I _ _ hl),hx,_,rfl,L,_,_,_,rfl,rfl,Qz (I _ _ R),ag,rfl,_,rfl,ite2 (fun y3=>ao H8 I) (fun y3=>DROP H8 I (Qad (k:=k) Om ew))⟩
    .rintro σ S ⟨u5,m,X,B2,rfl,ae,h4,Z,hE,s4⟩
     rw[ly,yV]at hE
     exact⟨_,rfl,m,X,B2,_,_,_,_,rfl,h4,Z,Qkn hE W,Qdf hE C,Qgz hE ah,am.trans s4⟩
 .rintro σ H1 ⟨g,ys,Y,u2,u3,u4,u5,rfl,hg,ad,W,C,ah,s1⟩
  exact⟨_,rfl,q g ys Y H1 s1 hg ad W C ah⟩
end
end Nb
namespace L2
open PySem PySem.Spec PySem.Calls PyProof.Rows PySem.W
theorem Qfc(c:Nat):∀(k:Nat) (acc:Array Nat),(List.replicate k #[c]).foldl (· ++ ·) acc=acc++(List.replicate k c).toArray
 |0,acc=>by simp
 |k+1,acc=>by
  rw[yXe,kKe,Qfc c k,yXe,Array.append_assoc]
  congr 1
  apply Array.toList_inj.mp
  rw[kXe]
  rfl
theorem Qiy:OpR X (binaryOp .Mult) (fun x y H Q=>∃(c:Nat) (n:Int),x=.str ⟨#[c]⟩/\y=.int n/\0<=n/\n<=10000000/\Q (.str ⟨(List.replicate n.toNat c).toArray⟩) H):=by
 intro g s p H x y v u Q I k j h
 obtain⟨c,n,rfl,rfl,o,m,q⟩:=h
 obtain⟨t,rfl⟩:=k
 obtain⟨l,rfl⟩:=j
 have f:((⟨#[c]⟩:Str)).length=1:=rfl
 refine P.mul_str (by rw[xV Om,xV Om];rfl) (fun a b=>?_) (fun a b=>?_) ?_
 .rw[f]
  have:(1:Int)<=(2 ^ 63-1) / n:=by
   rw[Int.le_ediv_iff_mul_le Om]
   lia
  lia
 .rw[f,Nat.one_mul]
  unfold Builtin.Str.tooLong
  exact xV (by rw[sizeLine_eq];lia)
 .by_cases i:n<1
  .rw[Y22 i]
   obtain rfl:n=0:=Om
   exact⟨xW _,.str _,H,I.tok _,⟨_,rfl⟩,q⟩
  .rw[Y20 i]
   by_cases d:(n == 1||((⟨#[c]⟩:Str)).length == 0)=true
   .rw[Y22 d]
    have e:n=1:=by
     rw[f]at d
     simpa using d
    subst e
    exact⟨.str _,H,I,⟨_,rfl⟩,q⟩
   .rw[Y20 d]
    refine⟨?_,.str _,H,I.tok _,⟨_,rfl⟩,?_⟩
    .show((List.replicate n.toNat #[c]).foldl (· ++ ·) #[]).size<=_
     rw[Qfc,kJe,kY,kY,kYf]
     show 0+_<=_
     rw[sizeLine_eq]
     lia
    .rw[show(⟨(List.replicate n.toNat #[c]).foldl (· ++ ·) #[]⟩:Str)=⟨(List.replicate n.toNat c).toArray⟩by rw[Qfc];simp]
     exact q
end L2
namespace Nb
open PySem L2
abbrev sUse:Stmt:=top 46
abbrev sPic:Stmt:=top 45
def Qvm(K:Fg):Sp:=fun vs H Q _=>∃(d P:Addr) (bn:Str) (day n:Int) (us:List V) (B:List BR) (pl:Z7),vs=[.ref d,.ref P,.str bn,.int day]/\H d=some (.lst us)/\RowsB H us B/\BookOk n B/\PlanAt K H P pl/\PlanFor n B pl/\∀H',Same H H'->Q (.int ((pl.map (useR B bn day)).sum)) H'
def dgL(k:Int):List Nat:=[48+(k / 10 % 10).toNat,48+(k % 10).toNat]++List.replicate (k / 100).toNat 63
def lbL(n:Int)(u:Nat->Int)(b:Str):List Nat:=padL b++(List.range n.toNat).flatMap fun d=>dgL (u d)
def Qza(n:Int)(B:List BR)(pl:Z7):List Str:=(Yb B pl).map (wrC n B)++(bns B).map fun b=>ofL (lbL n (fun d:Nat=>(pl.map (useR B b (d:Int))).sum) b)
def Qvn(K:Fg):Sp:=fun vs H Q _=>∃(d P:Addr) (n:Int) (us:List V) (B:List BR) (pl:Z7),vs=[.ref d,.ref P]/\H d=some (.lst us)/\RowsB H us B/\BookOk n B/\PlanAt K H P pl/\PlanFor n B pl/\B.flatMap (gW pl)=[]/\∀(g:Addr) (H':Hp),Same H H'->H' g=some (.lst ((Qza n B pl).map V.str))->Q (.ref g) H'
theorem Qvo:(" ":Str)=⟨#[32]⟩:=Dk
theorem qm_one:("?":Str)=⟨#[63]⟩:=Dk
theorem Qvp:∀k,k<10->atI ("0123456789":Str).cps.toList ((k:Nat):Int)=some (48+k):=Dk
theorem Qiz(h:w.length<=12):sg (StrLaws.sliceText (w++⟨(List.replicate 13 32).toArray⟩) none (some 13))=padL w:=by
 have a:=sg_to (w++⟨(List.replicate 13 32).toArray⟩) 13
 rw[show((13:Nat):Int)=13 from rfl]at a
 rw[a,Zx]
 unfold padL
 have e:sg (⟨(List.replicate 13 32).toArray⟩:Str)=List.replicate 13 32:=rfl
 rw[e,List.take_append,wQ (by rw[Ya];lia),List.take_replicate,Ya,show min (13-w.length) 13=13-w.length by lia]
theorem Qqs{n:Int}{B:List BR}(b:WB n B)(a:Str)(d:Int):∀{pl:Z7} {m:Nat},pl.length<=m->0<=(pl.map (useR B a d)).sum/\(pl.map (useR B a d)).sum<=m*(400*99)
 |[],m,_=>⟨kZd _,by simp;lia⟩
 |c::A,m,h=>by
  rw[yZ]at h
  obtain⟨k,rfl⟩:∃k,m=k+1:=⟨m-1,Om⟩
  have f:=Qvg b a d c
  have e:=Qqs b a d (pl:=A) (m:=k) Om
  rw[zX,jZa]
  lia
theorem Qug(n:Nat)(u:Nat->Int)(b:Str):padL b++(List.range (n+1)).flatMap (fun d=>dgL (u d))=(padL b++(List.range n).flatMap fun d=>dgL (u d))++dgL (u n):=by
 rw[yQa,yXd,zJ]
 simp
section
variable{w:World}
theorem scUse:FnScope ["_law_book_here","_law_plan_here","_law_bench","_law_day","_law_total","_law_work","_law_done"] ["_law_book_here","_law_plan_here","_law_bench","_law_day"] (Qh sUse):=Sc
theorem okUse(F:Fn K mg "_law_used" sUse)(M:Mg mg)(g:Cal P w K mg base 1 "_law_length" ["_law_book_here","_law_work","_law_way_here"] (Qef K))(p:Cal P w K mg base 1 "_law_many" ["_law_book_here","_law_word","_law_work","_law_way_here","_law_thing"] (Quw K)):Cal P w K mg base 2 "_law_used" ["_law_book_here","_law_plan_here","_law_bench","_law_day"] (Qvm K):=by
 refine Xt F scUse (fun _ _ _ _ _ _=>Qsf (fun _ _ _ _=>rfl)) (fun vs H Q E h=>?_) (fun f ai A ae s H vs Q E hr h=>?_)
 .obtain⟨d,m,b,a,n,X,B,S,rfl,_⟩:=h
  rfl
 obtain⟨d,m,b,a,n,X,B,S,rfl,hd,hB,bk,hP,af,q⟩:=h
 refine⟨_,(Qg (Z4 4 scUse.nd Qe)
  (Qg (Qon (Ye Y33 rfl (Qsv (pv 1)) (Qas (K:=K) (i:=5) (j:=6) rfl rfl scUse.nd rfl rfl rfl rfl) (Qi (Xy (PW.pt (Zq (Qm Wu (Qr Xr (pv 6) Qe) (pv 3) (Qs _)) (Zb (Qm Qfe (pv 3) (Ql Xc (Qr Xr (pv 6) Qe) (Xj g (hr.mono Dc) (Qa (pv 0) (Qa (pv 5) (Qa (Qr Xr (pv 6) Qe) Qf))))) (Qs _))))) (Qi (Z4 4 scUse.nd (Ql Xc (pv 4) (Xj p (hr.mono Dc) (Qa (pv 0) (Qa Qq (Qa (pv 5) (Qa (Qr Xr (pv 6) Qe) (Qa (pv 2) Qf))))))))) Xa))))
  (Qi (Xb (pv 4))))),?_⟩
 refine Qeb ?_
 intro ag ah
 have hz:=X0 2000000
 have bl:=bk.wb.len
 obtain⟨C,r,W⟩:=id hP
 have U:wo H m d=some (.lst X):=Qor hd (Yl hd r (by intro z;cases z))
 have Y:RowsB (wo H m) X B:=hB.wo r
 have lp:=Paired.length W
 refine⟨_,rfl,m,C,rfl,r,fun nf o=>Qoo (fun i σ I=>∃L N:Option V,σ=[some (.ref d),some (.ref m),some (.str b),some (.int a),some (.int (((S.take i).map (useR B b a)).sum)),L,N]/\I m=some (.frz o (.dK C))/\Same (wo H m) I) ⟨none,none,rfl,Qc,Qkc (Same.refl _)⟩ (fun i σ I _ h=>?_) ?_ ?_⟩
 .obtain⟨L,N,rfl,J,s2⟩:=h
  exact J
 .rintro i k x σ I T' ek ⟨L,N,rfl,J,s2⟩ ab
  obtain⟨⟨w,v,u⟩,eq,e1,t,e2,hT⟩:=Qv W ek
  have ad:k=inr w:=e1
  have ac:x=.ref t:=e2
  subst ad ac
  obtain⟨l,c,G,b0,b1⟩:=af.good _ (kW eq)
  have y:=Quy r hT
  have s3:=Qd ab (.tup [.str w,.ref t])
  refine⟨T',_,rfl,Qz Qc,rfl,_,_,rfl,_,_,rfl,rfl,?_⟩
  show tIfS _ _ _ _ _ (upd I T' (.tup [.str w,.ref t]))
  generalize upd I T' (.tup [.str w,.ref t])=H3 at s3⊢
  have e:=s2.trans s3
  have Z:((S.take (i+1)).map (useR B b a)).sum=((S.take i).map (useR B b a)).sum+useR B b a (w,v,u):=by
   rw[Ka eq,zQ,List.sum_append]
   show _+(useR B b a (w,v,u)+0)=_
   lia
  have aa:useR B b a (w,v,u)=if u<=a/\a<u+l then Yx B 0 w v b else 0:=by
   show(if u<=a/\a<u+lenB B w v then Yx B 0 w v b else 0)=_
   rw[Zl bk.wb G]
  have no:(¬(u<=a/\a<u+l))->∀O,Same H3 O->∃L N:Option V,[some (.ref d),some (.ref m),some (.str b),some (.int a),some (.int (((S.take i).map (useR B b a)).sum)),some (.str w),some (.ref t)]=[some (V.ref d),some (.ref m),some (.str b),some (.int a),some (.int (((S.take (i+1)).map (useR B b a)).sum)),L,N]/\O m=some (.frz o (.dK C))/\Same (wo H m) O:=fun hn O R=>by
   rw[Z,aa,Y20 hn,Int.add_zero]
   exact⟨_,_,rfl,R _ _ (s3 _ _ J),e.trans R⟩
  refine⟨_,rfl,t,_,_,_,rfl,rfl,e.tup y,at1,_,rfl,_,_,rfl,rfl,_,rfl,ite2 (fun y1=>?_) (fun y1=>iteF (no (fun z=>y1 (yJ z.1)) H3 (Same.refl _)))⟩
  refine⟨_,rfl,_,rfl,t,_,_,_,rfl,rfl,e.tup y,at1,_,rfl,_,rfl,_,rfl,t,_,_,_,rfl,rfl,e.tup y,at0,d,w,v,n,X,B,l,c,rfl,e _ _ U,Y.same e,bk.wb,G,fun O R=>⟨_,_,rfl,rfl,_,_,rfl,rfl,_,rfl,ite2 (fun y2=>?_) (fun y2=>no (fun z=>y2 (yJ z.2)) O R)⟩⟩
  have D:=e.trans R
  refine⟨_,rfl,_,rfl,_,rfl,_,rfl,t,_,_,_,rfl,rfl,D.tup y,at0,_,rfl,d,0,w,v,b,X,B,rfl,D _ _ U,Y.same D,Om,fun H5 s5=>⟨_,_,rfl,rfl,?_⟩⟩
  rw[Z,aa,Y22 ⟨kK y1,kK y2⟩]
  exact⟨_,_,rfl,s5 _ _ (R _ _ (s3 _ _ J)),D.trans s5⟩
 .rintro σ I ⟨L,N,rfl,J,s2⟩
  rw[lp,yV]
  refine⟨m,o,C,nf,J,?_⟩
  have sb:=Qgb r s2
  exact⟨_,rfl,q _ sb⟩
theorem Quh:("#":Str)=⟨#[35]⟩:=Dk
theorem Qzb:(".":Str)=⟨#[46]⟩:=Dk
theorem ds_at1:atI (".#":Str).cps.toList 1=some 35:=Dk
theorem ds_at0:atI (".#":Str).cps.toList 0=some 46:=Dk
theorem sgn_of{b e:Int}{d:Nat}{k:Bool}(h:k=true↔b<=(d:Int)/\(d:Int)<e):∃c,atI (".#":Str).cps.toList (if k=true then 1 else 0)=some c/\(⟨#[c]⟩:Str)=sgnS b e d:=by
 unfold sgnS
 cases k with
 |true=>exact⟨35,by rw[Y22 rfl];exact ds_at1,by rw[Y22 (h.mp rfl),Quh]⟩
 |false=>exact⟨46,by rw[Y20 yQ];exact ds_at0,by rw[Y20 (fun z=>yQ (h.mpr z)),Qzb]⟩
theorem Qui{w:Str}{b e:Int}(a:sg x=padL w):x++Str.join "" ((List.range n.toNat).map (sgnS b e)) ++ " " ++ v=ofL (wrL n w v b e):=by
 refine Kl ?_
 rw[Qbs,Zx,Zx,Zx,a,Qac]
 unfold wrL
 rw[zJ]
 rfl
theorem Qko(h:B[i]?=some r):bns (B.take (i+1))=bns (B.take i)++(Qbl r).toList:=Jn Qbl h
theorem Qkp(h:B[i]?=some r):wks (B.take (i+1))=wks (B.take i)++(Ki r).toList:=Jn Ki h
theorem Qmf(h:r.word="bench"):∃b m,r=.bench b m:=by
 have a:=(Xq r (k:=1) Dc).mp h
 cases r with
 |bench b m=>exact⟨b,m,rfl⟩
 |use k _ _ _ _=>match k,a with
  |0,a=>exact Y21 a (by show ¬((6:Nat)=1);decide)
  |1,a=>exact Y21 a (by show ¬((7:Nat)=1);decide)
  |2,a=>exact Y21 a (by show ¬((8:Nat)=1);decide)
 |days _=>have c:(0:Nat)=1:=a;lia
 |shut _ _ _=>have c:(2:Nat)=1:=a;lia
 |store _ _ _=>have c:(3:Nat)=1:=a;lia
 |work _=>have c:(4:Nat)=1:=a;lia
 |way _ _ _ _=>have c:(5:Nat)=1:=a;lia
 |after _ _ _=>have c:(9:Nat)=1:=a;lia
 |late _ _ _=>have c:(10:Nat)=1:=a;lia
theorem scPic:FnScope ["_law_book_here","_law_plan_here","_law_days","_law_rows","_law_row","_law_way_here","_law_begin","_law_end","_law_signs","_law_day","_law_number"] ["_law_book_here","_law_plan_here"] (Qh sPic):=Sc
theorem okPic(F:Fn K mg "_law_picture" sPic)(M:Mg mg)(p:Cal P w K mg base 1 "_law_length" ["_law_book_here","_law_work","_law_way_here"] (Qef K))(N:Cal P w K mg base 2 "_law_used" ["_law_book_here","_law_plan_here","_law_bench","_law_day"] (Qvm K)):Cal P w K mg base 3 "_law_picture" ["_law_book_here","_law_plan_here"] (Qvn K):=by
 refine Xt F scPic (fun _ _ _ _ _ _=>Jt (fun _ _=>rfl)) (fun vs H Q E h=>?_) (fun f aB A am s H vs Q E hr h=>?_)
 .obtain⟨d,Pp,n,us,B,pl,rfl,_⟩:=h
  rfl
 obtain⟨d,Pp,n,us,B,pl,rfl,hd,hB,bk,hP,aa,hW,q⟩:=h
 have hu:=Z6 1 hr.un
 refine⟨_,(QSs.pss (Zf (Qbb (i:=2) scPic.nd rfl (inl rfl) (QE.of (Qr Qn (Qr Qn (pv 0) Qe) Qe)))
  (Zf (Qbb (i:=3) scPic.nd rfl (inl rfl) (qe_lst qa_nil))
  (Zf (QS.of (Ye Y33 rfl (Qx (pv 0)) (Z3 4 scPic.nd) (QSs.pss (Wc (qs_if (Qm Yq (Qr Qn (pv 4) Qe) Qq (Qs _)) (Zf (qs_asg (QE.of (Kz hu (pv 1) (Qr Qn (pv 4) Qe) (fun _ _=>rfl))) (Qjb rfl (Zn (Z3 5 scPic.nd) (Zn (Z3 6 scPic.nd) Qdk))))
  (Zf (Qbb (i:=7) scPic.nd rfl (Or.inr rfl) (QE.of (Ql Xc (pv 6) (Xj p (hr.mono Dc) (Qa (pv 0) (Qa (Qr Qn (pv 4) Qe) (Qa (pv 5) Qf)))))))
  (Zf (QS.of (Qaq (i:=8) ["_law_day","_law_begin","_law_end"] [none,some 6,some 7] rfl scPic.nd rfl (inl rfl) (Xo rfl M.range_ (Qa (pv 2) Qf)) (fun _ _ _=>(Z3 0 (show(["_law_day","_law_begin","_law_end"]:List Str).Nodup by decide +kernel))) (fun _ _ _=>Yr) (fun _ _ _=>(Qr Qfl Qq (Xv Qmr rfl M.int_ Qnl (Qa (Wn (Kb Wu (pv 1) (pv 0) (Qs _)) (Wm (Kb Qfe (pv 0) (pv 2) (Qs _)))) Qf))))))
  (Wc (QS.of (Yg (Zh Y1 Y2 Y3 Xh (pv 3) (Qa (Ql Xm (Ql Xm (Ql Xm (Xi Qer (Ql Xm (Qr Qn (pv 4) Qe) (Ql Qiy Qq Qe)) Yi (Xn Qe)) (Zh Y4 PySem.F.slot_str_join PySem.F.type_str_join (Vv (K:=K) rfl) Qq (Qa (pv 8) Qf))) Qq) (pv 5)) Qf)))))))) Qoc)))))
  (Zf (QS.of (Ye Y33 rfl (Qx (pv 0)) (Z3 4 scPic.nd) (QSs.pss (Wc (qs_if (Qm Yq (Qr Qn (pv 4) Qe) Qq (Qs _)) (Zf (Qbb (i:=8) scPic.nd rfl (inl rfl) (QE.of (Xi Qer (Ql Xm (Qr Qn (pv 4) Qe) (Ql Qiy Qq Qe)) Yi (Xn Qe))))
  (Zf (QS.of (Ye Y33 rfl (Xo rfl M.range_ (Qa (pv 2) Qf)) (Z3 9 scPic.nd) (QSs.pss (Zf (Qbb (i:=10) scPic.nd rfl (inl rfl) (QE.of (Xj N (hr.mono Dc) (Qa (pv 0) (Qa (pv 1) (Qa (Qr Qn (pv 4) Qe) (Qa (pv 9) Qf)))))))
  (Zf (Qbb (i:=8) scPic.nd rfl (inl rfl) (QE.of (Ql Xm (pv 8) (Qr Qfl Qq (Ql Xf (Ql Xu (pv 10) Qe) Qe)))))
  (Wc (Qbb (i:=8) scPic.nd rfl (inl rfl) (QE.of (Ql Xm (Ql Xm (pv 8) (Qr Qfl Qq (Ql Xf (pv 10) Qe))) (Ql Qiy Qq (Ql Xu (pv 10) Qe)))))))))))
  (Wc (QS.of (Yg (Zh Y1 Y2 Y3 Xh (pv 3) (Qa (pv 8) Qf))))))) Qoc)))))
  (Wc (qs_ret (QE.of (pv 3))))))))),?_⟩
 refine Qaa ?_
 intro ar az ax ay
 have hz:=X0 2000000
 have bl:=bk.wb.len
 have lu:=hB.length
 have n1:=bk.n1
 have aA:=bk.n12
 have pf:=Qeo bk.wb aa
 have nd:=aa.nd bk.wb
 obtain⟨u0,ac⟩:∃u0,us[0]?=some u0:=⟨_,gE (by
  rw[lu]
  exact(kX.mp bk.hd).1)⟩
 obtain⟨r0,ld,ae,rfl,ak⟩:=hB.get ac
 rw[bk.hd]at ae
 cases ae
 have a0:atI us 0=some (.ref ld):=Kx (k:=0) ac
 refine⟨_,rfl,d,_,_,_,rfl,rfl,Qb hd,a0,ld,_,_,_,rfl,rfl,Qb ak,(show atI ((BR.days n).cells.map kV) 1=some (.int n)from rfl),?_⟩
 refine⟨Z1 0,fun g hg=>?_⟩
 have s0:=Qd hg (.lst [])
 have h0:upd H g (.lst []) g=some (.lst []):=Qc
 generalize upd H g (.lst [])=H0 at s0 h0⊢
 have L:∀w:Str,w.length<=12->(StrLaws.sliceText (w++⟨(List.replicate 13 32).toArray⟩) none (some 13)).length=13:=fun w hw=>by rw[<-Ya,Qiz hw,Zp hw]
 have av:(⟨(List.replicate 13 32).toArray⟩:Str).length=13:=rfl
 let ai:Nat->St->Hp->Prop:=fun i y H1=>∃Z O R T u8:Option V,y=[some (.ref d),some (.ref Pp),some (.int n),some (.ref g),Z,O,R,T,u8,none,none]/\H1 g=some (.lst (((wks (B.take i)).map fun w=>wrC n B (w,look pl w)).map V.str))/\Same H H1
 refine⟨_,rfl,d,rfl,⟨_,Qb (s0 _ _ hd)⟩,Zc (K:=K) (a:=d) (xs:=us) ai ⟨none,none,none,none,none,rfl,h0,s0⟩ (fun i y H1 _ h=>?_) ?_ ?_⟩
 .obtain⟨Z,O,R,T,u8,rfl,_,J⟩:=h
  exact Qb (J _ _ hd)
 .rintro i x y H1 ex ⟨Z,O,R,T,u8,rfl,C,J⟩
  obtain⟨r,l,er,rfl,hl⟩:=(hB.same J).get ex
  have il:=(kX.mp er).1
  refine⟨_,rfl,l,_,_,_,rfl,rfl,Qb hl,Yp r,rfl,_,rfl,ite2 (fun c=>?_) (fun c=>?_)⟩
  .obtain⟨w,rfl⟩:=Vq (eqS c)
   have hw:=kW er
   obtain⟨l0,c0,ab,u,b0,b1⟩:=aa.get bk.wb (Zm hW hw)
   obtain⟨⟨v,b⟩,aj⟩:∃lk,look pl w=lk:=⟨_,rfl⟩
   rw[aj]at ab u b0 b1
   obtain⟨t,ap,hT⟩:=Qke (PlanAt.same hP J) nd ab
   obtain⟨nw,nv⟩:=Kq bk u
   have aq:=nv.2.1
   have an:wrC n B (w,look pl w)=ofL (wrL n w v b (b+l0)):=by
    rw[aj]
    show ofL (wrL n w v b (b+lenB B w v))=_
    rw[Zl bk.wb u]
   have a1:atI ((BR.work w).cells.map kV) 1=some (.str w):=rfl
   refine⟨_,rfl,_,rfl,l,_,_,_,rfl,rfl,Qb hl,a1,Pp,_,rfl,ap,t,_,rfl,hT,rfl,_,_,rfl,_,_,rfl,rfl,?_⟩
   refine⟨_,rfl,_,rfl,_,rfl,l,_,_,_,rfl,rfl,Qb hl,a1,_,rfl,d,w,v,n,us,B,l0,c0,rfl,J _ _ hd,hB.same J,bk.wb,u,fun H2 W=>⟨_,_,rfl,rfl,?_⟩⟩
   refine⟨_,rfl,n,rfl,Om,Om,fun D hD=>?_⟩
   refine Jw V.str (sgnS b (b+l0)) rfl Wj (by rw[wY];lia) hD (fun dd au H3 U P h=>?_) fun H3 U h3=>?_
   .have fin:∀k:Bool,(k=true↔b<=(dd:Int)/\(dd:Int)<b+l0)->∃(z:Str) (i:Int) (c:Nat),(V.str ".#")=.str z/\(V.int (if k=true then 1 else 0))=.int i/\z.length<=sizeLine/\atI z.cps.toList i=some c/\P (.str ⟨#[c]⟩) H3:=fun k hk=>by
     obtain⟨cc,h5,h6⟩:=sgn_of hk
     exact⟨_,_,cc,rfl,rfl,Dk,h5,by rw[h6];exact h H3 (Same.refl _)⟩
    refine⟨_,rfl,_,rfl,_,_,rfl,rfl,_,rfl,ite2 (fun y1=>?_) (fun y1=>?_)⟩
    .exact⟨_,rfl,_,rfl,_,_,rfl,rfl,.inr ⟨_,rfl,fin _ ⟨fun z=>⟨kK y1,kK z⟩,fun z=>yJ z.2⟩⟩⟩
    .exact .inr ⟨false,rfl,fin false ⟨fun z=>(nomatch z),fun z=>Y21 (yJ z.1) y1⟩⟩
   have Y:=W.trans U
   have ao:=J.trans Y
   have lx:(StrLaws.sliceText (w++⟨(List.replicate (Int.toNat 13) 32).toArray⟩) none (some 13)).length=13:=L w nw.2.1
   have px:sg (StrLaws.sliceText (w++⟨(List.replicate (Int.toNat 13) 32).toArray⟩) none (some 13))=padL w:=Qiz nw.2.1
   have lj:(Str.join "" ((List.range n.toNat).map (sgnS b (b+l0)))).length<=12:=by rw[<-Ya,Qac,Vw];lia
   have aw:=nw.2.1
   refine⟨_,rfl,.inl ⟨rfl,_,Qb (Y _ _ C)⟩,_,rfl,l,_,_,_,rfl,rfl,Qb (Y _ _ hl),a1,32,13,congrArg V.str Qvo,rfl,Dc,Dc,_,_,rfl,rfl,by show _+13<=_;lia,_,rfl,_,rfl,jQc (Nat.le_of_eq lx) Om,?_⟩
   generalize StrLaws.sliceText (w++⟨(List.replicate (Int.toNat 13) 32).toArray⟩) none (some 13)=X at lx px⊢
   refine⟨rfl,_,rfl,_,D,_,rfl,rfl,Qb h3,joinOk_of (b:=1) (fun t ht=>?_) (by rw[jX,wY];show _*1<=_;lia),?_⟩
   .obtain⟨d,_,rfl⟩:=zV.mp ht
    unfold sgnS
    split<;>decide +kernel
   rw[join_eq]
   refine⟨_,_,rfl,rfl,Om,?_⟩
   refine⟨_,_,rfl,rfl,by rw[Yk];show _+1<=_;lia,?_⟩
   refine⟨_,rfl,_,_,rfl,rfl,by rw[Yk,Yk];show _+_+1+_<=_;lia,?_⟩
   rw[Qui px,<-an]
   have wl:(wks (B.take i)).length<=400:=by
    have h8:(wks (B.take i)).length<=(B.take i).length:=zY _ _
    rw[xJ]at h8
    lia
   refine⟨g,_,_,rfl,rfl,Y _ _ C,by rw[jX,jX];lia,_,_,_,_,_,rfl,?_,Zt ao hg⟩
   rw[Qc,Qkp er,zQ,zQ]
   rfl
  .refine⟨_,_,_,_,_,rfl,?_,J⟩
   rw[Qkp er,Qbk (fun e=>c (by rw[e];exact yesS _))]
   show _=some (HO.lst (((wks (B.take i)++[]).map _).map _))
   rw[xX]
   exact C
 rintro y H1 ⟨Z,O,R,T,u8,rfl,C,J⟩
 rw[lu,yV]at C
 let ad:Nat->St->Hp->Prop:=fun i y H2=>∃Z O R T u8 u9 o:Option V,y=[some (.ref d),some (.ref Pp),some (.int n),some (.ref g),Z,O,R,T,u8,u9,o]/\H2 g=some (.lst (((Yb B pl).map (wrC n B)++(bns (B.take i)).map fun b=>ofL (lbL n (fun d:Nat=>(pl.map (useR B b (d:Int))).sum) b)).map V.str))/\Same H H2
 refine⟨_,rfl,d,rfl,⟨_,Qb (J _ _ hd)⟩,Zc (K:=K) (a:=d) (xs:=us) ad ⟨_,_,_,_,_,none,none,rfl,?_,J⟩ (fun i y H2 _ h=>?_) ?_ ?_⟩
 .have e:(Yb B pl).map (wrC n B)=(wks B).map fun w=>wrC n B (w,look pl w):=by unfold Yb;rw[jZd];rfl
  rw[C,e]
  show _=some (HO.lst ((_++[]).map _))
  rw[xX]
 .obtain⟨Z,O,R,T,u8,u9,o,rfl,_,W⟩:=h
  exact Qb (W _ _ hd)
 .rintro i x y H2 ex ⟨Z,O,R,T,u8,u9,o,rfl,G,W⟩
  obtain⟨r,l,er,rfl,hl⟩:=(hB.same W).get ex
  have il:=(kX.mp er).1
  refine⟨_,rfl,l,_,_,_,rfl,rfl,Qb hl,Yp r,rfl,_,rfl,ite2 (fun c=>?_) (fun c=>?_)⟩
  .obtain⟨b,m,rfl⟩:=Qmf (eqS c)
   have nb:NmOk b:=bk.gn _ (kW er) b jY
   have ag:=nb.2.1
   have a1:atI ((BR.bench b m).cells.map kV) 1=some (.str b):=rfl
   have lx:(StrLaws.sliceText (b++⟨(List.replicate (Int.toNat 13) 32).toArray⟩) none (some 13)).length=13:=L b ag
   have px:sg (StrLaws.sliceText (b++⟨(List.replicate (Int.toNat 13) 32).toArray⟩) none (some 13))=padL b:=Qiz ag
   refine⟨_,rfl,l,_,_,_,rfl,rfl,Qb hl,a1,32,13,congrArg V.str Qvo,rfl,Dc,Dc,_,_,rfl,rfl,by show _+13<=_;lia,_,rfl,_,rfl,jQc (Nat.le_of_eq lx) Om,?_⟩
   generalize StrLaws.sliceText (b++⟨(List.replicate (Int.toNat 13) 32).toArray⟩) none (some 13)=X at lx px⊢
   let ah:Nat->St->Hp->Prop:=fun j y H3=>∃(S:Str) (u9 o:Option V),y=[some (.ref d),some (.ref Pp),some (.int n),some (.ref g),some (.ref l),O,R,T,some (.str S),u9,o]/\sg S=padL b++(List.range j).flatMap (fun d:Nat=>dgL ((pl.map (useR B b (d:Int))).sum))/\S.length<=13+30002*j/\Same H2 H3
   refine⟨_,rfl,n,rfl,Om,Om,Yh (lo:=0) (n:=n.toNat) ah ⟨X,_,_,rfl,by rw[px];simp,Om,Same.refl _⟩ ?_ ?_⟩
   .rintro j y H3 hj ⟨S,u9,o,rfl,hS,lS,U⟩
    rw[kJb]
    have I:=W.trans U
    refine⟨_,rfl,_,rfl,_,rfl,l,_,_,_,rfl,rfl,Qb (U _ _ hl),a1,_,rfl,d,Pp,b,_,n,us,B,pl,rfl,I _ _ hd,hB.same I,bk,PlanAt.same hP I,aa,fun H4 s4=>?_⟩
    have al:=Qqs bk.wb b (j:Int) (pl:=pl) (m:=64) Om
    have nx:=Qug j (fun d:Nat=>(pl.map (useR B b (d:Int))).sum) b
    generalize ek:(pl.map (useR B b (j:Int))).sum=k at al⊢
    have nx:padL b++(List.range (j+1)).flatMap (fun d:Nat=>dgL ((pl.map (useR B b (d:Int))).sum))=(padL b++(List.range j).flatMap fun d:Nat=>dgL ((pl.map (useR B b (d:Int))).sum))++dgL k:=by rw[<-ek];exact nx
    have d1:atI ("0123456789":Str).cps.toList (k / 10 % 10)=some (48+(k / 10 % 10).toNat):=by
     have:=Qvp (k / 10 % 10).toNat Om
     rw[show(((k / 10 % 10).toNat:Nat):Int)=k / 10 % 10 by lia]at this
     exact this
    have d2:atI ("0123456789":Str).cps.toList (k % 10)=some (48+(k % 10).toNat):=by
     have:=Qvp (k % 10).toNat Om
     rw[show(((k % 10).toNat:Nat):Int)=k % 10 by lia]at this
     exact this
    have af:∀m:Nat,(⟨(List.replicate m 63).toArray⟩:Str).length=m:=fun m=>by show(List.replicate m 63).toArray.size=m;rw[kY,kYf]
    refine⟨_,rfl,_,rfl,_,_,rfl,rfl,⟨Dc,Dc⟩,_,_,rfl,rfl,Z0,_,_,_,rfl,rfl,Dk,d1,_,_,rfl,rfl,by show _+1<=_;lia,?_⟩
    refine⟨_,rfl,_,rfl,_,_,rfl,rfl,Z0,_,_,_,rfl,rfl,Dk,d2,_,_,rfl,rfl,by rw[Yk];show _+1+1<=_;lia,?_⟩
    refine⟨_,rfl,_,_,rfl,rfl,⟨Dc,Dc⟩,63,_,congrArg V.str qm_one,rfl,Om,Om,_,_,rfl,rfl,by rw[Yk,Yk,af];show _+1+1+_<=_;lia,?_⟩
    refine⟨_,_,_,rfl,?_,?_,U.trans s4⟩
    .rw[nx,<-hS,Zx,Zx,Zx,zJ,zJ]
     rfl
    .rw[Yk,Yk,Yk,af]
     show _+1+1+_<=_
     lia
   .rintro y H3 ⟨S,u9,o,rfl,hS,lS,U⟩
    have I:=W.trans U
    have eS:S=ofL (lbL n (fun d:Nat=>(pl.map (useR B b (d:Int))).sum) b):=Kl (by rw[hS,Qbs];rfl)
    have wl:(Yb B pl).length<=400/\(bns (B.take i)).length<=400:=by
     have h8:(bns (B.take i)).length<=(B.take i).length:=zY _ _
     have h9:(wks B).length<=B.length:=zY _ _
     rw[xJ]at h8
     unfold Yb
     rw[jX]
     lia
    refine⟨_,rfl,.inl ⟨rfl,_,Qb (U _ _ G)⟩,_,rfl,g,_,_,rfl,rfl,U _ _ G,by simp only[jX,jJ];lia,_,_,_,_,_,_,_,rfl,?_,Zt I hg⟩
    rw[Qc,Qko er,eS]
    simp only[zQ,zJ]
    rfl
  .refine⟨_,_,_,_,_,_,_,rfl,?_,W⟩
   rw[Qko er,Qcu (fun e=>c (by rw[e];exact yesS _))]
   show _=some (HO.lst ((_++(bns (B.take i)++[]).map _).map _))
   rw[xX]
   exact G
 rintro y H2 ⟨Z,O,R,T,u8,u9,o,rfl,G,W⟩
 rw[lu,yV]at G
 exact⟨_,rfl,q g H2 W G⟩
end
end Nb
namespace L2
open PySem PySem.Spec PySem.Calls PyProof.Rows PySem.W
end L2
namespace Nb
open PySem L2
abbrev sRef:Stmt:=top 47
theorem hasK_ex:hasK pl w=true↔∃v b,(w,v,b)∈pl:=by
 unfold hasK
 rw[jXb]
 constructor
 .rintro⟨⟨x,v,b⟩,h,e⟩
  have e:x=w:=kK e
  subst e
  exact⟨v,b,h⟩
 .rintro⟨v,b,h⟩
  exact⟨_,h,yJ rfl⟩
theorem Qqt(h:hasK pl w≠true):look pl w=((("":Str),(0:Int))):=by
 unfold look
 rw[List.find?_eq_none.mpr fun x a e=>h (jXb.mpr ⟨x,a,e⟩)]
 rfl
theorem Quj(h:pl.Perm pl2)(nd:(pl.map (·.1)).Nodup):dueF n B pl=dueF n B pl2:=by
 have a:(pl2.map (·.1)).Nodup:=((h.map _).nodup_iff).mp nd
 have i:∀w,hasK pl w=hasK pl2 w:=fun w=>by
  rw[jZf,hasK_ex,hasK_ex]
  exact⟨fun⟨v,b,z⟩=>⟨v,b,h.mem_iff.mp z⟩,fun⟨v,b,z⟩=>⟨v,b,h.mem_iff.mpr z⟩⟩
 have l:∀w,look pl w=look pl2 w:=fun w=>by
  by_cases c:hasK pl w=true
  .obtain⟨v,b,z⟩:=hasK_ex.mp c
   rw[Qeh nd z,Qeh a (h.mem_iff.mp z)]
  .rw[Qqt c,Qqt (by rw[<-i];exact c)]
 have j:∀f:Str×Str×Int->Int,(pl.map f).sum=(pl2.map f).sum:=fun f=>Qoy (h.map f)
 have s:gW pl=gW pl2:=by
  funext r
  cases r with
  |work w=>show(if hasK pl w=true then _ else _)=(if hasK pl2 w=true then _ else _);rw[i]
  |_=>rfl
 have q:gR n B pl=gR n B pl2:=by
  funext r
  cases r with
  |bench b m=>
   show((List.range n.toNat).filter fun d:Nat=>decide (Vs B pl b m (d:Int)<0)).map _=((List.range n.toNat).filter fun d:Nat=>decide (Vs B pl2 b m (d:Int)<0)).map _
   congr 1
   refine List.filter_congr fun d _=>?_
   unfold Vs
   rw[j]
  |_=>rfl
 have o:gS n B pl=gS n B pl2:=by
  funext r
  cases r with
  |store st mo fi=>
   have e:∀k,Yt B pl st fi k=Yt B pl2 st fi k:=fun k=>by unfold Yt chR;simp only[j]
   show((List.range (n.toNat+1)).filter fun d:Nat=>decide (Yt B pl st fi ((d:Int)).toNat<0\/mo<Yt B pl st fi ((d:Int)).toNat)).map _=((List.range (n.toNat+1)).filter fun d:Nat=>decide (Yt B pl2 st fi ((d:Int)).toNat<0\/mo<Yt B pl2 st fi ((d:Int)).toNat)).map _
   congr 1
   refine List.filter_congr fun d _=>?_
   rw[e]
  |_=>rfl
 have p:gA B pl=gA B pl2:=by
  funext r
  cases r with
  |after w x g=>
   show(if (look pl x).2-(look pl w).2-lenB B w (look pl w).1<g then _ else _)=(if (look pl2 x).2-(look pl2 w).2-lenB B w (look pl2 w).1<g then _ else _)
   rw[l,l]
  |_=>rfl
 unfold dueF
 rw[s,q,o,p]
theorem gW_nil(d:PlanFor n B pl)(f:AllW B):B.flatMap (gW pl)=[]:=by
 rw[kKa]
 intro r e
 cases r with
 |work w=>
  have a:w∈wks B:=wks_mem.mpr e
  have g:w∈pl.map (·.1):=d.keys.mem_iff.mpr (xY.mpr ⟨a,f w a⟩)
  obtain⟨⟨x,v,b⟩,c,rfl⟩:=zV.mp g
  show(if hasK pl x=true then _ else _)=_
  rw[Y22 (hasK_ex.mpr ⟨v,b,c⟩)]
 |_=>rfl
theorem two_dig:∀k,k<100->twoL ((k:Nat):Int)=[48+k / 10,48+k % 10]:=Dk
theorem two_eq{k:Int}(a:0<=k)(b:k<=99):twoL k=dgL k:=by
 obtain⟨m,rfl⟩:∃m:Nat,k=(m:Int):=⟨k.toNat,Om⟩
 rw[two_dig m Om]
 unfold dgL
 rw[show(((m:Nat):Int) / 100).toNat=0 by lia,show(((m:Nat):Int) / 10 % 10).toNat=m / 10 by lia,show(((m:Nat):Int) % 10).toNat=m % 10 by lia]
 rfl
def Qha(n:Int)(B:List BR)(A:List Ch):Prop:=∀b∈bns B,∀d:Nat,d<n.toNat->0<=Jp B A b d/\Jp B A b d<=99
theorem Qqu(bk:BookOk n B)(o:PlanFor n B pl)(q:B.flatMap (gW pl)=[])(s:dueF n B pl=none):Qha n B (Yb B pl):=by
 intro b l d c
 obtain⟨r,h,e⟩:=xQ.mp l
 cases r with
 |bench b' m=>
  have e:b'=b:=Y5 e
  subst e
  have ok:=bk.wb.ok _ h
  have v:0<=m/\m<=99:=ok
  have a:(Yb B pl).length<=400:=by unfold Yb;rw[jX];exact(Qiw bk).1
  refine⟨(Qet bk.wb b' d a).1,?_⟩
  have p:Jp B (Yb B pl) b' d=(pl.map (useR B b' (d:Int))).sum:=by
   rw[Qel o bk.wb q (useR B b' (d:Int))]
   unfold Jp Yb
   rw[jZd]
   rfl
  rw[p]
  have t:=List.head?_eq_none_iff.mp s
  have i:=(List.append_eq_nil_iff.mp (List.append_eq_nil_iff.mp t).2).1
  rw[kKa]at i
  have k:(Jz (fun f=>Vs B pl b' m f<0) n.toNat).map _=[]:=i _ h
  have j:=List.map_eq_nil_iff.mp k
  unfold Jz at j
  have u:=List.filter_eq_nil_iff.mp j d (jKc.mpr c)
  have g:¬Vs B pl b' m d<0:=fun z=>u (yJ z)
  unfold Vs Qid at g
  split at g<;>lia
 |_=>cases e
theorem Qzc(bk:BookOk n B)(c:PlanFor n B pl)(h:B.flatMap (gW pl)=[])(f:Qha n B (Yb B pl)):Qza n B pl=Za n B (Yb B pl):=by
 unfold Qza Za
 congr 1
 refine kXf fun b e=>?_
 unfold brC brL lbL
 congr 2
 rw[List.flatMap_def,List.flatMap_def]
 congr 1
 refine kXf fun d g=>?_
 have a:=f b e d (jKc.mp g)
 rw[two_eq a.1 a.2]
 congr 1
 show(pl.map (useR B b (d:Int))).sum=_
 rw[Qel c bk.wb h (useR B b (d:Int))]
 unfold Jp Yb
 rw[jZd]
 rfl
theorem Qvq{n:Int}{B:List BR}(bk:BookOk n B):∀{A A':List Ch},(∀c∈A,ChOk n B c)->(∀c∈A',ChOk n B c)->A.map (wrC n B)=A'.map (wrC n B)->A=A'
 |[],[],_,_,_=>rfl
 |[],_::_,_,_,h=>nomatch h
 |_::_,[],_,_,h=>nomatch h
 |a::A,b::A',h1,h2,h=>by
  rw[zX,zX]at h
  injection h with e f
  rw[Qqa bk (h1 a jY) (h2 b jY) e,Qvq bk (fun c d=>h1 c (kQ _ d)) (fun c d=>h2 c (kQ _ d)) f]
section
variable{A0:List Ch}
theorem Qqv(bk:BookOk n B)(b:∀c∈A0,ChOk n B c)(a:A0.map (·.1)=wks B){ex:List Str}{A:List Ch}(g:ws.length<=(wks B).length)(h:Wz n B (Za n B A0++ex) ws A):A=A0.take A.length:=by
 have f:A0.length=(wks B).length:=by have:=congrArg List.length a;rw[jX]at this;exact this
 have e:A.length=ws.length:=by have:=congrArg List.length h.1;rw[jX]at this;exact this
 refine Qvq bk h.2.1 (fun c d=>b c (List.mem_of_mem_take d)) ?_
 rw[h.2.2]
 unfold Za
 rw[zJ,List.take_append_of_le_length (by rw[jX];lia),kQc]
theorem Qzd{ex:List Str}{c:Ch}(e:A0[i]?=some c):(Za n B A0++ex)[i]?=some (wrC n B c):=by
 have a:=(kX.mp e).1
 unfold Za
 rw[zJ,jXc (by rw[jX];exact a),yW,e]
 rfl
theorem Qkq(a:A0.map (·.1)=wks B){ex:List Str}{b:Str}(e:(bns B)[j]?=some b):(Za n B A0++ex)[(wks B).length+j]?=some (brC n B A0 b):=by
 have c:(A0.map (wrC n B)).length=(wks B).length:=by rw[<-a,jX,jX]
 have d:=(kX.mp e).1
 unfold Za
 rw[zJ,jJf Om,c,Nat.add_sub_cancel_left,jXc (by rw[jX];exact d),yW,e]
 rfl
theorem two_flat{u:Nat->Int}:∀{l:List Nat},(∀d∈l,0<=u d/\u d<=99)->(l.flatMap fun d=>twoL (u d)).length=2*l.length/\∀c∈l.flatMap (fun d=>twoL (u d)),48<=c/\c<=57
 |[],_=>⟨rfl,fun c h=>nomatch h⟩
 |d::l,h=>by
  obtain⟨b,a⟩:=two_flat (u:=u) (l:=l) fun x f=>h x (kQ _ f)
  have i:=h d jY
  obtain⟨m,e⟩:∃m:Nat,u d=(m:Int):=⟨(u d).toNat,Om⟩
  rw[jZe,e,two_dig m Om]
  refine⟨by rw[jJ,b];simp only[yZ,kYb];lia,fun c g=>?_⟩
  rcases kJ.mp g with z | z
  .simp only[kZ,List.not_mem_nil,or_false]at z
   lia
  .exact a c z
theorem br_is(f:Qha n B A0){b:Str}(e:b∈bns B):IsBR n b (brC n B A0 b):=by
 obtain⟨a,c⟩:=two_flat (u:=Jp B A0 b) (l:=List.range n.toNat) fun d g=>f b e d (jKc.mp g)
 rw[wY]at a
 exact⟨_,rfl,a,c⟩
theorem Qca(a:A0.map (·.1)=wks B):(Za n B A0).length=(wks B).length+(bns B).length:=by
 unfold Za
 rw[jJ,jX,jX,<-a,jX]
theorem Qhb(bk:BookOk n B)(p:∀c∈A0,ChOk n B c)(f:A0.map (·.1)=wks B)(u:Qha n B A0){ex:List Str}{bad:Int->Prop}
  (v:ex≠[]->bad (((wks B).length+(bns B).length:Nat):Int)) (y:ex=[]->dueF n B A0=none) (C:ex=[]->good A0):SeenK n B (Za n B A0++ex) "" bad good:=by
 have x:A0.length=(wks B).length:=by have:=congrArg List.length f;rw[jX]at this;exact this
 have q:=Qca (n:=n) f
 have un:∀{A},Wz n B (Za n B A0++ex) (wks B) A->A=A0:=fun{A} h=>by
  have z:A.length=(wks B).length:=by have:=congrArg List.length h.1;rw[jX]at this;exact this
  rw[Qqv bk p f (jK _) h,z,<-x,yV]
 have g:(Za n B A0++ex).length=(wks B).length+(bns B).length->ex=[]:=fun h=>by
  rw[jJ,q]at h
  exact jYb Om
 refine⟨fun i w A r d a=>?_,fun A j b d m _ a=>?_,fun A d _ t=>?_,fun A j b d _ k _ m _ a=>?_,fun A d _ k _ _ o=>?_,fun A d _ k _ _ o=>?_⟩
 .have D:=(kX.mp r).1
  have s:A0[i]?=some (A0[i]'Om):=gE Om
  refine Y21 (Qzd (ex:=ex) s) (a _ (p _ (kZb _)) ?_)
  have:=congrArg (fun l:List Str=>l[i]?) f
  simp only[yW,s,r,kYa]at this
  exact Y5 this
 .exact Y21 ⟨_,Qkq f m,br_is u (kW m)⟩ a
 .refine v fun e=>?_
  rcases t with h | h
  .rw[e,xX,q]at h;lia
  .exact h rfl
 .rw[un d]at a
  exact Y21 (Qkq f m) a
 .rw[un d]at o
  exact Y21 (y (g k)) o
 .rw[un d]
  exact C (g k)
end
theorem SeenK.imp{Ls:List Str}{rest:Str}{bad bad':Int->Prop}{good':List Ch->Prop}(h:SeenK n B Ls rest bad good)(f:∀z,bad z->bad' z)(g:∀A,good A->good' A):SeenK n B Ls rest bad' good' :=
 ⟨fun i w A a b c=>f _ (h.b1 i w A a b c),fun A j b x y z v=>f _ (h.b2 A j b x y z v),fun A a b c=>f _ (h.b3 A a b c),fun A j b o d l k e m p=>f _ (h.b4 A j b o d l k e m p),fun A o d l k e m=>f _ (h.b5 A o d l k e m),fun A o d l k e m=>g A (h.ok A o d l k e m)⟩
theorem nlS_eq:nlS=nl10:=nl_eq
theorem Vy:∀rows:List Str,Qcg rows=Str.join nl10 (rows++[("":Str)])
 |[]=>rfl
 |r::rows=>by
  have a:=Vy rows
  unfold Qcg at a⊢
  rw[zX,Wi,a,nlS_eq]
  cases rows with
  |nil=>rfl
  |cons x rows=>rfl
def RowT(x:Str):Prop:=∀c∈sg x,c≠10/\c<128
theorem Qhc(h:NmOk x):∀c∈padL x,c≠10/\c<128:=fun c a=>by
 rcases kJ.mp a with z | z
 .have:=h.2.2 c z;lia
 .rw[List.eq_of_mem_replicate z];decide
theorem Qqw{A0:List Ch}(bk:BookOk n B)(p:∀c∈A0,ChOk n B c)(m:Qha n B A0):∀x∈Za n B A0,RowT x/\x.length<=38:=by
 intro x q
 rcases kJ.mp q with h | h
 .obtain⟨c,o,rfl⟩:=zV.mp h
  obtain⟨l,k,a,_⟩:=p c o
  refine⟨fun y f=>?_,Qvh bk a⟩
  obtain⟨s,r⟩:=Kq bk a
  rcases kJ.mp (show y∈padL c.1++sgnL n c.2.2 (endC B c)++32::sg c.2.1 from f)with z | z
  .rcases kJ.mp z with z | z
   .exact Qhc s y z
   .unfold sgnL at z
    obtain⟨d,_,rfl⟩:=zV.mp z
    split<;>decide
  .rcases kZ.mp z with rfl | z
   .decide
   .have:=r.2.2 y z;lia
 .obtain⟨b,g,rfl⟩:=zV.mp h
  have i:=Vx bk g
  obtain⟨u,e,a,j⟩:=br_is m g
  have t:=bk.n12
  refine⟨fun y f=>?_,?_⟩
  .rw[e]at f
   rcases kJ.mp f with z | z
   .exact Qhc i y z
   .have:=j y z;lia
  .rw[<-Ya,e,jJ,Zp i.2.1,a]
   lia
theorem Qdg{xs:List Str}(h:∀x∈xs,RowT x/\x.length<=38)(l:xs.length<=802):Pln (Str.join nl10 xs):=by
 have key:∀{xs:List Str},(∀x∈xs,RowT x/\x.length<=38)->(∀c∈sg (Str.join nl10 xs),c<128)/\(Str.join nl10 xs).length<=xs.length*39:=fun{xs}=>by
  induction xs with
  |nil=>exact fun _=>⟨fun c b=>(nomatch b),xW _⟩
  |cons x xs ih=>
   intro h
   obtain⟨g,k⟩:=ih fun y i=>h y (kQ _ i)
   have d:=h x jY
   cases xs with
   |nil=>
    refine⟨fun c b=>(d.1 c b).2,?_⟩
    show x.length<=_
    have:=d.2
    show x.length<=1*39
    lia
   |cons y ys=>
    have e:sg (Str.join nl10 (x::y::ys))=sg x++10::sg (Str.join nl10 (y::ys)):=Qlu 10 x y ys
    refine⟨fun c b=>?_,?_⟩
    .rw[e]at b
     rcases kJ.mp b with z | z
     .exact(d.1 c z).2
     .rcases kZ.mp z with rfl | z
      .decide
      .exact g c z
    .rw[<-Ya,e,jJ,yZ,Ya,Ya,yZ (a:=x),Nat.succ_mul]
     have:=d.2
     lia
 obtain⟨f,j⟩:=key h
 exact⟨pln_iff.mpr f,Om⟩
structure EPk(K:Fg)(mg:Z9)(CX DX:Addr):Prop where
 pe:mg "PlanError"=some (.ref DX)
 isA:IsA K CX DX
 np:mg "NoPicture"=some (.ref CX)
 xi:ExcIn K CX
 xf:ExcFld K CX "row"
 ko:PySem.W.kitOne K (.ref CX) (.ref CX)=some true
def Qhd(K:Fg):Sp:=fun vs H Q _=>∃(d:Addr) (text:Str) (z n:Int) (us:List V) (B:List BR) (Ls:List Str) (rest:Str),vs=[.ref d,.str text,.int z]/\H d=some (.lst us)/\RowsB H us B/\BookOk n B/\Pln text/\Txt.split text nl10=Ls++[rest]/\SeenK n B Ls rest (fun y=>y=z) (fun _=>False)/\∀H',Same H H'->Q (.bl true) H'
section
variable{w:World}
theorem scRef:FnScope ["_law_book_here","_law_text","_law_row","_law_caught","e"] ["_law_book_here","_law_text","_law_row"] (Qh sRef):=Sc
theorem okRef(l:EPk K mg CX DX)(F:Fn K mg "_law_refused" sRef)(M:Mg mg)(a:CalG P w K mg base CX 6 "plan_seen" ["book","text"] (Qqh K CX)):Cal P w K mg base 7 "_law_refused" ["_law_book_here","_law_text","_law_row"] (Qhd K):=by
 refine Xt F scRef (fun _ _ _ _ _ _=>Ww (fun _ _ _=>rfl)) (fun T H Q E h=>?_) (fun f W A u s H T Q E S h=>?_)
 .obtain⟨d,b,z,n,D,B,G,g,rfl,_⟩:=h
  rfl
 obtain⟨d,b,z,n,D,B,G,g,rfl,hd,Y,bk,pt,Z,L,q⟩:=h
 obtain⟨fR,I,FR,mR,R,bR⟩:=a.ex
 refine⟨_,(Qg (Z4 3 scRef.nd Wl)
  (Qg (Qpv rfl rfl rfl FR (S.mono Dc) mR R bR l.pe l.isA scRef.nd (Qa (pv 0) (Qa (pv 1) Qf)) (i:=3) (j:=4) rfl rfl Dc rfl rfl)
  (Qi (Xb (Wn (Qt Qpw rfl M.isinstance Xl (Qa (pv 3) (Qa (Kt (v:=.ref CX) rfl l.np rfl) Qf))) (Wm (Kb Yq (Qyq (pv 3) rfl) (pv 2) (Qs _)))))))),?_⟩
 refine Qeb ?_
 intro r O
 have key:RE CX H z (fun _ U m=>∀e c,U=some c->m e=none->r { nx:=fun x N=>Q V.non N,rt:=Q } [some (.ref d),some (.str b),some (.int z),some (.ref e),none] (upd m e (excD e CX c))):=by
  rintro c m X C e aa t J
  cases t
  have p:=Qd J (excD e CX c)
  have k:upd m e (excD e CX c) e=some (excD e CX c):=Qc
  have o:=p _ _ C
  generalize upd m e (excD e CX c)=H3 at p k o⊢
  refine⟨_,rfl,e,CX,c,k,l.xi,.inl ⟨CX,true,rfl,l.ko,true,rfl,iteT ?_⟩⟩
  refine⟨_,rfl,e,CX,c,_,.int z,rfl,k,o,l.xf,rfl,_,rfl,rfl,?_⟩
  rw[yJ rfl]
  exact q H3 (X.trans p)
 exact⟨_,rfl,_,rfl,d,b,n,D,B,G,g,rfl,hd,Y,bk,pt,Z,L.imp (fun y e=>by rw[e];exact key) fun A h=>h.elim⟩
abbrev sLaw:Stmt:=top 48
theorem Qmg{rows:List Str}(h:∀x∈rows,RowT x/\x.length<=38):Txt.split (Qcg rows) nl10=rows++[("":Str)]:=by
 rw[Vy]
 refine Qdb (c:=10) (by simp) fun x a=>?_
 rcases kJ.mp a with z | z
 .exact fun c=>((h x z).1 10 c).1 rfl
 .rw[jW.mp z];exact fun c=>nomatch c
theorem Qhe{rows:List Str}:Qcg rows++nl10=Str.join nl10 ((rows++[("":Str)])++[("":Str)]):=by
 rw[join_snoc (by simp),Vy,Qin]
theorem Qja{rows:List Str}(h:∀x∈rows,RowT x/\x.length<=38):Txt.split (Qcg rows++nl10) nl10=(rows++[("":Str)])++[("":Str)]:=by
 rw[Qhe]
 refine Qdb (c:=10) (by simp) fun x a=>?_
 rcases kJ.mp a with z | z
 .rcases kJ.mp z with z | z
  .exact fun c=>((h x z).1 10 c).1 rfl
  .rw[jW.mp z];exact fun c=>nomatch c
 .rw[jW.mp z];exact fun c=>nomatch c
theorem Wk{rows:List Str}(h:∀x∈rows,RowT x/\x.length<=38):∀x∈rows++[("":Str)],RowT x/\x.length<=38:=fun x a=>by
 rcases kJ.mp a with z | z
 .exact h x z
 .rw[jW.mp z];exact⟨fun c b=>(nomatch b),xW _⟩
theorem scLaw:FnScope ["_law_script","_law_book_here","_law_plan_here","_law_handed","_law_text","_law_due","_law_found","_law_done"] ["_law_script"] (Qh sLaw):=Sc
theorem okLaw(F:Fun K "law" "law" sLaw f fd)(M:Mg mg)(ai:Cal P w K mg base 5 "_law_book" ["_law_script"] (Quv K))(J:Cal P w K mg base 2 "_law_all_done" ["_law_book_here"] (Qvl K))(ad:Cal P w K mg base 3 "_law_plan" ["_law_script","_law_start","_law_book_here"] (Qux K))(Z:Cal P w K mg base 6 "_law_eased" ["_law_book_here","_law_plan_here"] (Qqr K))(aa:Cal P w K mg base 5 "broken" ["book","plan"] (Qsx K))(an:Cal P w K mg base 5 "drawn" ["book","plan"] (Qpp K))(l:Cal P w K mg base 3 "_law_picture" ["_law_book_here","_law_plan_here"] (Qvn K))(j:Cal P w K mg base 6 "plan_seen" ["book","text"] (fun vs H Q _=>(Qqh K CX) vs H Q fun _ _ _=>False))(ab:Cal P w K mg base 1 "_law_whole" ["_law_found"] (Qnn))(L:Cal P w K mg base 7 "_law_refused" ["_law_book_here","_law_text","_law_row"] (Qhd K)):FnOk P w K mg base CX0 8 f fd ["_law_script"] (Qro K):=by
 refine F.ok scLaw (fun vs H Q E h=>?_) (fun bW A bt s H vs Q E N h=>?_)
 .obtain⟨a,ns,rfl,_⟩:=h
  rfl
 obtain⟨a,ns,rfl,hS,bM,q⟩:=h
 have az:=Z6 6 N.un
 have hu:=Z6 1 N.un
 refine⟨_,(Qg (Z4 1 scLaw.nd (Xj J (N.mono Dc) (Qa (Xj ai (N.mono Dc) (Qa (pv 0) Qf)) Qf)))
  (Qg (Z4 2 scLaw.nd (Xj ad (N.mono Dc) (Qa (pv 0) (Qa Qe (Qa (pv 1) Qf)))))
  (Qg (Z4 1 scLaw.nd (Xj Z (N.mono Dc) (Qa (pv 1) (Qa (pv 2) Qf))))
  (Qg (Xy (Qm Qdn (Xj aa (N.mono Dc) (Qa (pv 1) (Qa (pv 2) Qf))) Wl (Qs _)) (Qi (Xb Qhi)) Xa)
  (Qg (Z4 3 scLaw.nd (Xd (Qa (Yu ["_law_row"] [none] rfl (Qx (pv 1)) (fun _ _ _=>(Z3 0 Z2)) (fun _ _ _=>Yr) (fun _ _ _=>(Xv (Vn (K:=K) rfl) rfl M.list_ Qhn (Qa (pv 0) Qf)))) (Qa (Xv Qlh rfl M.dict_ Kv (Qa (pv 2) Qf)) Qf))))
  (Qg (Z4 4 scLaw.nd (Xj an (N.mono Dc) (Qa (Qr Qn (pv 3) Qe) (Qa (Qr Qn (pv 3) Qe) Qf))))
  (Qg (Z4 5 scLaw.nd (Zh Y4 PySem.F.slot_str_join PySem.F.type_str_join (Vv (K:=K) rfl) Qq (Qa (Yu ["_law_row"] [none] rfl (Qx (Xj l (N.mono Dc) (Qa (pv 1) (Qa (pv 2) Qf)))) (fun _ _ _=>(Z3 0 Z2)) (fun _ _ _=>Yr) (fun _ _ _=>(Ql Xm (pv 0) Qq))) Qf)))
  (Qg (Xy (PW.pt (Wa (Jx (Jk (Qt Jd rfl M.isinstance Xl (Qa (pv 4) (Qa (Qcc M.str_ Qjr) Qf))))) (Wa (Qm Qdl (pv 4) (pv 5) (Qs _)) (Vh (Qm (Qwf (n:=6) Dc az) (pv 3) (Xd (Qa (pv 1) (Qa (pv 2) Qf))) (Qs _)))))) (Qi (Xb Qhi)) Xa)
  (Qg (Z4 6 scLaw.nd (Xj j (N.mono Dc) (Qa (Qr Qn (pv 3) Qe) (Qa (pv 4) Qf))))
  (Qg (Xy (PW.pt (Wa (Jx (Jk (Qt Qph rfl M.isinstance Xl (Qa (pv 6) (Qa (Qcc M.dict_ Kv) Qf))))) (Vh (Qm (Qxy (K:=K) (n:=6) rfl Dc az) (pv 6) (pv 2) (Qs _))))) (Qi (Xb Qhi)) Xa)
  (Qg (Qon (Ye Y33 rfl (Qxx (pv 6)) (Z3 7 scLaw.nd) (Qi (Xy (PW.pt (Wa (Jx (Jk (Qt Jd rfl M.isinstance Xl (Qa (pv 7) (Qa (Qcc M.tuple_ Jr) Qf))))) (Wa (Jx (Jk (Qt Jd rfl M.isinstance Xl (Qa (Qr Xr (pv 7) Qe) (Qa (Qcc M.str_ Qjr) Qf))))) (Vh (Jx (Jk (Xj ab (N.mono Dc) (Qa (Qr Xr (pv 7) Qe) Qf)))))))) (Qi (Xb Qhi)) Xa))))
  (Qg (Yg (Qmx PySem.F.plainAttrs_dict PySem.F.slot_dict_clear PySem.F.type_dict_clear Qpg (pv 6)))
  (Qg (Xy (Jx (Jk (Xj L (N.mono Dc) (Qa (Qr Qn (pv 3) Qe) (Qa (Ql Xm (pv 4) Qq) (Qa (Qt Qu rfl M.len Ys (Qa (Xj l (N.mono Dc) (Qa (pv 1) (Qa (pv 2) Qf))) Qf)) Qf)))))) (Qi (Xb Qhi)) Xa)
  (Qi (Xb (Wn (Kb (Qxz (K:=K) (n:=6) rfl Dc az) (Xj j (N.mono Dc) (Qa (Qr Qn (pv 3) Qe) (Qa (pv 4) Qf))) (pv 2) (Qs _)) (Wm (Kb (Qya (n:=6) Dc az) (pv 3) (Xd (Qa (pv 1) (Qa (pv 2) Qf))) (Qs _))))))))))))))))))),?_⟩
 refine Qoe ?_
 intro bF bK bJ bI bG bX bY bZ bV bL bT bQ bR
 have hz:=X0 2000000
 refine⟨_,rfl,a,ns,rfl,hS,fun g0 bA n B0 H1 s1 bE bu aU=>?_⟩
 have bv:=aU.wb.len
 refine⟨g0,bA,B0,rfl,bE,bu,bv,fun g1 bb H2 s2 a2 aS=>?_⟩
 have a3:=Qyw aU
 have bD:AllW (Qme B0):=fun w hw=>hasW_iff.mpr (Quc (wks_mem.mp hw))
 have bm:=s1.trans s2
 refine⟨_,rfl,_,rfl,a,g1,ns,300,n,bb,_,rfl,bm.seq hS,Dc,Dc,a2,aS,a3,fun X p H3 s3 fP hP bj=>?_⟩
 refine⟨_,rfl,_,rfl,g1,X,n,bb,_,p,rfl,s3 _ _ a2,aS.same s3,a3,hP,bj,bD,fun g ys B H4 s4 hg hB bk C hA=>?_⟩
 have a5:=PlanAt.same hP s4
 refine⟨_,rfl,_,rfl,g,X,n,ys,B,p,rfl,hg,hB,bk,a5,C,fun v H5 s5 hD=>?_⟩
 refine⟨rfl,_,rfl,ite2 (fun c=>q H5) (fun c=>?_)⟩
 have hv:v=.non:=nd_f c
 have aG:dueF n B p=none:=by
  cases e:dueF n B p with
  |none=>rfl
  |some ks=>
   rw[e]at hD
   obtain⟨tt,e5,_⟩:=hD
   rw[hv]at e5
   cases e5
 clear c hD
 have hW:=gW_nil C hA
 have hu:=Qqu bk C hW aG
 have a8:=Qzc bk C hW hu
 have am:∀c∈Yb B p,ChOk n B c:=Qki bk C hW
 have O:(Yb B p).map (·.1)=wks B:=by unfold Yb;rw[jZd];exact List.map_id _
 have G:=Qva C bk.wb hW
 have G:p.Perm (Yb B p):=G
 have aO:dueF n B (Yb B p)=none:=by rw[<-Quj G (C.nd bk.wb)];exact aG
 have av:=Qqw bk am hu
 have lP:=Qca (n:=n) O
 obtain⟨wf,bf⟩:=Qiw bk
 have pf:=Qeo bk.wb C
 have bl:=bk.wb.len
 have aV:=Qmg av
 have aP:=Qja av
 have aq:Pln (Qcg (Za n B (Yb B p))):=by rw[Vy];exact Qdg (Wk av) (by rw[jJ];show _+1<=_;lia)
 have a0:Pln (Qcg (Za n B (Yb B p))++nl10):=by rw[Qhe];exact Qdg (Wk (Wk av)) (by rw[jJ,jJ];show _+1+1<=_;lia)
 have ag:SeenK n B (Za n B (Yb B p)) "" (fun _=>False) (fun A=>A=Yb B p):=by
  have:=Qhb (ex:=[]) (bad:=fun _=>False) (good:=fun A=>A=Yb B p) bk am O hu (fun e=>Y21 rfl e) (fun _=>aO) (fun _=>rfl)
  rw[xX]at this
  exact this
 have aI:SeenK n B (Za n B (Yb B p)++[("":Str)]) "" (fun y=>y=(((wks B).length+(bns B).length:Nat):Int)) (fun _=>False):=Qhb (ex:=[("":Str)]) bk am O hu (fun _=>rfl) (fun e=>nomatch e) (fun e=>nomatch e)
 have ao:∀t∈Za n B (Yb B p),t.length<=38:=fun t ht=>(av t ht).2
 have ay:=s5 _ _ hg
 have bc:=hB.same s5
 have bg:=PlanAt.same a5 s5
 have lu:=hB.length
 refine⟨_,rfl,g,rfl,⟨_,Qb ay⟩,fun D hD=>?_⟩
 let a4:Nat->St->List V->Hp->Prop:=fun m τ al H6=>∃v:Option V,τ=[v]/\RowsB H6 al (B.take m)/\al.length<=m/\H6 D=some (.lst al)/\Same H5 H6
 refine Z5 ys (show _=B.length from Om) a4 ?_ (fun m τ al H6 hm h=>?_) ?_ ?_
 .exact⟨none,rfl,.nil,jK _,Qc,Qd hD _⟩
 .obtain⟨v,rfl,hY,hl,hE,s6⟩:=h
  exact⟨⟨hE,Om⟩,s6.seq (Qb ay)⟩
 .rintro m τ al H6 x H7 hm ⟨v,rfl,hY,hl,hE,s6⟩ ⟨rfl,e1⟩
  obtain⟨r,lr,er,rfl,N⟩:=(bc.same s6).get (e1 _ (s6.seq (Qb ay)))
  refine⟨_,rfl,lr,_,rfl,.inl (Qb N),fun l6 bp=>?_⟩
  have s7:=Qd bp (.lst (r.cells.map kV))
  have aY:=s7 _ _ hE
  refine⟨aY,_,rfl,?_,by rw[jJ];exact jQb hl,Qc,fun b o e=>?_⟩
  .rw[Ka er]
   exact((hY.same s7).snoc Qc).updL aY hY.noRow
  .rw[Qj (Qk e hD)];exact s7 _ _ (s6 _ _ e)
 rintro τ yD H6 ⟨v,rfl,hY,hl,hE,s6⟩
 rw[yV]at hY
 obtain⟨W,bd,aM⟩:=PlanAt.same bg s6
 have lk:W.length<=400:=by have h5:=Paired.length aM;lia
 refine⟨_,rfl,X,W,rfl,bd,Om,fun P2 a7=>?_⟩
 have s7:=Qd a7 (.dK W)
 have aL:PlanAt K (upd H6 P2 (.dK W)) P2 p:=⟨W,Qc,Paired.mapP aM fun _ _ ⟨e,t,e2,z⟩=>⟨e,t,e2,s7.tup z⟩⟩
 generalize upd H6 P2 (.dK W)=H7 at s7 aL⊢
 refine⟨Z1 2,fun hh aT=>?_⟩
 have s8:=Qd aT (.lst [.ref D,.ref P2])
 have Y:upd H7 hh (.lst [.ref D,.ref P2]) hh=some (.lst [.ref D,.ref P2]):=Qc
 generalize upd H7 hh (.lst [.ref D,.ref P2])=H8 at s8 Y⊢
 have aD:=s7.trans s8
 have aE:=s6.trans aD
 have aF:=aD _ _ hE
 have aC:=hY.same aD
 have ah:=PlanAt.same aL s8
 have ax:=aE _ _ ay
 have aw:=bc.same aE
 have aB:=PlanAt.same bg aE
 clear aM bd s6 s7 s8 hE hY aL hl hD a7 aT aD aE
 refine⟨_,rfl,hh,_,_,_,rfl,rfl,Qb Y,at0,_,rfl,hh,_,_,_,rfl,rfl,Qb Y,at1,D,P2,n,yD,B,p,rfl,aF,aC,bk,ah,C,hW,fun H9 s9=>?_⟩
 refine⟨rfl,_,rfl,_,rfl,g,X,n,ys,B,p,rfl,s9 _ _ ax,aw.same s9,bk,PlanAt.same aB s9,C,hW,fun gp bP aQ R=>?_⟩
 rw[a8]at R
 refine⟨gp,rfl,⟨_,Qb R⟩,fun D3 bi=>?_⟩
 refine Jw V.str (fun t:Str=>t++nlS) rfl (Zu (val:=V.str) (Qb R)) Om bi (fun t ht aN aJ P h=>?_) fun aN aJ a6=>?_
 .exact⟨_,rfl,_,_,rfl,rfl,by have:=ao t ht;show _+1<=_;lia,h aN (Same.refl _)⟩
 refine⟨_,D3,_,rfl,rfl,Qb a6,joinOk_of (b:=39) (fun t ht=>?_) (by rw[jX];show _*39<=_;lia),?_⟩
 .obtain⟨u,bC,rfl⟩:=zV.mp ht
  have:=ao u bC
  rw[Yk]
  show _+1<=_
  lia
 rw[join_eq]
 have ba:=(s9.trans aQ).trans aJ
 refine⟨_,rfl,_,"str",true,rfl,.str,rfl,true,rfl,iteF ?_⟩
 refine⟨_,rfl,_,rfl,rfl,_,rfl,ite2 (fun c=>(nd_t c rfl).elim) (fun c=>?_)⟩
 clear c
 refine⟨_,rfl,_,rfl,_,rfl,Z1 2,fun e9 aX=>?_⟩
 have d:=ba.trans (Qd aX (.lst [.ref g,.ref X]))
 refine⟨hh,e9,D,g,P2,X,yD,ys,B.map BR.cells,p,rfl,rfl,Qb (d _ _ Y),Qb Qc,Qb (d _ _ aF),aC.same d,Qb (d _ _ ax),aw.same d,PlanAt.same ah d,PlanAt.same aB d,?_⟩
 refine⟨_,rfl,iteF ?_⟩
 generalize upd aN e9 (.lst [.ref g,.ref X])=H12 at d⊢
 clear ba a6 aJ aQ R s9 bi aX
 have ak:=d _ _ aF
 have ae:=aC.same d
 have af:=d _ _ Y
 have au:=PlanAt.same aB d
 refine⟨_,rfl,hh,_,_,_,rfl,rfl,Qb af,at0,_,rfl,D,_,n,yD,B,_,"",rfl,ak,ae,bk,aq,aV,ag.imp (fun z h=>False.elim h) fun A eA U bz a1 bs aR=>?_⟩
 subst eA
 obtain⟨I,aA,aZ⟩:=id aR
 refine⟨_,rfl,U,I,rfl,aA,true,rfl,iteF ?_⟩
 refine⟨_,rfl,_,rfl,U,X,_,p,rfl,rfl,aR,PlanAt.same au a1,G.symm,_,rfl,iteF ?_⟩
 have bO:=Paired.length aZ
 refine⟨_,rfl,U,I,rfl,aA,fun nf ob=>Qto (fun i σ S=>∃u7:Option V,σ=[some (.ref a),some (.ref g),some (.ref X),some (.ref hh),some (.str (Qcg (Za n B (Yb B p)))),some (.str (Qcg (Za n B (Yb B p)))),some (.ref U),u7]/\S U=some (.frz ob (.dK I))/\Same (wo bz U) S) ⟨none,rfl,Qc,Qkc (Same.refl _)⟩ (fun i σ S _ h=>?_) ?_ ?_⟩
 .obtain⟨u7,rfl,hF,aj⟩:=h
  exact hF
 .rintro i k x σ S ek ⟨u7,rfl,hF,aj⟩
  obtain⟨⟨w,v,bq⟩,eq,e1,t,e2,hT⟩:=Qv aZ ek
  have bw:x=.ref t:=e2
  subst bw
  have aK:=aj.tup (Quy aA hT)
  refine⟨_,rfl,.ref t,"tuple",true,rfl,.tuple,.inl ⟨⟨_,aK⟩,rfl⟩,true,rfl,iteF ?_⟩
  refine⟨_,rfl,t,_,_,_,rfl,rfl,aK,at0,_,"str",true,rfl,.str,rfl,true,rfl,iteF ?_⟩
  refine⟨_,rfl,t,_,_,_,rfl,rfl,aK,at1,_,rfl,true,rfl,iteF ?_⟩
  exact⟨_,rfl,hF,aj⟩
 rintro σ S ⟨u7,rfl,hF,aj⟩
 refine⟨U,ob,I,nf,hF,?_⟩
 have sb:=Qgb aA aj
 have ar:upd S U (.dK I) U=some (.dK I):=Qc
 generalize upd S U (.dK I)=H15 at sb ar⊢
 refine⟨_,rfl,.inr (.inr (.inl ⟨rfl,.inl ⟨I,ar⟩⟩)),U,I,rfl,rfl,ar,?_⟩
 have ac:Same H12 (upd H15 U (.dK [])):=Zt (a1.trans sb) bs
 generalize upd H15 U (.dK [])=H16 at ac⊢
 have bh:=ac _ _ af
 refine⟨_,rfl,hh,_,_,_,rfl,rfl,Qb bh,at0,_,rfl,_,_,rfl,rfl,by have:=aq.2;show _+1<=_;lia,_,rfl,_,rfl,g,X,n,ys,B,p,rfl,ac _ _ (d _ _ ax),(aw.same d).same ac,bk,PlanAt.same au ac,C,hW,fun gp bU bB R=>?_⟩
 rw[a8]at R
 have ap:=ac.trans bB
 refine⟨gp,_,rfl,.inl (Qb R),D,_,_,n,yD,B,_,"",rfl,ap _ _ ak,ae.same ap,bk,a0,aP,?_,fun bS bn=>⟨true,rfl,iteF ?_⟩⟩
 .rw[jX,lP]
  exact aI
 have T:=ap.trans bn
 have a9:=T _ _ af
 refine⟨_,rfl,hh,_,_,_,rfl,rfl,Qb a9,at0,_,rfl,D,_,n,yD,B,_,"",rfl,T _ _ ak,ae.same T,bk,aq,aV,ag.imp (fun z h=>False.elim h) fun A eA bo bN br bH aW=>?_⟩
 subst eA
 have aH:=T.trans br
 refine⟨_,rfl,bo,X,_,p,rfl,rfl,aW,PlanAt.same au aH,G.symm,true,rfl,iteT ?_⟩
 refine⟨_,rfl,_,rfl,_,rfl,Z1 2,fun bx be=>?_⟩
 have sX:=(d.trans aH).trans (Qd be (.lst [.ref g,.ref X]))
 exact⟨hh,bx,D,g,P2,X,yD,ys,B.map BR.cells,p,rfl,rfl,Qb (sX _ _ Y),Qb Qc,Qb (sX _ _ aF),aC.same sX,Qb (sX _ _ ax),aw.same sX,PlanAt.same ah sX,PlanAt.same aB sX,q _⟩
end
theorem ve_row:typeLookup (.type "ValueError") "row"=pure none:=by rw[PySem.typeLookup_type,PySem.builtinLookup_eq_fast];kernel_rfl
def htop(i:Nat):Stmt:=PySem.Challenge.pw_nonebetter_k95_whole_pictures_seen.main.body.getD i (.Pass ⟨0,0,0,0⟩)
abbrev fO(a b:Str)(s:Stmt)(k:Addr)(v:Value)(r:Addr):Obj:=.mk (.type "function") none (.func (.mk a b (L2.Qy s) (.stmts (L2.Qw s)) (L2.Qh s) k [] .none .none .none v none (.ref r) .none 0)) #[]
abbrev cO(a:Str)(i:Tok)(b:Str)(j k:Tok)(l m n o p:Int)(u r:Addr)(v1 v2 v3 v4:Value)(x y:Int)(z:Tok):Obj:=.mk (.type "code") none (.fields #[.str a i,.str b j,.str "/claim/cut.py" k,.int l 0,.int m 0,.int n 0,.int o 0,.int p 0,.ref u,.bool Bool.true,.int 181 0,.ref r,v1,v2,v3,v4,.int x 0,.int y 0,.str "/claim/cut.py" z]) #[]
abbrev tO(v:Array Value):Obj:=.mk (.type "tuple") none (.seq v) #[]
abbrev kO(P:Params)(x:Str)(i:Tok)(v:Value):DictEntry:=.mk (PyData.keyHash P x) (.str x i) v
def hob0(i:Nat)(P:Params):Obj:=bif beq i 2 then .mk .none none (.dict #[]) #[]else bif beq i 3 then .mk (.type "dict") none (.dict #[kO P "__name__" 165 (.str "law_nonebetter_k95_whole_pictures_seen" 502),kO P "__doc__" 166 .none,kO P "__package__" 167 .none,kO P "__loader__" 168 (.builtin "__main__.__loader__#opaque"),kO P "__spec__" 169 .none,kO P "__annotations__" 170 (.ref 6),kO P "__builtins__" 171 (.ref 4),kO P "__file__" 173 (.str "/claim/cut.py" 172),kO P "__cached__" 174 .none,kO P "_wall" 193 (.ref 21),kO P "PlanError" 213 (.ref 31),kO P "NoPicture" 238 (.ref 51),kO P "is_whole" 247 (.ref 60),kO P "is_pair" 254 (.ref 67),kO P "NAMES" 290 (.ref 68),kO P "said_by" 297 (.ref 75),kO P "Facts" 409 (.ref 149),kO P "choices_taken" 417 (.ref 158),kO P "is_as_told" 426 (.ref 165),kO P "wrong_works" 432 (.ref 170),kO P "wrong_rooms" 438 (.ref 175),kO P "wrong_stores" 444 (.ref 180),kO P "wrong_afters" 450 (.ref 185),kO P "broken" 461 (.ref 192),kO P "WIDTH" 465 (.int 13 464),kO P "work_row" 471 (.ref 197),kO P "bench_row" 477 (.ref 202),kO P "drawn" 483 (.ref 207),kO P "is_bench_row" 489 (.ref 212),kO P "choices_seen" 495 (.ref 217),kO P "plan_seen" 501 (.ref 222),kO P "_law_cell_at" 511 (.ref 229),kO P "_law_whole" 518 (.ref 236),kO P "_law_block" 528 (.ref 243),kO P "_law_mixed" 538 (.ref 250),kO P "_law_name" 550 (.ref 257),kO P "_law_things" 566 (.ref 264),kO P "_law_way" 583 (.ref 271),kO P "_law_works" 601 (.ref 278),kO P "_law_put" 613 (.ref 285),kO P "_law_book" 626 (.ref 292),kO P "_law_ways" 632 (.ref 297),kO P "_law_plan" 638 (.ref 302),kO P "_law_length" 644 (.ref 307),kO P "_law_many" 650 (.ref 312),kO P "_law_all_done" 656 (.ref 317),kO P "_law_eased" 662 (.ref 322),kO P "_law_picture" 668 (.ref 327),kO P "_law_used" 681 (.ref 334),kO P "_law_refused" 692 (.ref 341),kO P "law" 698 (.ref 346)] 51) #[]else bif beq i 15 then tO #[]else bif beq i 17 then tO #[.str "k" 190]else
 tO #[]
def hob1(i:Nat)(P:Params):Obj:=bif beq i 20 then cO "_wall" 187 "_wall" 188 189 1 1 0 0 3 15 16 .none (.ref 17) (.ref 18) (.ref 19) 191 1 192 else bif beq i 21 then fO "_wall" "_wall" (htop 0) 3 (.str "__main__" 164) 20 else bif beq i 22 then tO #[.type "ValueError"]else bif beq i 29 then tO #[]else
 .mk (.type "dict") none (.dict #[kO P "__module__" 203 (.str "nonebetter.errors" 194),kO P "__firstlineno__" 207 (.int 5 206),kO P "__static_attributes__" 208 (.ref 29),kO P "__weakref__" 210 (.ref 32),kO P "__doc__" 211 .none] 3) #[]
def hob2(i:Nat)(P:Params):Obj:=bif beq i 31 then .mk (.type "type") none (.cls (ClassData.mk "PlanError" [.type "ValueError"] [.ref 31,.type "ValueError",.type "Exception",.type "BaseException",.type "object"] 30 "PlanError" Bool.true [] [.ref 51] Bool.false none Bool.false)) #[Option.some (.ref 22),none,Option.some (.str "PlanError" 196),Option.some (.str "PlanError" 204),Option.some (.builtin "ValueError.__new__"),Option.some (.bool Bool.true)]else bif beq i 32 then .mk (.type "getset_descriptor") none (.fields #[.str "__weakref__" 209,.ref 31,.builtin "ExceptionGroup.__weakref__",.none]) #[]else bif beq i 35 then tO #[.ref 31]else bif beq i 42 then tO #[]else
 tO #[.str "self" 229,.str "row" 230]
def hob3(i:Nat)(P:Params):Obj:=bif beq i 45 then tO #[]else bif beq i 47 then cO "__init__" 226 "NoPicture.__init__" 227 228 9 2 0 0 3 42 43 .none (.ref 44) (.ref 45) (.ref 46) 231 9 232 else bif beq i 48 then .mk (.type "function") none (.func (.mk "__init__" "NoPicture.__init__" (Arguments.mk [] [Arg.mk "self" none (Pos.mk 9 17 9 21),Arg.mk "row" none (Pos.mk 9 23 9 26)] none [] [] none []) (.stmts [Stmt.Assign [Expr.Attribute (Expr.Name "self" (Pos.mk 10 8 10 12)) "row" (Pos.mk 10 8 10 16)] (Expr.Name "row" (Pos.mk 10 19 10 22)) (Pos.mk 10 8 10 22)]) (Scope.mk ScopeKind.function [(Str.ofString "self",NameKind.local),(Str.ofString "row",NameKind.local)] Bool.false Bool.false []) 3 [] .none .none .none (.str "nonebetter.errors" 194) none (.ref 47) .none 0)) #[]else bif beq i 49 then tO #[.str "row" 234]else
 .mk (.type "dict") none (.dict #[kO P "__module__" 221 (.str "nonebetter.errors" 194),kO P "__firstlineno__" 225 (.int 7 224),kO P "__init__" 233 (.ref 48),kO P "__static_attributes__" 235 (.ref 49),kO P "__doc__" 236 .none] 2) #[]
def hob4(i:Nat)(P:Params):Obj:=bif beq i 51 then .mk (.type "type") none (.cls (ClassData.mk "NoPicture" [.ref 31] [.ref 51,.ref 31,.type "ValueError",.type "Exception",.type "BaseException",.type "object"] 50 "NoPicture" Bool.true [] [] Bool.false none Bool.false)) #[Option.some (.ref 35),none,Option.some (.str "NoPicture" 214),Option.some (.str "NoPicture" 222),Option.some (.builtin "ValueError.__new__"),Option.some (.bool Bool.true)]else bif beq i 54 then tO #[]else bif beq i 56 then tO #[.str "thing" 244]else bif beq i 57 then tO #[]else
 cO "is_whole" 241 "is_whole" 242 243 12 1 0 0 3 54 55 .none (.ref 56) (.ref 57) (.ref 58) 245 12 246
def hob5(i:Nat)(P:Params):Obj:=bif beq i 60 then fO "is_whole" "is_whole" (htop 5) 3 (.str "nonebetter.kinds" 239) 59 else bif beq i 61 then tO #[]else bif beq i 63 then tO #[.str "thing" 251]else bif beq i 64 then tO #[]else
 cO "is_pair" 248 "is_pair" 249 250 14 1 0 0 3 61 62 .none (.ref 63) (.ref 64) (.ref 65) 252 14 253
def hob6(i:Nat)(P:Params):Obj:=bif beq i 67 then fO "is_pair" "is_pair" (htop 6) 3 (.str "nonebetter.kinds" 239) 66 else bif beq i 68 then .mk (.type "dict") none (.dict #[kO P "days" 257 (.int 0 258),kO P "bench" 259 (.int 1 260),kO P "shut" 261 (.int 1 262),kO P "store" 263 (.int 1 264),kO P "work" 265 (.int 1 266),kO P "way" 267 (.int 2 268),kO P "uses" 269 (.int 3 270),kO P "takes" 271 (.int 3 272),kO P "gives" 273 (.int 3 274),kO P "after" 275 (.int 2 276),kO P "late" 277 (.int 1 278)] 11) #[]else bif beq i 69 then tO #[]else bif beq i 71 then tO #[.str "row" 294]else
 tO #[]
def hob7(i:Nat)(P:Params):Obj:=bif beq i 74 then cO "said_by" 291 "said_by" 292 293 18 1 0 0 3 69 70 .none (.ref 71) (.ref 72) (.ref 73) 295 18 296 else bif beq i 75 then fO "said_by" "said_by" (htop 9) 3 (.str "nonebetter.books" 255) 74 else bif beq i 83 then tO #[]else bif beq i 86 then cO "__init__" 312 "Facts.__init__" 313 314 23 2 0 0 3 83 84 .none .none .none (.ref 85) 315 23 316 else
 fO "__init__" "Facts.__init__" (inClass (htop 11) 0) 3 (.str "nonebetter.facts" 298) 86
def hob8(i:Nat)(P:Params):Obj:=bif beq i 88 then tO #[]else bif beq i 90 then tO #[.str "self" 321,.str "work" 322,.str "way" 323]else bif beq i 91 then tO #[]else bif beq i 93 then cO "is_way" 318 "Facts.is_way" 319 320 32 3 0 0 3 88 89 .none (.ref 90) (.ref 91) (.ref 92) 324 32 325 else
 fO "is_way" "Facts.is_way" (inClass (htop 11) 1) 3 (.str "nonebetter.facts" 298) 93
def hob9(i:Nat)(P:Params):Obj:=bif beq i 95 then tO #[]else bif beq i 97 then tO #[.str "self" 330,.str "work" 331,.str "way" 332]else bif beq i 98 then tO #[]else bif beq i 100 then cO "last_begin" 327 "Facts.last_begin" 328 329 35 3 0 0 3 95 96 .none (.ref 97) (.ref 98) (.ref 99) 333 35 334 else
 fO "last_begin" "Facts.last_begin" (inClass (htop 11) 2) 3 (.str "nonebetter.facts" 298) 100
def hob10(i:Nat)(P:Params):Obj:=bif beq i 102 then tO #[]else bif beq i 105 then cO "all_choices" 336 "Facts.all_choices" 337 338 38 1 0 0 3 102 103 .none .none .none (.ref 104) 339 38 340 else bif beq i 106 then fO "all_choices" "Facts.all_choices" (inClass (htop 11) 3) 3 (.str "nonebetter.facts" 298) 105 else bif beq i 107 then tO #[]else
 tO #[.str "self" 345,.str "choice" 346]
def hob11(i:Nat)(P:Params):Obj:=bif beq i 110 then tO #[]else bif beq i 112 then cO "end_of" 342 "Facts.end_of" 343 344 45 2 0 0 3 107 108 .none (.ref 109) (.ref 110) (.ref 111) 347 45 348 else bif beq i 113 then fO "end_of" "Facts.end_of" (inClass (htop 11) 4) 3 (.str "nonebetter.facts" 298) 112 else bif beq i 114 then tO #[]else
 tO #[.str "self" 353,.str "choice" 354]
def hob12(i:Nat)(P:Params):Obj:=bif beq i 117 then tO #[]else bif beq i 119 then cO "price_of" 350 "Facts.price_of" 351 352 48 2 0 0 3 114 115 .none (.ref 116) (.ref 117) (.ref 118) 355 48 356 else bif beq i 120 then fO "price_of" "Facts.price_of" (inClass (htop 11) 5) 3 (.str "nonebetter.facts" 298) 119 else bif beq i 121 then tO #[]else
 tO #[.str "self" 361,.str "word" 362,.str "choice" 363,.str "name" 364]
def hob13(i:Nat)(P:Params):Obj:=bif beq i 124 then tO #[]else bif beq i 126 then cO "many" 358 "Facts.many" 359 360 51 4 0 0 3 121 122 .none (.ref 123) (.ref 124) (.ref 125) 365 51 366 else bif beq i 127 then fO "many" "Facts.many" (inClass (htop 11) 6) 3 (.str "nonebetter.facts" 298) 126 else bif beq i 128 then tO #[]else
 tO #[.str "self" 371,.str "choice" 372,.str "bench" 373,.str "day" 374]
def hob14(i:Nat)(P:Params):Obj:=bif beq i 131 then tO #[]else bif beq i 133 then cO "used_by" 368 "Facts.used_by" 369 370 54 4 0 0 3 128 129 .none (.ref 130) (.ref 131) (.ref 132) 375 54 376 else bif beq i 134 then fO "used_by" "Facts.used_by" (inClass (htop 11) 7) 3 (.str "nonebetter.facts" 298) 133 else bif beq i 135 then tO #[]else
 tO #[.str "self" 381,.str "choice" 382,.str "store" 383,.str "day" 384,.str "gain" 385]
def hob15(i:Nat)(P:Params):Obj:=bif beq i 138 then tO #[]else bif beq i 140 then cO "gain_by" 378 "Facts.gain_by" 379 380 59 4 0 0 3 135 136 .none (.ref 137) (.ref 138) (.ref 139) 386 59 387 else bif beq i 141 then fO "gain_by" "Facts.gain_by" (inClass (htop 11) 8) 3 (.str "nonebetter.facts" 298) 140 else bif beq i 142 then tO #[]else
 cO "room_of" 389 "Facts.room_of" 390 391 67 3 0 0 3 142 143 .none .none .none (.ref 144) 392 67 393
def hob16(i:Nat)(P:Params):Obj:=bif beq i 146 then fO "room_of" "Facts.room_of" (inClass (htop 11) 9) 3 (.str "nonebetter.facts" 298) 145 else bif beq i 147 then tO #[.str "afters" 395,.str "benches" 396,.str "days" 397,.str "said" 398,.str "shuts" 399,.str "stores" 400,.str "works" 401]else bif beq i 148 then .mk (.type "dict") none (.dict #[kO P "__module__" 307 (.str "nonebetter.facts" 298),kO P "__firstlineno__" 311 (.int 21 310),kO P "__init__" 317 (.ref 87),kO P "is_way" 326 (.ref 94),kO P "last_begin" 335 (.ref 101),kO P "all_choices" 341 (.ref 106),kO P "end_of" 349 (.ref 113),kO P "price_of" 357 (.ref 120),kO P "many" 367 (.ref 127),kO P "used_by" 377 (.ref 134),kO P "gain_by" 388 (.ref 141),kO P "room_of" 394 (.ref 146),kO P "__static_attributes__" 402 (.ref 147),kO P "__dict__" 404 (.ref 150),kO P "__weakref__" 406 (.ref 151),kO P "__doc__" 407 .none] 4) #[]else bif beq i 149 then .mk (.type "type") none (.cls (ClassData.mk "Facts" [.type "object"] [.ref 149,.type "object"] 148 "Facts" Bool.true [] [] Bool.false none Bool.false)) #[none,none,Option.some (.str "Facts" 300),Option.some (.str "Facts" 308),Option.some (.builtin "object.__new__"),Option.some (.bool Bool.true)]else
 .mk (.type "getset_descriptor") none (.fields #[.str "__dict__" 403,.ref 149,.builtin "function.__dict__",.builtin "function.__dict__#set"]) #[]
def hob17(i:Nat)(P:Params):Obj:=bif beq i 151 then .mk (.type "getset_descriptor") none (.fields #[.str "__weakref__" 405,.ref 149,.builtin "ExceptionGroup.__weakref__",.none]) #[]else bif beq i 154 then tO #[]else bif beq i 157 then cO "choices_taken" 412 "choices_taken" 413 414 72 2 0 0 3 154 155 .none .none .none (.ref 156) 415 72 416 else bif beq i 158 then fO "choices_taken" "choices_taken" (htop 13) 3 (.str "nonebetter.plans" 410) 157 else
 tO #[]
def hob18(i:Nat)(P:Params):Obj:=bif beq i 161 then tO #[.str "facts" 421,.str "work" 422,.str "thing" 423]else bif beq i 162 then tO #[]else bif beq i 164 then cO "is_as_told" 418 "is_as_told" 419 420 74 3 0 0 3 159 160 .none (.ref 161) (.ref 162) (.ref 163) 424 74 425 else bif beq i 165 then fO "is_as_told" "is_as_told" (htop 14) 3 (.str "nonebetter.plans" 410) 164 else
 tO #[]
def hob19(i:Nat)(P:Params):Obj:=bif beq i 169 then cO "wrong_works" 427 "wrong_works" 428 429 78 2 0 0 3 166 167 .none .none .none (.ref 168) 430 78 431 else bif beq i 170 then fO "wrong_works" "wrong_works" (htop 15) 3 (.str "nonebetter.plans" 410) 169 else bif beq i 171 then tO #[]else bif beq i 174 then cO "wrong_rooms" 433 "wrong_rooms" 434 435 81 2 0 0 3 171 172 .none .none .none (.ref 173) 436 81 437 else
 fO "wrong_rooms" "wrong_rooms" (htop 16) 3 (.str "nonebetter.plans" 410) 174
def hob20(i:Nat)(P:Params):Obj:=bif beq i 176 then tO #[]else bif beq i 179 then cO "wrong_stores" 439 "wrong_stores" 440 441 88 2 0 0 3 176 177 .none .none .none (.ref 178) 442 88 443 else bif beq i 180 then fO "wrong_stores" "wrong_stores" (htop 17) 3 (.str "nonebetter.plans" 410) 179 else bif beq i 181 then tO #[]else
 cO "wrong_afters" 445 "wrong_afters" 446 447 95 2 0 0 3 181 182 .none .none .none (.ref 183) 448 95 449
def hob21(i:Nat)(P:Params):Obj:=bif beq i 185 then fO "wrong_afters" "wrong_afters" (htop 18) 3 (.str "nonebetter.plans" 410) 184 else bif beq i 186 then tO #[]else bif beq i 188 then tO #[.str "book" 454,.str "plan" 455,.str "facts" 456,.str "wrong" 457,.str "taken" 458]else bif beq i 189 then tO #[]else
 cO "broken" 451 "broken" 452 453 99 2 0 0 3 186 187 .none (.ref 188) (.ref 189) (.ref 190) 459 99 460
def hob22(i:Nat)(P:Params):Obj:=bif beq i 192 then fO "broken" "broken" (htop 19) 3 (.str "nonebetter.plans" 410) 191 else bif beq i 193 then tO #[]else bif beq i 196 then cO "work_row" 466 "work_row" 467 468 108 2 0 0 3 193 194 .none .none .none (.ref 195) 469 108 470 else bif beq i 197 then fO "work_row" "work_row" (htop 22) 3 (.str "nonebetter.pictures" 462) 196 else
 tO #[]
def hob23(i:Nat)(P:Params):Obj:=bif beq i 201 then cO "bench_row" 472 "bench_row" 473 474 111 3 0 0 3 198 199 .none .none .none (.ref 200) 475 111 476 else bif beq i 202 then fO "bench_row" "bench_row" (htop 23) 3 (.str "nonebetter.pictures" 462) 201 else bif beq i 203 then tO #[]else bif beq i 206 then cO "drawn" 478 "drawn" 479 480 114 2 0 0 3 203 204 .none .none .none (.ref 205) 481 114 482 else
 fO "drawn" "drawn" (htop 24) 3 (.str "nonebetter.pictures" 462) 206
def hob24(i:Nat)(P:Params):Obj:=bif beq i 208 then tO #[]else bif beq i 211 then cO "is_bench_row" 484 "is_bench_row" 485 486 119 3 0 0 3 208 209 .none .none .none (.ref 210) 487 119 488 else bif beq i 212 then fO "is_bench_row" "is_bench_row" (htop 25) 3 (.str "nonebetter.pictures" 462) 211 else bif beq i 213 then tO #[]else
 cO "choices_seen" 490 "choices_seen" 491 492 124 2 0 0 3 213 214 .none .none .none (.ref 215) 493 124 494
def hob25(i:Nat)(P:Params):Obj:=bif beq i 217 then fO "choices_seen" "choices_seen" (htop 26) 3 (.str "nonebetter.pictures" 462) 216 else bif beq i 218 then tO #[]else bif beq i 221 then cO "plan_seen" 496 "plan_seen" 497 498 133 2 0 0 3 218 219 .none .none .none (.ref 220) 499 133 500 else bif beq i 222 then fO "plan_seen" "plan_seen" (htop 27) 3 (.str "nonebetter.pictures" 462) 221 else
 tO #[]
def hob26(i:Nat)(P:Params):Obj:=bif beq i 232 then tO #[.str "_law_found" 515]else bif beq i 233 then tO #[]else bif beq i 235 then cO "_law_whole" 512 "_law_whole" 513 514 157 1 0 0 3 230 231 .none (.ref 232) (.ref 233) (.ref 234) 516 157 517 else bif beq i 236 then fO "_law_whole" "_law_whole" (htop 30) 3 (.str "law_nonebetter_k95_whole_pictures_seen" 502) 235 else
 tO #[]
def hob27(i:Nat)(P:Params):Obj:=bif beq i 239 then tO #[.str "_law_script" 522,.str "_law_k" 523,.str "_law_cell" 524,.str "_law_j" 525]else bif beq i 240 then tO #[]else bif beq i 242 then cO "_law_block" 519 "_law_block" 520 521 159 2 0 0 3 237 238 .none (.ref 239) (.ref 240) (.ref 241) 526 159 527 else bif beq i 243 then fO "_law_block" "_law_block" (htop 31) 3 (.str "law_nonebetter_k95_whole_pictures_seen" 502) 242 else
 tO #[]
def hob28(i:Nat)(P:Params):Obj:=bif beq i 246 then tO #[.str "_law_script" 532,.str "_law_k" 533,.str "_law_cell" 534,.str "_law_number" 535]else bif beq i 247 then tO #[]else bif beq i 249 then cO "_law_mixed" 529 "_law_mixed" 530 531 166 2 0 0 3 244 245 .none (.ref 246) (.ref 247) (.ref 248) 536 166 537 else bif beq i 250 then fO "_law_mixed" "_law_mixed" (htop 32) 3 (.str "law_nonebetter_k95_whole_pictures_seen" 502) 249 else
 tO #[]
def hob29(i:Nat)(P:Params):Obj:=bif beq i 253 then tO #[.str "_law_script" 542,.str "_law_k" 543,.str "_law_first" 544,.str "_law_number" 545,.str "_law_found" 546,.str "_law_j" 547]else bif beq i 254 then tO #[]else bif beq i 256 then cO "_law_name" 539 "_law_name" 540 541 177 3 0 0 3 251 252 .none (.ref 253) (.ref 254) (.ref 255) 548 177 549 else bif beq i 257 then fO "_law_name" "_law_name" (htop 33) 3 (.str "law_nonebetter_k95_whole_pictures_seen" 502) 256 else
 tO #[]
def hob30(i:Nat)(P:Params):Obj:=bif beq i 260 then tO #[.str "_law_script" 554,.str "_law_days" 555,.str "_law_found" 556,.str "_law_number" 557,.str "_law_k" 558,.str "_law_bench" 559,.str "_law_more" 560,.str "_law_j" 561,.str "_law_end" 562,.str "_law_most" 563]else bif beq i 261 then tO #[]else bif beq i 263 then cO "_law_things" 551 "_law_things" 552 553 184 2 0 0 3 258 259 .none (.ref 260) (.ref 261) (.ref 262) 564 184 565 else bif beq i 264 then fO "_law_things" "_law_things" (htop 34) 3 (.str "law_nonebetter_k95_whole_pictures_seen" 502) 263 else
 tO #[]
def hob31(i:Nat)(P:Params):Obj:=bif beq i 267 then tO #[.str "_law_script" 570,.str "_law_start" 571,.str "_law_days" 572,.str "_law_work" 573,.str "_law_way_here" 574,.str "_law_things_here" 575,.str "_law_number" 576,.str "_law_length_here" 577,.str "_law_found" 578,.str "_law_thing" 579,.str "_law_many_here" 580]else bif beq i 268 then tO #[]else bif beq i 270 then cO "_law_way" 567 "_law_way" 568 569 199 6 0 0 3 265 266 .none (.ref 267) (.ref 268) (.ref 269) 581 199 582 else bif beq i 271 then fO "_law_way" "_law_way" (htop 35) 3 (.str "law_nonebetter_k95_whole_pictures_seen" 502) 270 else
 tO #[]
def hob32(i:Nat)(P:Params):Obj:=bif beq i 274 then tO #[.str "_law_script" 587,.str "_law_days" 588,.str "_law_things_here" 589,.str "_law_found" 590,.str "_law_names" 591,.str "_law_many_here" 592,.str "_law_k" 593,.str "_law_work" 594,.str "_law_number" 595,.str "_law_j" 596,.str "_law_rows" 597,.str "_law_pair" 598]else bif beq i 275 then tO #[]else bif beq i 277 then cO "_law_works" 584 "_law_works" 585 586 213 3 0 0 3 272 273 .none (.ref 274) (.ref 275) (.ref 276) 599 213 600 else bif beq i 278 then fO "_law_works" "_law_works" (htop 36) 3 (.str "law_nonebetter_k95_whole_pictures_seen" 502) 277 else
 tO #[]
def hob33(i:Nat)(P:Params):Obj:=bif beq i 281 then tO #[.str "_law_rows" 605,.str "_law_row" 606,.str "_law_number" 607,.str "_law_least" 608,.str "_law_k" 609,.str "_law_at" 610]else bif beq i 282 then tO #[]else bif beq i 284 then cO "_law_put" 602 "_law_put" 603 604 235 3 0 0 3 279 280 .none (.ref 281) (.ref 282) (.ref 283) 611 235 612 else bif beq i 285 then fO "_law_put" "_law_put" (htop 37) 3 (.str "law_nonebetter_k95_whole_pictures_seen" 502) 284 else
 tO #[]
def hob34(i:Nat)(P:Params):Obj:=bif beq i 288 then tO #[.str "_law_script" 617,.str "_law_days" 618,.str "_law_things_here" 619,.str "_law_rows" 620,.str "_law_mixed_here" 621,.str "_law_k" 622,.str "_law_row" 623]else bif beq i 289 then tO #[]else bif beq i 291 then cO "_law_book" 614 "_law_book" 615 616 244 1 0 0 3 286 287 .none (.ref 288) (.ref 289) (.ref 290) 624 244 625 else bif beq i 292 then fO "_law_book" "_law_book" (htop 38) 3 (.str "law_nonebetter_k95_whole_pictures_seen" 502) 291 else
 tO #[]
def hob35(i:Nat)(P:Params):Obj:=bif beq i 296 then cO "_law_ways" 627 "_law_ways" 628 629 255 2 0 0 3 293 294 .none .none .none (.ref 295) 630 255 631 else bif beq i 297 then fO "_law_ways" "_law_ways" (htop 39) 3 (.str "law_nonebetter_k95_whole_pictures_seen" 502) 296 else bif beq i 298 then tO #[]else bif beq i 301 then cO "_law_plan" 633 "_law_plan" 634 635 257 3 0 0 3 298 299 .none .none .none (.ref 300) 636 257 637 else
 fO "_law_plan" "_law_plan" (htop 40) 3 (.str "law_nonebetter_k95_whole_pictures_seen" 502) 301
def hob36(i:Nat)(P:Params):Obj:=bif beq i 303 then tO #[]else bif beq i 306 then cO "_law_length" 639 "_law_length" 640 641 267 3 0 0 3 303 304 .none .none .none (.ref 305) 642 267 643 else bif beq i 307 then fO "_law_length" "_law_length" (htop 41) 3 (.str "law_nonebetter_k95_whole_pictures_seen" 502) 306 else bif beq i 308 then tO #[]else
 cO "_law_many" 645 "_law_many" 646 647 269 5 0 0 3 308 309 .none .none .none (.ref 310) 648 269 649
def hob37(i:Nat)(P:Params):Obj:=bif beq i 312 then fO "_law_many" "_law_many" (htop 42) 3 (.str "law_nonebetter_k95_whole_pictures_seen" 502) 311 else bif beq i 313 then tO #[]else bif beq i 316 then cO "_law_all_done" 651 "_law_all_done" 652 653 271 1 0 0 3 313 314 .none .none .none (.ref 315) 654 271 655 else bif beq i 317 then fO "_law_all_done" "_law_all_done" (htop 43) 3 (.str "law_nonebetter_k95_whole_pictures_seen" 502) 316 else
 tO #[]
def hob38(i:Nat)(P:Params):Obj:=bif beq i 321 then cO "_law_eased" 657 "_law_eased" 658 659 283 2 0 0 3 318 319 .none .none .none (.ref 320) 660 283 661 else bif beq i 322 then fO "_law_eased" "_law_eased" (htop 44) 3 (.str "law_nonebetter_k95_whole_pictures_seen" 502) 321 else bif beq i 323 then tO #[]else bif beq i 326 then cO "_law_picture" 663 "_law_picture" 664 665 301 2 0 0 3 323 324 .none .none .none (.ref 325) 666 301 667 else
 fO "_law_picture" "_law_picture" (htop 45) 3 (.str "law_nonebetter_k95_whole_pictures_seen" 502) 326
def hob39(i:Nat)(P:Params):Obj:=bif beq i 328 then tO #[]else bif beq i 330 then tO #[.str "_law_book_here" 672,.str "_law_plan_here" 673,.str "_law_bench" 674,.str "_law_day" 675,.str "_law_total" 676,.str "_law_work" 677,.str "_law_done" 678]else bif beq i 331 then tO #[]else bif beq i 333 then cO "_law_used" 669 "_law_used" 670 671 319 4 0 0 3 328 329 .none (.ref 330) (.ref 331) (.ref 332) 679 319 680 else
 fO "_law_used" "_law_used" (htop 46) 3 (.str "law_nonebetter_k95_whole_pictures_seen" 502) 333
def hob40(i:Nat)(P:Params):Obj:=bif beq i 335 then tO #[]else bif beq i 337 then tO #[.str "_law_book_here" 685,.str "_law_text" 686,.str "_law_row" 687,.str "_law_caught" 688,.str "e" 689]else bif beq i 338 then tO #[]else bif beq i 340 then cO "_law_refused" 682 "_law_refused" 683 684 325 3 0 0 3 335 336 .none (.ref 337) (.ref 338) (.ref 339) 690 325 691 else
 fO "_law_refused" "_law_refused" (htop 47) 3 (.str "law_nonebetter_k95_whole_pictures_seen" 502) 340
def hob41(i:Nat)(P:Params):Obj:=bif beq i 342 then tO #[]else bif beq i 345 then cO "law" 693 "law" 694 695 332 1 0 0 3 342 343 .none .none .none (.ref 344) 696 332 697 else
 fO "law" "law" (htop 48) 3 (.str "law_nonebetter_k95_whole_pictures_seen" 502) 345
def hob(i:Nat)(P:Params):Obj:=(bif ble i 184 then(bif ble i 101 then(bif ble i 59 then(bif ble i 30 then(bif ble i 18 then hob0 i P else hob1 i P)else(bif ble i 44 then hob2 i P else(bif ble i 50 then hob3 i P else hob4 i P)))else(bif ble i 72 then(bif ble i 66 then hob5 i P else hob6 i P)else(bif ble i 87 then hob7 i P else(bif ble i 94 then hob8 i P else hob9 i P))))else(bif ble i 137 then(bif ble i 116 then(bif ble i 109 then hob10 i P else hob11 i P)else(bif ble i 123 then hob12 i P else(bif ble i 130 then hob13 i P else hob14 i P)))else(bif ble i 159 then(bif ble i 145 then hob15 i P else(bif ble i 150 then hob16 i P else hob17 i P))else(bif ble i 166 then hob18 i P else(bif ble i 175 then hob19 i P else hob20 i P)))))else(bif ble i 265 then(bif ble i 230 then(bif ble i 198 then(bif ble i 191 then hob21 i P else hob22 i P)else(bif ble i 207 then hob23 i P else(bif ble i 216 then hob24 i P else hob25 i P)))else(bif ble i 244 then(bif ble i 237 then hob26 i P else hob27 i P)else(bif ble i 251 then hob28 i P else(bif ble i 258 then hob29 i P else hob30 i P))))else(bif ble i 302 then(bif ble i 279 then(bif ble i 272 then hob31 i P else hob32 i P)else(bif ble i 286 then hob33 i P else(bif ble i 293 then hob34 i P else hob35 i P)))else(bif ble i 327 then(bif ble i 311 then hob36 i P else(bif ble i 318 then hob37 i P else hob38 i P))else(bif ble i 334 then hob39 i P else(bif ble i 341 then hob40 i P else hob41 i P))))))
def heapK:Params->W.Frag:=fun P=>(nat_lit 2,hob (nat_lit 2) P)::(nat_lit 3,hob (nat_lit 3) P)::(nat_lit 15,hob (nat_lit 15) P)::(nat_lit 17,hob (nat_lit 17) P)::(nat_lit 18,hob (nat_lit 18) P)::(nat_lit 20,hob (nat_lit 20) P)::(nat_lit 21,hob (nat_lit 21) P)::(nat_lit 22,hob (nat_lit 22) P)::(nat_lit 29,hob (nat_lit 29) P)::(nat_lit 30,hob (nat_lit 30) P)::(nat_lit 31,hob (nat_lit 31) P)::(nat_lit 32,hob (nat_lit 32) P)::(nat_lit 35,hob (nat_lit 35) P)::(nat_lit 42,hob (nat_lit 42) P)::(nat_lit 44,hob (nat_lit 44) P)::(nat_lit 45,hob (nat_lit 45) P)::(nat_lit 47,hob (nat_lit 47) P)::(nat_lit 48,hob (nat_lit 48) P)::(nat_lit 49,hob (nat_lit 49) P)::(nat_lit 50,hob (nat_lit 50) P)::(nat_lit 51,hob (nat_lit 51) P)::(nat_lit 54,hob (nat_lit 54) P)::(nat_lit 56,hob (nat_lit 56) P)::(nat_lit 57,hob (nat_lit 57) P)::(nat_lit 59,hob (nat_lit 59) P)::(nat_lit 60,hob (nat_lit 60) P)::(nat_lit 61,hob (nat_lit 61) P)::(nat_lit 63,hob (nat_lit 63) P)::(nat_lit 64,hob (nat_lit 64) P)::(nat_lit 66,hob (nat_lit 66) P)::(nat_lit 67,hob (nat_lit 67) P)::(nat_lit 68,hob (nat_lit 68) P)::(nat_lit 69,hob (nat_lit 69) P)::(nat_lit 71,hob (nat_lit 71) P)::(nat_lit 72,hob (nat_lit 72) P)::(nat_lit 74,hob (nat_lit 74) P)::(nat_lit 75,hob (nat_lit 75) P)::(nat_lit 83,hob (nat_lit 83) P)::(nat_lit 86,hob (nat_lit 86) P)::(nat_lit 87,hob (nat_lit 87) P)::(nat_lit 88,hob (nat_lit 88) P)::(nat_lit 90,hob (nat_lit 90) P)::(nat_lit 91,hob (nat_lit 91) P)::(nat_lit 93,hob (nat_lit 93) P)::(nat_lit 94,hob (nat_lit 94) P)::(nat_lit 95,hob (nat_lit 95) P)::(nat_lit 97,hob (nat_lit 97) P)::(nat_lit 98,hob (nat_lit 98) P)::(nat_lit 100,hob (nat_lit 100) P)::(nat_lit 101,hob (nat_lit 101) P)::(nat_lit 102,hob (nat_lit 102) P)::(nat_lit 105,hob (nat_lit 105) P)::(nat_lit 106,hob (nat_lit 106) P)::(nat_lit 107,hob (nat_lit 107) P)::(nat_lit 109,hob (nat_lit 109) P)::(nat_lit 110,hob (nat_lit 110) P)::(nat_lit 112,hob (nat_lit 112) P)::(nat_lit 113,hob (nat_lit 113) P)::(nat_lit 114,hob (nat_lit 114) P)::(nat_lit 116,hob (nat_lit 116) P)::(nat_lit 117,hob (nat_lit 117) P)::(nat_lit 119,hob (nat_lit 119) P)::(nat_lit 120,hob (nat_lit 120) P)::(nat_lit 121,hob (nat_lit 121) P)::(nat_lit 123,hob (nat_lit 123) P)::(nat_lit 124,hob (nat_lit 124) P)::(nat_lit 126,hob (nat_lit 126) P)::(nat_lit 127,hob (nat_lit 127) P)::(nat_lit 128,hob (nat_lit 128) P)::(nat_lit 130,hob (nat_lit 130) P)::(nat_lit 131,hob (nat_lit 131) P)::(nat_lit 133,hob (nat_lit 133) P)::(nat_lit 134,hob (nat_lit 134) P)::(nat_lit 135,hob (nat_lit 135) P)::(nat_lit 137,hob (nat_lit 137) P)::(nat_lit 138,hob (nat_lit 138) P)::(nat_lit 140,hob (nat_lit 140) P)::(nat_lit 141,hob (nat_lit 141) P)::(nat_lit 142,hob (nat_lit 142) P)::(nat_lit 145,hob (nat_lit 145) P)::(nat_lit 146,hob (nat_lit 146) P)::(nat_lit 147,hob (nat_lit 147) P)::(nat_lit 148,hob (nat_lit 148) P)::(nat_lit 149,hob (nat_lit 149) P)::(nat_lit 150,hob (nat_lit 150) P)::(nat_lit 151,hob (nat_lit 151) P)::(nat_lit 154,hob (nat_lit 154) P)::(nat_lit 157,hob (nat_lit 157) P)::(nat_lit 158,hob (nat_lit 158) P)::(nat_lit 159,hob (nat_lit 159) P)::(nat_lit 161,hob (nat_lit 161) P)::(nat_lit 162,hob (nat_lit 162) P)::(nat_lit 164,hob (nat_lit 164) P)::(nat_lit 165,hob (nat_lit 165) P)::(nat_lit 166,hob (nat_lit 166) P)::(nat_lit 169,hob (nat_lit 169) P)::(nat_lit 170,hob (nat_lit 170) P)::(nat_lit 171,hob (nat_lit 171) P)::(nat_lit 174,hob (nat_lit 174) P)::(nat_lit 175,hob (nat_lit 175) P)::(nat_lit 176,hob (nat_lit 176) P)::(nat_lit 179,hob (nat_lit 179) P)::(nat_lit 180,hob (nat_lit 180) P)::(nat_lit 181,hob (nat_lit 181) P)::(nat_lit 184,hob (nat_lit 184) P)::(nat_lit 185,hob (nat_lit 185) P)::(nat_lit 186,hob (nat_lit 186) P)::(nat_lit 188,hob (nat_lit 188) P)::(nat_lit 189,hob (nat_lit 189) P)::(nat_lit 191,hob (nat_lit 191) P)::(nat_lit 192,hob (nat_lit 192) P)::(nat_lit 193,hob (nat_lit 193) P)::(nat_lit 196,hob (nat_lit 196) P)::(nat_lit 197,hob (nat_lit 197) P)::(nat_lit 198,hob (nat_lit 198) P)::(nat_lit 201,hob (nat_lit 201) P)::(nat_lit 202,hob (nat_lit 202) P)::(nat_lit 203,hob (nat_lit 203) P)::(nat_lit 206,hob (nat_lit 206) P)::(nat_lit 207,hob (nat_lit 207) P)::(nat_lit 208,hob (nat_lit 208) P)::(nat_lit 211,hob (nat_lit 211) P)::(nat_lit 212,hob (nat_lit 212) P)::(nat_lit 213,hob (nat_lit 213) P)::(nat_lit 216,hob (nat_lit 216) P)::(nat_lit 217,hob (nat_lit 217) P)::(nat_lit 218,hob (nat_lit 218) P)::(nat_lit 221,hob (nat_lit 221) P)::(nat_lit 222,hob (nat_lit 222) P)::(nat_lit 230,hob (nat_lit 230) P)::(nat_lit 232,hob (nat_lit 232) P)::(nat_lit 233,hob (nat_lit 233) P)::(nat_lit 235,hob (nat_lit 235) P)::(nat_lit 236,hob (nat_lit 236) P)::(nat_lit 237,hob (nat_lit 237) P)::(nat_lit 239,hob (nat_lit 239) P)::(nat_lit 240,hob (nat_lit 240) P)::(nat_lit 242,hob (nat_lit 242) P)::(nat_lit 243,hob (nat_lit 243) P)::(nat_lit 244,hob (nat_lit 244) P)::(nat_lit 246,hob (nat_lit 246) P)::(nat_lit 247,hob (nat_lit 247) P)::(nat_lit 249,hob (nat_lit 249) P)::(nat_lit 250,hob (nat_lit 250) P)::(nat_lit 251,hob (nat_lit 251) P)::(nat_lit 253,hob (nat_lit 253) P)::(nat_lit 254,hob (nat_lit 254) P)::(nat_lit 256,hob (nat_lit 256) P)::(nat_lit 257,hob (nat_lit 257) P)::(nat_lit 258,hob (nat_lit 258) P)::(nat_lit 260,hob (nat_lit 260) P)::(nat_lit 261,hob (nat_lit 261) P)::(nat_lit 263,hob (nat_lit 263) P)::(nat_lit 264,hob (nat_lit 264) P)::(nat_lit 265,hob (nat_lit 265) P)::(nat_lit 267,hob (nat_lit 267) P)::(nat_lit 268,hob (nat_lit 268) P)::(nat_lit 270,hob (nat_lit 270) P)::(nat_lit 271,hob (nat_lit 271) P)::(nat_lit 272,hob (nat_lit 272) P)::(nat_lit 274,hob (nat_lit 274) P)::(nat_lit 275,hob (nat_lit 275) P)::(nat_lit 277,hob (nat_lit 277) P)::(nat_lit 278,hob (nat_lit 278) P)::(nat_lit 279,hob (nat_lit 279) P)::(nat_lit 281,hob (nat_lit 281) P)::(nat_lit 282,hob (nat_lit 282) P)::(nat_lit 284,hob (nat_lit 284) P)::(nat_lit 285,hob (nat_lit 285) P)::(nat_lit 286,hob (nat_lit 286) P)::(nat_lit 288,hob (nat_lit 288) P)::(nat_lit 289,hob (nat_lit 289) P)::(nat_lit 291,hob (nat_lit 291) P)::(nat_lit 292,hob (nat_lit 292) P)::(nat_lit 293,hob (nat_lit 293) P)::(nat_lit 296,hob (nat_lit 296) P)::(nat_lit 297,hob (nat_lit 297) P)::(nat_lit 298,hob (nat_lit 298) P)::(nat_lit 301,hob (nat_lit 301) P)::(nat_lit 302,hob (nat_lit 302) P)::(nat_lit 303,hob (nat_lit 303) P)::(nat_lit 306,hob (nat_lit 306) P)::(nat_lit 307,hob (nat_lit 307) P)::(nat_lit 308,hob (nat_lit 308) P)::(nat_lit 311,hob (nat_lit 311) P)::(nat_lit 312,hob (nat_lit 312) P)::(nat_lit 313,hob (nat_lit 313) P)::(nat_lit 316,hob (nat_lit 316) P)::(nat_lit 317,hob (nat_lit 317) P)::(nat_lit 318,hob (nat_lit 318) P)::(nat_lit 321,hob (nat_lit 321) P)::(nat_lit 322,hob (nat_lit 322) P)::(nat_lit 323,hob (nat_lit 323) P)::(nat_lit 326,hob (nat_lit 326) P)::(nat_lit 327,hob (nat_lit 327) P)::(nat_lit 328,hob (nat_lit 328) P)::(nat_lit 330,hob (nat_lit 330) P)::(nat_lit 331,hob (nat_lit 331) P)::(nat_lit 333,hob (nat_lit 333) P)::(nat_lit 334,hob (nat_lit 334) P)::(nat_lit 335,hob (nat_lit 335) P)::(nat_lit 337,hob (nat_lit 337) P)::(nat_lit 338,hob (nat_lit 338) P)::(nat_lit 340,hob (nat_lit 340) P)::(nat_lit 341,hob (nat_lit 341) P)::(nat_lit 342,hob (nat_lit 342) P)::(nat_lit 345,hob (nat_lit 345) P)::(nat_lit 346,hob (nat_lit 346) P)::[]
theorem all_ok{w:World}(M:Mg mg){fI fY fG fR fA:Addr}{fdY fdG fdR fdA:FuncData}(T:FcTxt K mg C)(TN:Tab w K mg "NAMES" aN fN)(hN:Qej fN)(Q:Mk K C fI)(FI:Fun K "__init__" "Facts.__init__" Wf fI fdI)(bI:Binds K fdI ["self","book"] [])(S:Fun K "end_of" "Facts.end_of" Qgc fE fdE)(U:Binds K fdE ["self","choice"] [])(Y:Meth K C "end_of" fE)(FY:Fun K "is_way" "Facts.is_way" Vt fY fdY)(bY:Binds K fdY ["self","work","way"] [])(mY:Meth K C "is_way" fY)(FL:Fun K "last_begin" "Facts.last_begin" Qbm fL fdL)(bL:Binds K fdL ["self","work","way"] [])(mL:Meth K C "last_begin" fL)(FM:Fun K "many" "Facts.many" Qbn fM fdM)(bM:Binds K fdM ["self","word","choice","name"] [])(mM:Meth K C "many" fM)(FU:Fun K "used_by" "Facts.used_by" Qbo fU fdU)(bU:Binds K fdU ["self","choice","bench","day"] [])(mU:Meth K C "used_by" fU)(FG:Fun K "gain_by" "Facts.gain_by" Qbp fG fdG)(bG:Binds K fdG ["self","choice","store","day"] [])(mG:Meth K C "gain_by" fG)(FR:Fun K "room_of" "Facts.room_of" Qbq fR fdR)(bR:Binds K fdR ["self","bench","day"] [])(mR:Meth K C "room_of" fR)(FA:Fun K "all_choices" "Facts.all_choices" Qcz fA fdA)(bA:Binds K fdA ["self"] [])(mA:Meth K C "all_choices" fA)(Z:ErrI K mg "NoPicture" CX DX fX "row")(FX:Fun K "__init__" "NoPicture.__init__" sNPI fX fdX)(bX:Binds K fdX ["self","row"] [])(X:K.lookup fX=some fo)(V:fo.cls=.type "function")(R:PySem.W.keepIn K (.ref CX)=true)(EK:EPk K mg CX DX)(O:mg "WIDTH"=some (.int 13 tW))(F1:Fn K mg "_law_block" Qjs)(F2:Fn K mg "_law_mixed" Qjt)(F3:Fn K mg "_law_whole" Qju)(F4:Fn K mg "_law_name" Qsj)(F5:Fn K mg "_law_things" Qee)(F6:Fn K mg "_law_way" sWay)(F7:Fn K mg "_law_put" sPut)(F8:Fn K mg "_law_works" Qjy)(F9:Fn K mg "_law_book" Qsq)(ar:Fn K mg "_law_ways" Qsr)(aA:Fn K mg "_law_length" Qbi)(aw:Fn K mg "_law_plan" Qlp)(an:Fn K mg "_law_many" Qol)(am:Fn K mg "_law_all_done" Qqi)(ay:Fn K mg "is_whole" sIW)(ag:Fn K mg "is_pair" sIP)(aa:Fn K mg "said_by" Qsy)(aB:Fn K mg "choices_taken" Qgg)(ab:Fn K mg "is_as_told" Qtg)(ac:Fn K mg "wrong_works" sWW)(ae:Fn K mg "wrong_rooms" sWR)(af:Fn K mg "wrong_stores" sWS)(al:Fn K mg "wrong_afters" sWA)(aq:Fn K mg "broken" Qen)(au:Fn K mg "work_row" sWoR)(av:Fn K mg "bench_row" sBeR)(aj:Fn K mg "drawn" sDrw)(ao:Fn K mg "is_bench_row" sIBR)(ap:Fn K mg "choices_seen" sChS)(az:Fn K mg "plan_seen" sPSe)(ak:Fn K mg "_law_eased" sEas)(ai:Fn K mg "_law_used" sUse)(ad:Fn K mg "_law_picture" sPic)(ax:Fn K mg "_law_refused" sRef)(ah:Fun K "law" "law" sLaw f fd):FnOk P w K mg base CX0 8 f fd ["_law_script"] (Qro K):=by
 have A:=Qwl (P:=P) (w:=w) (base:=base) F1 M
 have a:=Qwm F2 M A
 have D:=Qwo (P:=P) (w:=w) (base:=base) F3 M
 have s:=okName F4 M a
 have x:=Qsk F5 M a s
 have J:=okWay F6 M a
 have L:=okPut (P:=P) (w:=w) (base:=base) F7 M
 have z:=Qwu F8 M a s J
 have G:=okBook F9 M a x z L
 have q:=okWays (P:=P) (w:=w) (base:=base) ar M
 have j:=Qsu (P:=P) (w:=w) (base:=base) aA M
 have E:=okPlan aw M a q
 have F:=okMany (P:=P) (w:=w) (base:=base) an M
 have r:=okDone am M q
 have t:=okIW (P:=P) (w:=w) (base:=base) ay M
 have y:=okIP (P:=P) (w:=w) (base:=base) ag M
 have c:=okSaid (P:=P) (w:=w) (base:=base) aa M TN hN
 have b:=Qxi (P:=P) (w:=w) (base:=base) aB T
 have p:=okTold ab M T (okFcY (P:=P) (w:=w) (base:=base) FY T) bY mY (okFcL (P:=P) (w:=w) (base:=base) FL T) bL mL t y
 have n:=okWW ac M T p
 have o:=okWR (P:=P) (w:=w) (base:=base) ae M T (okFcU (P:=P) (w:=w) (base:=base) FU T (Qou (P:=P) (w:=w) (base:=base) S T) U Y (Qxg (P:=P) (w:=w) (base:=base) FM T) bM mM) bU mU (okFcR (P:=P) (w:=w) (base:=base) FR M T) bR mR
 have k:=okWS (P:=P) (w:=w) (base:=base) af M T (okFcG (P:=P) (w:=w) (base:=base) FG T (Qou (P:=P) (w:=w) (base:=base) S T) U Y (Qxg (P:=P) (w:=w) (base:=base) FM T) bM mM) bG mG
 have m:=okWA (P:=P) (w:=w) (base:=base) al M T (Qou (P:=P) (w:=w) (base:=base) S T) U Y
 have g:=Qtj aq M T Q (Qxe FI M T c) bI n b o k m
 have h:=okWoR (P:=P) (w:=w) (base:=base) O T (Qou (P:=P) (w:=w) (base:=base) S T) U Y au M
 have e:=okBeR (P:=P) (w:=w) (base:=base) O T (okFcU (P:=P) (w:=w) (base:=base) FU T (Qou (P:=P) (w:=w) (base:=base) S T) U Y (Qxg (P:=P) (w:=w) (base:=base) FM T) bM mM) bU mU av M
 have I:=okDrw T Q (Qxe FI M T c) bI aj M b h e
 have i:=okIBR (P:=P) (w:=w) (base:=base) O T ao M
 have l:=okChS (⟨Z,okNPI FX Z,bX,X,V,R⟩:NPk P w K mg base CX DX fX fdX fo) T (okFcA (P:=P) (w:=w) (base:=base) FA M T (okFcL (P:=P) (w:=w) (base:=base) FL T) bL mL) bA mA ap M h
 have d:=okPSe (⟨Z,okNPI FX Z,bX,X,V,R⟩:NPk P w K mg base CX DX fX fdX fo) T Q (Qxe FI M T c) bI az M i e g l
 have B:=okEas ak M g
 have H:=okUse ai M j F
 have u:=okPic ad M j H
 have v:=okRef EK ax M d
 have N:=okLaw ah M G r E B g I u d.calm D v
 exact N
theorem walk{l:PySem.W.OpenLaw}{q:Program}{d:DefRec}{K:Params->Fg}(j:l.most=some 63)(b:d.params.defaults=[])
  (c:∀(w:World) (h:Heap),YP w h->(K w.params).In h)
  (F:∀(w:World) (mg:Z9) (fa:Addr) (h:Heap),(K w.params).In h->h.Ns mainGlobals mg->mg d.name=some (.ref fa) ->
   ∃fd:FuncData,(∀(s:Shared) (u:Value),BindsTo s fd ⟨[u],[]⟩ [("_law_script",u)])/\∀base:Heap,(K w.params).In base->base.Ns mainGlobals mg->FnOk l.prog w (K w.params) mg base CX0 8 fa fd ["_law_script"] (Qro (K w.params))) :
  PySem.W.WalkO q loose XP YP l.row.toRowW d [] (fun f vs=>PySem.call f vs) :=
 L2.Qna (n:=63) (k:=8) (x:="_law_script") (CX:=fun _=>CX0) (sp:=fun w=>Qro (K w.params)) j Dc b ⟨rfl,Dc,Dc⟩ c F (fun _ _ a g i m e=>⟨a,g,rfl,e,i,fun _=>rfl⟩) fun _ _ _ _ _ z=>z
end Nb
def Nb.pwv:PySem.Program:={ PySem.Challenge.pw_nonebetter_k95_whole_pictures_seen with main:={ PySem.Challenge.pw_nonebetter_k95_whole_pictures_seen.main with body:=[Nb.htop 0,Nb.htop 1,Nb.htop 2,Nb.htop 3,Nb.htop 4,Nb.htop 5,Nb.htop 6,Nb.htop 7,Nb.htop 8,Nb.htop 9,Nb.htop 10,Nb.htop 11,Nb.htop 12,Nb.htop 13,Nb.htop 14,Nb.htop 15,Nb.htop 16,Nb.htop 17,Nb.htop 18,Nb.htop 19,Nb.htop 20,Nb.htop 21,Nb.htop 22,Nb.htop 23,Nb.htop 24,Nb.htop 25,Nb.htop 26,Nb.htop 27,Nb.htop 28,Nb.htop 29,Nb.htop 30,Nb.htop 31,Nb.htop 32,Nb.htop 33,Nb.htop 34,Nb.htop 35,Nb.htop 36,Nb.htop 37,Nb.htop 38,Nb.htop 39,Nb.htop 40,Nb.htop 41,Nb.htop 42,Nb.htop 43,Nb.htop 44,Nb.htop 45,Nb.htop 46,Nb.htop 47,Nb.htop 48] } }
def PySem.W.Fast.tw1653918685017820470:Nat->PySem.Params->PySem.Obj:=Nb.hob
theorem PySem.W.Fast.te1653918685017820470:Nb.hob=PySem.W.Fast.tw1653918685017820470:=rfl
def PySem.W.Fast.tw14472865701577543460:PySem.Program:=PySem.Challenge.pw_nonebetter_k95_whole_pictures_seen
theorem PySem.W.Fast.te14472865701577543460:PySem.Challenge.pw_nonebetter_k95_whole_pictures_seen=PySem.W.Fast.tw14472865701577543460:=rfl
def PySem.W.Fast.tw9401860820342270615:PySem.Program:=Nb.pwv
theorem PySem.W.Fast.te9401860820342270615:Nb.pwv=PySem.W.Fast.tw9401860820342270615:=rfl
def PySem.W.Fast.tw11570947652754012800:Nat->PySem.Stmt:=Nb.htop
theorem PySem.W.Fast.te11570947652754012800:Nb.htop=PySem.W.Fast.tw11570947652754012800:=rfl
namespace PySem.W.Fast
def tw1550077336901525422:=0
def tw8726860339458470687:=0
def tw18371005745671975846:=0
def tw8303423029139912008:=0
def tw17201471547127620697:=0
def tw3588988850725690173:=0
def tw13083227793849528944:=0
def tw1468227177911702794:=0
def tw10026148982848299617:=0
def tw11506550425373260439:=0
def tw3615025078177093433:=0
def tw3308382884266263487:=0
def tw17259221383407120652:=0
def tw1505799577627946068:=0
def tw10095508057537156010:=0
def tw2798418475445770943:=0
def tw16687070989763792405:=0
def tw3962341980323148262:=0
def tw2555328915646679543:=0
def tw199532754450211929:=0
def tw13339330764796551064:=0
def tw8385232389844342788:=0
def tw15100587661004217219:=0
def tw3259401257557905342:=0
def tw17584687946823640112:=0
def tw743292118402983291:=0
def tw2625539654252230113:=0
def tw2547623611888147183:=0
def tw15508784558092850901:=0
def tw394545793573731993:=0
def tw8516012536186844704:=0
def tw12326620807205827449:=0
def tw6011219266040444237:=0
def tw13665541338627627396:=0
def tw10672116808085202977:=0
def tw3835916328975984955:=0
def tw4549851059608114534:=0
def tw2806331672836088041:=0
def tw16700538484809050935:=0
def tw15324504476869038005:=0
def tw3246860659375864495:=0
def tw7569738271499680173:=0
def tw7405473691466482348:=0
def tw2937093703509655219:=0
def tw12487468588154087779:=0
def tw7728106718523676700:=0
def tw5661620479937026495:=0
def tw11764302432569653070:=0
def tw1673828701647144401:=0
def tw16455800272182413390:=0
def tw121652737402574398:=0
def tw17783862938780266731:=0
def tw7024791543347895596:=0
def tw7306180892070638863:=0
def tw5664415414240196522:=0
def tw15166306612638990507:=0
def tw18274736626583445704:=0
def tw13103313014485744539:=0
def tw15627939833403501722:=0
def tw15289177644197181429:=0
def tw15328875582697552513:=0
def tw5192624765782434337:=0
def tw634105357868187904:=0
def tw10989803919137350143:=0
def tw14381327491325896509:=0
def tw13172130879486065858:=0
def tw7102860872243575506:=0
def tw14479925417258797001:=0
def tw8312417224140827814:=0
def tw6944584036499578906:=0
def tw5204317653052286694:=0
def tw68177992135602615:=0
def tw6647810697247521994:=0
def tw11786156748236913200:=0
def tw4421646652904464904:=0
def tw15674017777140309400:=0
def tw18234539334597477502:=0
def tw5790534613273053854:=0
def tw3877680505185576384:=0
def tw3908920235718887850:=0
def tw9094324599524690149:=0
def tw13731181323857684814:=0
def tw17370412775861391197:=0
def tw7214026456543439215:=0
def tw8374550360696644451:=0
def tw1769678778487565487:=0
def tw8056810870356482913:=0
def tw12518467323654408021:=0
def tw3758365142949199472:=0
def tw15249759740065164091:=0
def tw1614361467843433279:=0
def tw13183982719714157076:=0
def tw4464364227069255557:=0
def tw3635203574638877455:=0
def tw4388388406604650512:=0
def tw6475858277336409964:=0
def tw3363741749672866572:=0
def tw9577275802769563985:=0
def tw16141352417181145192:=0
def tw5572695410132460291:=0
def tw9381984662218585123:=0
def tw5727462105420527124:=0
def tw4929429146155337462:=0
def tw2336704354183853964:=0
def tw13460010844411016350:=0
def tw11890101458525162741:=0
def tw5790096997301153904:=0
end PySem.W.Fast
end
open PySem PySem.W PyProof.Rows
set_option maxRecDepth 100000 in
set_option maxHeartbeats 0 in
theorem PySem.Challenge.cw_nonebetter_k95_whole_pictures_seen_holds : PySem.Challenge.rw_nonebetter_k95_whole_pictures_seen.Holds := by
 w_on;o_law;show PySem.W.OpenRow.Holds { PySem.Challenge.rw_nonebetter_k95_whole_pictures_seen.row with prog:=Nb.pwv };o_head (PySem.W.kHook Nb.heapK (nat_lit 2::nat_lit 3::nat_lit 15::nat_lit 17::nat_lit 18::nat_lit 20::nat_lit 21::nat_lit 22::nat_lit 29::nat_lit 30::nat_lit 31::nat_lit 32::nat_lit 35::nat_lit 42::nat_lit 44::nat_lit 45::nat_lit 47::nat_lit 48::nat_lit 49::nat_lit 50::nat_lit 51::nat_lit 54::nat_lit 56::nat_lit 57::nat_lit 59::nat_lit 60::nat_lit 61::nat_lit 63::nat_lit 64::nat_lit 66::nat_lit 67::nat_lit 68::nat_lit 69::nat_lit 71::nat_lit 72::nat_lit 74::nat_lit 75::nat_lit 83::nat_lit 86::nat_lit 87::nat_lit 88::nat_lit 90::nat_lit 91::nat_lit 93::nat_lit 94::nat_lit 95::nat_lit 97::nat_lit 98::nat_lit 100::nat_lit 101::nat_lit 102::nat_lit 105::nat_lit 106::nat_lit 107::nat_lit 109::nat_lit 110::nat_lit 112::nat_lit 113::nat_lit 114::nat_lit 116::nat_lit 117::nat_lit 119::nat_lit 120::nat_lit 121::nat_lit 123::nat_lit 124::nat_lit 126::nat_lit 127::nat_lit 128::nat_lit 130::nat_lit 131::nat_lit 133::nat_lit 134::nat_lit 135::nat_lit 137::nat_lit 138::nat_lit 140::nat_lit 141::nat_lit 142::nat_lit 145::nat_lit 146::nat_lit 147::nat_lit 148::nat_lit 149::nat_lit 150::nat_lit 151::nat_lit 154::nat_lit 157::nat_lit 158::nat_lit 159::nat_lit 161::nat_lit 162::nat_lit 164::nat_lit 165::nat_lit 166::nat_lit 169::nat_lit 170::nat_lit 171::nat_lit 174::nat_lit 175::nat_lit 176::nat_lit 179::nat_lit 180::nat_lit 181::nat_lit 184::nat_lit 185::nat_lit 186::nat_lit 188::nat_lit 189::nat_lit 191::nat_lit 192::nat_lit 193::nat_lit 196::nat_lit 197::nat_lit 198::nat_lit 201::nat_lit 202::nat_lit 203::nat_lit 206::nat_lit 207::nat_lit 208::nat_lit 211::nat_lit 212::nat_lit 213::nat_lit 216::nat_lit 217::nat_lit 218::nat_lit 221::nat_lit 222::nat_lit 230::nat_lit 232::nat_lit 233::nat_lit 235::nat_lit 236::nat_lit 237::nat_lit 239::nat_lit 240::nat_lit 242::nat_lit 243::nat_lit 244::nat_lit 246::nat_lit 247::nat_lit 249::nat_lit 250::nat_lit 251::nat_lit 253::nat_lit 254::nat_lit 256::nat_lit 257::nat_lit 258::nat_lit 260::nat_lit 261::nat_lit 263::nat_lit 264::nat_lit 265::nat_lit 267::nat_lit 268::nat_lit 270::nat_lit 271::nat_lit 272::nat_lit 274::nat_lit 275::nat_lit 277::nat_lit 278::nat_lit 279::nat_lit 281::nat_lit 282::nat_lit 284::nat_lit 285::nat_lit 286::nat_lit 288::nat_lit 289::nat_lit 291::nat_lit 292::nat_lit 293::nat_lit 296::nat_lit 297::nat_lit 298::nat_lit 301::nat_lit 302::nat_lit 303::nat_lit 306::nat_lit 307::nat_lit 308::nat_lit 311::nat_lit 312::nat_lit 313::nat_lit 316::nat_lit 317::nat_lit 318::nat_lit 321::nat_lit 322::nat_lit 323::nat_lit 326::nat_lit 327::nat_lit 328::nat_lit 330::nat_lit 331::nat_lit 333::nat_lit 334::nat_lit 335::nat_lit 337::nat_lit 338::nat_lit 340::nat_lit 341::nat_lit 342::nat_lit 345::nat_lit 346::[]) (fun _=>by kernel_rfl));(case hw=>w_witness2)
 k_fill
 refine Nb.walk (l:=PySem.Challenge.rw_nonebetter_k95_whole_pictures_seen) rfl rfl (fun w h Y=>PySem.W.kIn_of Y) ?F
 case F=>
  intro w mg fa h KX G hmg
  have⟨F1,F2,F3,F4,F5,F6,F7,F8,F9,F10,F11,F12,F13,F14,F15,F16,F17,F18,F19,F20,F21,F22,F23,F24,F25,F26,F27,F28,F29,F30,F31,F32,F33,F34,F35⟩:L2.Fn (L2.KOf KX) mg "_law_block" Nb.Qjs/\L2.Fn (L2.KOf KX) mg "_law_mixed" Nb.Qjt/\L2.Fn (L2.KOf KX) mg "_law_whole" Nb.Qju/\L2.Fn (L2.KOf KX) mg "_law_name" Nb.Qsj/\L2.Fn (L2.KOf KX) mg "_law_things" Nb.Qee/\L2.Fn (L2.KOf KX) mg "_law_way" Nb.sWay/\L2.Fn (L2.KOf KX) mg "_law_put" Nb.sPut/\L2.Fn (L2.KOf KX) mg "_law_works" Nb.Qjy/\L2.Fn (L2.KOf KX) mg "_law_book" Nb.Qsq/\L2.Fn (L2.KOf KX) mg "_law_ways" Nb.Qsr/\L2.Fn (L2.KOf KX) mg "_law_length" Nb.Qbi/\L2.Fn (L2.KOf KX) mg "_law_plan" Nb.Qlp/\L2.Fn (L2.KOf KX) mg "_law_many" Nb.Qol/\L2.Fn (L2.KOf KX) mg "_law_all_done" Nb.Qqi/\L2.Fn (L2.KOf KX) mg "is_whole" Nb.sIW/\L2.Fn (L2.KOf KX) mg "is_pair" Nb.sIP/\L2.Fn (L2.KOf KX) mg "said_by" Nb.Qsy/\L2.Fn (L2.KOf KX) mg "choices_taken" Nb.Qgg/\L2.Fn (L2.KOf KX) mg "is_as_told" Nb.Qtg/\L2.Fn (L2.KOf KX) mg "wrong_works" Nb.sWW/\L2.Fn (L2.KOf KX) mg "wrong_rooms" Nb.sWR/\L2.Fn (L2.KOf KX) mg "wrong_stores" Nb.sWS/\L2.Fn (L2.KOf KX) mg "wrong_afters" Nb.sWA/\L2.Fn (L2.KOf KX) mg "broken" Nb.Qen/\L2.Fn (L2.KOf KX) mg "work_row" Nb.sWoR/\L2.Fn (L2.KOf KX) mg "bench_row" Nb.sBeR/\L2.Fn (L2.KOf KX) mg "drawn" Nb.sDrw/\L2.Fn (L2.KOf KX) mg "is_bench_row" Nb.sIBR/\L2.Fn (L2.KOf KX) mg "choices_seen" Nb.sChS/\L2.Fn (L2.KOf KX) mg "plan_seen" Nb.sPSe/\L2.Fn (L2.KOf KX) mg "_law_eased" Nb.sEas/\L2.Fn (L2.KOf KX) mg "_law_used" Nb.sUse/\L2.Fn (L2.KOf KX) mg "_law_picture" Nb.sPic/\L2.Fn (L2.KOf KX) mg "_law_refused" Nb.sRef/\L2.Fn (L2.KOf KX) mg "law" Nb.sLaw:=by
   dsimp only[L2.KOf]
   refine⟨?_,?_,?_,?_,?_,?_,?_,?_,?_,?_,?_,?_,?_,?_,?_,?_,?_,?_,?_,?_,?_,?_,?_,?_,?_,?_,?_,?_,?_,?_,?_,?_,?_,?_,?_⟩<;>(refine' L2.Yo KX G ?a ?l ?c ?k;case a | l | c | k=>k_is)
  have M:Nb.Mg mg:=by
   refine' ⟨PySem.W.mg_none_of KX G ?m_len,PySem.W.mg_none_of KX G ?m_min,PySem.W.mg_none_of KX G ?m_max,PySem.W.mg_none_of KX G ?m_sum,PySem.W.mg_none_of KX G ?m_all,PySem.W.mg_none_of KX G ?m_any,PySem.W.mg_none_of KX G ?m_abs,PySem.W.mg_none_of KX G ?m_isinstance,PySem.W.mg_none_of KX G ?m_sorted,PySem.W.mg_none_of KX G ?m_range_,PySem.W.mg_none_of KX G ?m_zip_,PySem.W.mg_none_of KX G ?m_tuple_,PySem.W.mg_none_of KX G ?m_list_,PySem.W.mg_none_of KX G ?m_int_,PySem.W.mg_none_of KX G ?m_bool_,PySem.W.mg_none_of KX G ?m_dict_,PySem.W.mg_none_of KX G ?m_enumerate_,PySem.W.mg_none_of KX G ?m_reversed_,PySem.W.mg_none_of KX G ?m_ValueError_,PySem.W.mg_none_of KX G ?m_set_,PySem.W.mg_none_of KX G ?m_str_⟩
   (case m_len | m_min | m_max | m_sum | m_all | m_any | m_abs | m_isinstance | m_sorted | m_range_ | m_zip_ | m_tuple_ | m_list_ | m_int_ | m_bool_ | m_dict_ | m_enumerate_ | m_reversed_ | m_ValueError_ | m_set_ | m_str_=>k_is)
  have CL:∃(C fI fE fY fL fM fU fG fR fA:Addr) (fdI fdE fdY fdL fdM fdU fdG fdR fdA:FuncData),Nb.FcTxt (L2.KOf KX) mg C/\L2.Mk (L2.KOf KX) C fI/\L2.Fun (L2.KOf KX) "__init__" "Facts.__init__" Nb.Wf fI fdI/\L2.Fun (L2.KOf KX) "end_of" "Facts.end_of" Nb.Qgc fE fdE/\L2.Meth (L2.KOf KX) C "end_of" fE/\L2.Fun (L2.KOf KX) "is_way" "Facts.is_way" Nb.Vt fY fdY/\L2.Meth (L2.KOf KX) C "is_way" fY/\L2.Fun (L2.KOf KX) "last_begin" "Facts.last_begin" Nb.Qbm fL fdL/\L2.Meth (L2.KOf KX) C "last_begin" fL/\L2.Fun (L2.KOf KX) "many" "Facts.many" Nb.Qbn fM fdM/\L2.Meth (L2.KOf KX) C "many" fM/\L2.Fun (L2.KOf KX) "used_by" "Facts.used_by" Nb.Qbo fU fdU/\L2.Meth (L2.KOf KX) C "used_by" fU/\L2.Fun (L2.KOf KX) "gain_by" "Facts.gain_by" Nb.Qbp fG fdG/\L2.Meth (L2.KOf KX) C "gain_by" fG/\L2.Fun (L2.KOf KX) "room_of" "Facts.room_of" Nb.Qbq fR fdR/\L2.Meth (L2.KOf KX) C "room_of" fR/\L2.Fun (L2.KOf KX) "all_choices" "Facts.all_choices" Nb.Qcz fA fdA/\L2.Meth (L2.KOf KX) C "all_choices" fA:=by
   dsimp only[L2.KOf]
   refine' ⟨_,_,_,_,_,_,_,_,_,_,_,_,_,_,_,_,_,_,_,⟨⟨?pg,?hd,?po,?sa⟩,?n1,?n2,?n3,?n4,?n5,?n6,?n7,PySem.W.mg_of KX G ?aC⟩,⟨?mk,?a1,?i1,?kc⟩,L2.Kd (st:=Nb.Wf) ?l1 ?c1 ?k1,L2.Kd (st:=Nb.Qgc) ?l2 ?c2 ?k2,⟨?a2,?i2,?m2⟩,L2.Kd (st:=Nb.Vt) ?l3 ?c3 ?k3,⟨?a3,?i3,?m3⟩,L2.Kd (st:=Nb.Qbm) ?l4 ?c4 ?k4,⟨?a4,?i4,?m4⟩,L2.Kd (st:=Nb.Qbn) ?l5 ?c5 ?k5,⟨?a5,?i5,?m5⟩,L2.Kd (st:=Nb.Qbo) ?l6 ?c6 ?k6,⟨?a6,?i6,?m6⟩,L2.Kd (st:=Nb.Qbp) ?l7 ?c7 ?k7,⟨?a7,?i7,?m7⟩,L2.Kd (st:=Nb.Qbq) ?l8 ?c8 ?k8,⟨?a8,?i8,?m8⟩,L2.Kd (st:=Nb.Qcz) ?l9 ?c9 ?k9,⟨?a9,?i9,?m9⟩⟩
   (case aC | a1 | i1 | l1 | c1 | k1 | a2 | i2 | l2 | c2 | k2 | m2 | a3 | i3 | l3 | c3 | k3 | m3 | a4 | i4 | l4 | c4 | k4 | m4 | a5 | i5 | l5 | c5 | k5 | m5 | a6 | i6 | l6 | c6 | k6 | m6 | a7 | i7 | l7 | c7 | k7 | m7 | a8 | i8 | l8 | c8 | k8 | m8 | a9 | i9 | l9 | c9 | k9 | m9 | pg | hd | po | sa | mk | kc=>k_is)
   (case n1=>unfold L2.NoAttr;k_is);(case n2=>unfold L2.NoAttr;k_is);(case n3=>unfold L2.NoAttr;k_is);(case n4=>unfold L2.NoAttr;k_is);(case n5=>unfold L2.NoAttr;k_is);(case n6=>unfold L2.NoAttr;k_is);(case n7=>unfold L2.NoAttr;k_is)
  obtain⟨C,fI,fE,fY,fL,fM,fU,fG,fR,fA,fdI,fdE,fdY,fdL,fdM,fdU,fdG,fdR,fdA,T,mkI,FI,FE,mE,FY,mY,FL,mL,FM,mM,FU,mU,FG,mG,FR,mR,FA,mA⟩:=CL
  have TNN:∃aN fN,L2.Tab w (L2.KOf KX) mg "NAMES" aN fN/\Nb.Qej fN:=by
   dsimp only[L2.KOf]
   refine' ⟨_,Nb.Qpc (PySem.W.mg_of KX G ?b1) ?l1 ?k1 ?o1 ?e1⟩
   (case b1 | l1=>k_is);(case k1=>k_keys);(case o1=>decide);(case e1=>exact rfl)
  obtain⟨aN,fN,TN,hN⟩:=TNN
  have EX:∃(CX DX fX:Addr) (fdX:FuncData) (fo:Obj),L2.ErrI (L2.KOf KX) mg "NoPicture" CX DX fX "row"/\L2.Fun (L2.KOf KX) "__init__" "NoPicture.__init__" Nb.sNPI fX fdX/\(L2.KOf KX).lookup fX=some fo/\fo.cls=.type "function"/\PySem.W.keepIn (L2.KOf KX) (.ref CX)=true/\Nb.EPk (L2.KOf KX) mg CX DX:=by
   dsimp only[L2.KOf]
   refine' ⟨_,_,_,_,_,⟨PySem.W.mg_of KX G ?b1,⟨_,_,_,_,_,_,_,_,_,_,_,_,_,_,?c1,?c2,?c3,?c4,?c5⟩,⟨_,_,_,_,?m1,?m2,?m3,?m4,?m5⟩,Nb.ve_row⟩,L2.Kd (st:=Nb.sNPI) ?f1 ?f2 ?f3,?g1,?g2,?g3,⟨PySem.W.mg_of KX G ?p1,L2.isA_of ?i1 ?i2 ?i3,PySem.W.mg_of KX G ?p2,⟨?x1,?x2,?x3,?x4,?x5⟩,⟨?y1,?y2,?y3,?y4,⟨_,_,_,_,?y5,?y6⟩⟩,?z2⟩⟩
   (case b1=>k_is);(case c1=>exact rfl);(case c2=>kernel_rfl);(case c3 | c4 | c5=>k_is)
   (case m1=>exact rfl);(case m2=>kernel_rfl);(case m3 | m4 | m5 | f1 | f2 | f3=>k_is);(case g1=>exact rfl);(case g2=>exact rfl);(case g3 | p1 | i1 | i2 | i3 | p2 | x1 | x2 | x3 | x4 | x5 | y1 | y2 | y3 | y4=>k_is);(case y5=>exact rfl);(case y6=>exact rfl)
   (case z2=>kit_is)
  obtain⟨CX,DX,fX,fdX,fo,EI,FX,lkX,fcX,kcX,EK⟩:=EX
  have bX:=FX.binds (ps:=["self","row"]) fun _ _ _ _ _ _=>L2.Jt (fun _ _=>rfl)
  have FF0:∃tW,mg "WIDTH"=some (.int 13 tW):=by
   refine' ⟨_,PySem.W.mg_of KX G ?f1⟩
   (case f1=>exact rfl)
  obtain⟨tW,hWI⟩:=FF0
  have bI:=FI.binds (ps:=["self","book"]) fun _ _ _ _ _ _=>L2.Jt (fun _ _=>rfl)
  have bE:=FE.binds (ps:=["self","choice"]) fun _ _ _ _ _ _=>L2.Jt (fun _ _=>rfl)
  have bY:=FY.binds (ps:=["self","work","way"]) fun _ _ _ _ _ _=>L2.Ww (fun _ _ _=>rfl)
  have bL:=FL.binds (ps:=["self","work","way"]) fun _ _ _ _ _ _=>L2.Ww (fun _ _ _=>rfl)
  have bM:=FM.binds (ps:=["self","word","choice","name"]) fun _ _ _ _ _ _=>L2.Qsf (fun _ _ _ _=>rfl)
  have bU:=FU.binds (ps:=["self","choice","bench","day"]) fun _ _ _ _ _ _=>L2.Qsf (fun _ _ _ _=>rfl)
  have bG:=FG.binds (ps:=["self","choice","store","day"]) fun _ _ _ _ _ _=>L2.Qsf (fun _ _ _ _=>rfl)
  have bR:=FR.binds (ps:=["self","bench","day"]) fun _ _ _ _ _ _=>L2.Ww (fun _ _ _=>rfl)
  have bA:=FA.binds (ps:=["self"]) fun _ _ _ _ _ _=>L2.bind1 (fun _=>rfl)
  obtain⟨f,fd,FF,hm⟩:=F35
  have e0:=hmg.symm.trans hm
  cases e0
  refine' ⟨fd,?b,fun base kb nb=>Nb.all_ok M T TN hN mkI FI bI FE bE mE FY bY mY FL bL mL FM bM mM FU bU mU FG bG mG FR bR mR FA bA mA EI FX bX lkX fcX kcX EK hWI F1 F2 F3 F4 F5 F6 F7 F8 F9 F10 F11 F12 F13 F14 F15 F16 F17 F18 F19 F20 F21 F22 F23 F24 F25 F26 F27 F28 F29 F30 F31 F32 F33 F34 FF⟩
  obtain⟨oc,od,kV,doc,pm,an,cdv,ct,osl,rfl,lk,hcd⟩:=FF.ex
  exact fun s u=>.of_eq rfl

